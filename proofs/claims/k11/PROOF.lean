import PyProof.Rows.All
import Wide.All
import OpenK.AllK
import Wide.FinOn
import KE.KStateDown
import HandS.Head0
import HandS.Head1
import HandS.Head2
import HandS.HeadEnd
import HandS.HeadHook1
import HandS.HeadHook2
import HandS.HeadHook3
import HandS.Words
import HandS.ForMost
import HandS.IsInst
import HandS.Evl
import PyProof.StrLawsRepr
import KE.KTryMore
import KE.KExcIs
import HandS.Exc
import HandS.ExcInit
import HandS.ExcIs
import HandS.ForExc
import PyProof.ExcBaseAll.IndexError
import PyProof.ExcBaseAll.OverflowError
import PyProof.ExcBaseAll.RuntimeError
import PyProof.ExcBaseAll.TypeError
import PyProof.ExcBaseAll.ArithmeticError
import PyProof.ExcBaseAll.LookupError
import KE.KDictZip
import KE.KStar
import HandS.Zip0
import HandS.Star
import KE.GoesMore
import HandS.Zip
import HandS.Conv
import HandS.Style
import HandS.SetFor
import HandS.Deep
import HandS.SortInts
import HandS.SortRule
import HandS.RaiseMore
import KE.GoesZip
import HandS.More
import HandS.TupSets
import HandS.DictComp
import HandS.MakeKwOnly
import HandS.Dict
import HandS.Strs
import HandS.Flt
import HandS.TupLe
import HandS.Defaults
import HandS.MakeKw
import HandS.OwnEq
import HandS.SlotsOwn
import PyProof.InstNe
import HandS.CallLocal
import HandS.TupAny
import PyProof.DictUpdate
import KE.SortKeyed
import HandS.SortKw
import PySem.Challenge.RW_crossgrants_k11_known_pairs
set_option Elab.async false
set_option linter.all false
set_option maxRecDepth 100000
set_option maxHeartbeats 1000000
/-! EL0: the top run in the kernel: what the looks need (it stands first in a joined text, the looks behind it: they want much memory) -/
namespace Cg
open PySem PySem.Spec PyProof.Rows
/-- the module's names, then all objects below n -/
def asR (n : Nat) : List Addr := mainGlobals :: List.range n
def obsN (n : Nat) (fn : List He.DefD) (g : Addr → Option Obj) : He.AlD := He.obsD [] fn (He.frG g (asR n))
/-- tables of the top: their keys -/
def tabB (tb : List (Str × List Str)) (K : PySem.W.Frag) : List (Option (List (Option (Str × Int)))) := tb.map fun t => He.dicW K (He.ga K t.1)
def tabV (tb : List (Str × List Str)) (w : World) : List (Option (List (Option (Str × Int)))) := tb.map fun t => some (He.keysIn w.params t.2)
section
open PySem.W PySem.Calls
/-- what the library looks at behind the top -/
def RunA (r : OpenRow) (q : Program) (M : Nat) (loose : List PySem.Str) (w : World) : Prop :=
  ∀ os : OsState, (HandSHeadRun.endF (HandSHeadRun.stepQ (HandSHeadRun.denQ HandSHeadRun.tabQ) r.prog w) M r.prog w os).map (fun s => (HandSHeadRun.looksF r.prog (PySem.W.boot_heap w.params) s.abs, HandSHeadRun.seenQ q loose (importedModules r.prog.main.body) (fun s => xlAt q [] s && recOk r.toRowW.records s) s.abs)) = some (true, openGood q loose)
/-- the defs -/
def RunD (r : OpenRow) (n : Nat) (fn : List He.DefD) (M : Nat) (w : World) : Prop :=
  ∀ os : OsState, (HandSHeadRun.endF (HandSHeadRun.stepQ (HandSHeadRun.denQ HandSHeadRun.tabQ) r.prog w) M r.prog w os).map (fun s => obsN n fn (HandSHeadRun.getT s)) = some (He.valD fn)
/-- the tests -/
def RunT (r : OpenRow) (n : Nat) (B : List (PySem.W.Frag → Bool)) (M : Nat) (w : World) : Prop :=
  ∀ os : OsState, (HandSHeadRun.endF (HandSHeadRun.stepQ (HandSHeadRun.denQ HandSHeadRun.tabQ) r.prog w) M r.prog w os).map (fun s => B.all fun f => f (He.frG (HandSHeadRun.getT s) (asR n))) = some true
theorem map_two {α β γ : Type} {o : Option α} {f : α → β} {g : α → γ} {x : β} {y : γ} (h : o.map f = some x) (k : o.map g = some y) : o.map (fun s => (f s, g s)) = some (x, y) := by
  cases o with
  | none => cases h
  | some s =>
    have e1 : f s = x := Option.some.inj h
    have e2 : g s = y := Option.some.inj k
    show some (f s, g s) = _
    rw [e1, e2]
theorem map_to {α β γ : Type} {o : Option α} {f : α → β} {x : β} (h : o.map f = some x) (t : β → γ) : o.map (fun s => t (f s)) = some (t x) := by
  cases o with
  | none => cases h
  | some s => exact congrArg (fun z => some (t z)) (Option.some.inj h)
theorem RunD.app {r : OpenRow} {n : Nat} {f1 f2 : List He.DefD} {M : Nat} {w : World} (h : RunD r n f1 M w) (k : RunD r n f2 M w) : RunD r n (f1 ++ f2) M w := fun os => by
  have z := map_to (map_two (h os) (k os)) fun z : He.AlD × He.AlD => ((z.1.1 && z.2.1, z.1.2 ++ z.2.2) : He.AlD)
  have e1 : ((He.valD f1).1 && (He.valD f2).1, (He.valD f1).2 ++ (He.valD f2).2) = He.valD (f1 ++ f2) := by
    unfold He.valD
    rw [List.map_append]
    rfl
  rw [e1] at z
  refine Eq.trans ?_ z
  congr 1
  funext s
  show (([] : List He.Fa).all (fun f => f.ok _) && (f1 ++ f2).all (fun d => d.ok _), (f1 ++ f2).map _) = (_, _)
  rw [List.all_append, List.map_append]
  rfl
theorem RunT.app {r : OpenRow} {n : Nat} {f1 f2 : List (PySem.W.Frag → Bool)} {M : Nat} {w : World} (h : RunT r n f1 M w) (k : RunT r n f2 M w) : RunT r n (f1 ++ f2) M w := fun os => by
  have z := map_to (map_two (h os) (k os)) fun z : Bool × Bool => z.1 && z.2
  refine Eq.trans ?_ z
  congr 1
  funext s
  exact List.all_append
/-- the tables -/
def RunW (r : OpenRow) (n : Nat) (tb : List (Str × List Str)) (M : Nat) (w : World) : Prop :=
  ∀ os : OsState, (HandSHeadRun.endF (HandSHeadRun.stepQ (HandSHeadRun.denQ HandSHeadRun.tabQ) r.prog w) M r.prog w os).map (fun s => tabB tb (He.frG (HandSHeadRun.getT s) (asR n))) = some (tabV tb w)
theorem RunA.none {r : OpenRow} {q : Program} {n M : Nat} {loose : List PySem.Str} {w : World} (h : RunA r q M loose w) : RunW r n [] M w := fun os => map_to (h os) fun _ => []
end
end Cg

set_option Elab.async false
set_option linter.all false
set_option maxRecDepth 100000
namespace Cg
open PySem PySem.Spec PyProof.Rows L2
/-! ### calls where no repr is under way around them -/
section
variable {P : Program} {w : World} {K : PySem.W.Frag} {mg : Str → Option Value} {base : Heap}
/-- one call of a def of the text, at one place: its body's walk there -/
theorem run_at {k : Nat} {f : Addr} {x q : Str} {ar : Arguments} {bd : List Stmt} {sc : Scope} {d1 d2 d3 d4 cv d5 oc : Value} {an od : Option Addr} {sl : Array (Option Value)} {N ps : List Str}
    {A : Around} {outer : List Env} {s : Shared} {H : Hp} {args : Args} {us : List Value} {vs : List V} {Q : VK} {E : XK}
    (look : K.lookup f = some ⟨oc, od, .func (PySem.W.fnOf x q ar bd sc d1 d2 d3 d4 an cv d5), sl⟩) (code : PySem.W.codeIn K cv q = true) (S : FnScope N ps sc) (len : vs.length = ps.length)
    (room : Room (k + 1) A) (e0 : Env0 P w K mg base A outer s H) (bnd : BindsTo s (PySem.W.fnOf x q ar bd sc d1 d2 d3 d4 an cv d5) args (ps.zip us)) (rel : Vals vs us)
    (walk : ∃ t, PSs (cxOf CX0 P w K mg base N q sc f cv A outer s H E) bd t ∧ t { nx := fun _ H' => Q .non H', rt := Q } (start N vs) H) :
    codeAny (model P w) A (.call (.ref f) args) (CR CX0 outer P w H s Q E) s := by
  have old : ∀ b o, base.get? b = some o → s.heap.get? b = some o := fun b o e => (e0.bs b o e).1
  have kin := e0.mod.kin.keeps old
  refine codeAny_call_function room.depth (kin _ _ look) rfl S.co S.gen rfl (PySem.W.codeRec_of kin code) (bnd _ _ _ _ ?_)
  refine wpAny_newFunctionEnv_cells S.kind (fun z hz => ?_) ?_
  · obtain ⟨n, v⟩ := z
    cases S.par n (List.of_mem_zip hz).1 with
    | inl q1 => exact .inl q1
    | inr q1 => exact .inr ⟨q1, PySem.W.cellsFrom_some _ _ _ (.inl q1)⟩
  · rintro env rfl s1 ic
    refine ⟨(e0.mod.nolimit.keeps old).keeps ic.toInCall.keep, codeAny_func ?_⟩
    obtain ⟨t, ht, hq⟩ := walk
    have I0 := inv_start (CX := CX0) (E := E) S room.hd e0 len rel ic
    refine wpAny_mono (ht.run [] s1 (start N vs) H _ I0 hq) ?_ (fun _ _ z => z)
    rintro (_ | u | _ | _) s2 got
    all_goals first
      | (obtain ⟨σ2, H2, J, g⟩ := got; exact ⟨V.non, H2, J.os, J.bare, J.base, J.hok, rfl, g⟩)
      | (obtain ⟨v2, σ2, H2, J, rv, g⟩ := got; exact ⟨v2, H2, J.os, J.bare, J.base, J.hok, rv, g⟩)
      | (obtain ⟨_, _, _, g⟩ := got; exact g.elim)
/-- a def's promise, kept where no repr is under way -/
structure FnG (P : Program) (w : World) (K : PySem.W.Frag) (mg : Str → Option Value) (base : Heap) (k : Nat) (f : Addr) (fd : FuncData) (ps : List Str) (sp : Sp) : Prop where
  len : ∀ vs H Q E, sp vs H Q E → vs.length = ps.length
  go : ∀ (A : Around) (outer : List Env) (s : Shared) (H : Hp) (args : Args) (us : List Value) (vs : List V) (Q : VK) (E : XK), A.guards = some [] → Room k A → Env0 P w K mg base A outer s H →
    BindsTo s fd args (ps.zip us) → Vals vs us → sp vs H Q E → codeAny (model P w) A (.call (.ref f) args) (CR CX0 outer P w H s Q E) s
theorem fnG {x q : Str} {st : Stmt} {f : Addr} {fd : FuncData} {N ps : List Str} {k : Nat} {sp : Sp} (F : Fun K x q st f fd) (S : FnScope N ps (defScope st)) (len : ∀ vs H Q E, sp vs H Q E → vs.length = ps.length)
    (walk : ∀ (cv : Value) (A : Around) (outer : List Env) (s : Shared) (H : Hp) (vs : List V) (Q : VK) (E : XK), A.guards = some [] → Room k (A.deeper (envOfC q (defScope st) s.heap.objs.size f cv)) → sp vs H Q E →
      ∃ t, PSs (cxOf CX0 P w K mg base N q (defScope st) f cv A outer s H E).nox (defBody st) t ∧ t { nx := fun _ H' => Q .non H', rt := Q } (start N vs) H) : FnG P w K mg base (k + 1) f fd ps sp := by
  obtain ⟨oc, od, d2, d3, d4, an, cv, d5, sl, rfl, look, code⟩ := F.ex
  refine ⟨len, fun A outer s H args us vs Q E hg room e0 bnd rel h => ?_⟩
  obtain ⟨t, ht, hq⟩ := walk cv A outer s H vs Q E hg (room.deeper _) h
  exact run_at look code S (len _ _ _ _ h) room e0 bnd rel ⟨t, ht.nox, hq⟩
/-- the law itself, called from outside -/
theorem law_at {mb : Str → Option Value} {k : Nat} {fa a : Addr} {fd : FuncData} {x : Str} {sp : Sp} {s1 : Shared} {vs : List Value} {ns : List Int} (kin : K.In s1.heap) (gl : s1.heap.Ns mainGlobals mg) (bl : s1.heap.Ns builtinsNs mb)
    (bb : ∀ y : Str, y ≠ "__name__" → mb y = bootBuiltins y) (lim : s1.heap.NoLimit) (gens : s1.gens = #[]) (ha : s1.heap.get? a = some { cls := .type "list", data := .seq vs.toArray }) (hi : IntsAre vs ns) (hl : ns.length ≤ sizeLine) (room : Room k callerA)
    (F : ∀ base : Heap, K.In base → base.Ns mainGlobals mg → FnG P w K mg base k fa fd [x] sp) (bnd : ∀ (s : Shared) (u : Value), BindsTo s fd ⟨[u], []⟩ [(x, u)])
    (hsp : ∀ H : Hp, SqL K H a (ns.map V.int) → sp [.ref a] H (fun v _ => v = .bl true) E0) :
    codeAny (model P w) callerA (.call (.ref fa) ⟨[.ref a], []⟩) (fun r s' => r = .ok (.ret (.bool true)) ∧ OldK s1.heap s'.heap ∧ s'.os = s1.os ∧ AllBare s'.gens) s1 := by
  have rv := vals_ints hi
  have lv := hi.length
  let ob : Obj := { cls := .type "list", data := .seq vs.toArray }
  -- what is tracked: the script, known, unless it is the module's own
  obtain ⟨H, hS, hok, only⟩ : ∃ H : Hp, SqL K H a (ns.map V.int) ∧ HOk P w H s1.heap ∧ ∀ b u, H b = some u → b = a ∧ u = .frz ob (.lst (ns.map V.int)) ∧ K.lookup b = none := by
    cases hk : K.lookup a with
    | some o =>
      have e := kin a o hk
      rw [ha] at e
      cases e
      exact ⟨fun _ => none, .inr ⟨_, vs.toArray, _, hk, rfl, rfl, rfl, by rw [List.size_toArray, lv]; exact hl, by simpa using rv⟩, (fun _ _ z => nomatch z), fun _ _ z => nomatch z⟩
    | none =>
      have one : ∀ b u, (if b = a then some (HO.frz ob (.lst (ns.map V.int))) else none) = some u → b = a ∧ u = .frz ob (.lst (ns.map V.int)) := fun b u z => by
        by_cases hb : b = a
        · rw [if_pos hb] at z; exact ⟨hb, (Option.some.inj z).symm⟩
        · rw [if_neg hb] at z; cases z
      refine ⟨fun b => if b = a then some (.frz ob (.lst (ns.map V.int))) else none, .inl (.inr ⟨ob, if_pos rfl⟩), fun b u z => ?_, fun b u z => ⟨(one b u z).1, (one b u z).2, by rw [(one b u z).1]; exact hk⟩⟩
      obtain ⟨rfl, rfl⟩ := one b u z
      exact ⟨ha, by rw [List.length_map]; exact hl, vs, _, rv, ha⟩
  have free : ∀ {b : Addr} {o : Obj}, s1.heap.get? b = some o → (∀ es n, o.data = .seq es n → False) → H b = none := fun {b o} e d => by
    cases z : H b with
    | none => rfl
    | some u =>
      obtain ⟨rfl, _, _⟩ := only b u z
      rw [ha] at e
      cases e
      exact (d _ _ rfl).elim
  have nsK : ∀ {b : Addr} {m : Str → Option Value}, s1.heap.Ns b m → (hidT s1.heap H).Ns b m := fun {b m} ⟨o, es, ep, e, d, r⟩ => ⟨o, es, ep, hidT_get e (free e fun _ _ z => by rw [d] at z; cases z), d, r⟩
  have kin' : K.In (hidT s1.heap H) := fun b o e => hidT_get (kin b o e) (by
    cases z : H b with
    | none => rfl
    | some u => rw [(only b u z).2.2] at e; cases e)
  obtain ⟨mc, l1, l2⟩ := lim
  have e0 : Env0 P w K mg (hidT s1.heap H) callerA [] s1 H := ⟨rfl, ⟨kin', nsK gl, ⟨mb, nsK bl, bb⟩, ⟨mc, nsK l1, l2⟩⟩, fun _ _ e => of_hidT e, Nat.le_of_eq (hidT_size _ _), trivial, (fun _ z => nomatch z), hok, .of_eq gens⟩
  refine codeAny_mono ((F _ kin' (nsK gl)).go callerA [] s1 H ⟨[.ref a], []⟩ [.ref a] [.ref a] _ _ rfl room e0 (bnd s1 (.ref a)) (.cons rfl .nil) (hsp H hS)) ?_
  rintro (err | (_ | _ | _ | u)) s2 got
  all_goals first
    | exact False.elim got
    | skip
  obtain ⟨v, H2, os, bare, un, hok2, rel, rfl⟩ := got
  obtain rfl : u = Value.bool true := rel
  refine ⟨rfl, OldK.of_keep fun b o e => ?_, os, bare⟩
  cases z : H b with
  | none => exact un.keep b o e z (fun y => nomatch y) (fun y => nomatch y)
  | some u =>
    obtain ⟨_, rfl, _⟩ := only b u z
    have k1 := (hok b _ z).1
    have k2 := (hok2 b _ (un.frzs b _ _ z)).1
    rw [e] at k1
    cases k1
    exact k2
end
/-- the goal that k_head leaves, from the law's promise -/
theorem walkG {l : PySem.W.OpenLaw} {n k : Nat} {q : Program} {loose : List Str} {XP : (Str → Option Value) → Heap → Prop} {YP : World → Heap → Prop} {d : DefRec} {K : Params → PySem.W.Frag} {sp : PySem.W.Frag → Sp} {x : Str}
    (hn : l.most = some n) (hn2 : n ≤ sizeLine) (hdf : d.params.defaults = []) (room : Room k callerA) (hY : ∀ (w : World) (h : Heap), YP w h → (K w.params).In h)
    (F : ∀ (w : World) (mg : Str → Option Value) (fa : Addr) (h : Heap), (K w.params).In h → h.Ns mainGlobals mg → mg d.name = some (.ref fa) → ∃ fd : FuncData, (∀ (s : Shared) (u : Value), BindsTo s fd ⟨[u], []⟩ [(x, u)]) ∧
      ∀ base : Heap, (K w.params).In base → base.Ns mainGlobals mg → FnG l.prog w (K w.params) mg base k fa fd [x] (sp (K w.params)))
    (hsp : ∀ (K : PySem.W.Frag) (H : Hp) (a : Addr) (ns : List Int), ns.length ≤ n → SqL K H a (ns.map V.int) → sp K [.ref a] H (fun v _ => v = .bl true) E0) : PySem.W.WalkO q loose XP YP l.row.toRowW d [] (fun f vs => PySem.call f vs) := by
  refine Att.attach_call hn hdf ?_
  intro w s0 s1 mg mb fa o pm cd doc a vs ns G Y ho hd hcd hmg hobj hints hlen gens
  obtain ⟨fd, hb, hF⟩ := F w mg fa _ (hY w _ Y) G.T.g hmg
  exact law_at (hY w _ Y) G.T.g G.T.b G.T.builtins G.T.nolimit gens hobj hints (Nat.le_trans hlen hn2) room hF hb fun H hS => hsp _ H a ns hlen hS
end Cg

set_option Elab.async false
set_option linter.all false
set_option maxRecDepth 100000
namespace Cg
open PySem PySem.Spec PyProof.Rows L2
/-! ### data: what repr makes of them -/
mutual
/-- no dict, no int that is too great for repr, texts of signs -/
def okD : PyData → Bool
  | .none => true
  | .bool _ => true
  | .int i => decide (i.natAbs.log2 < 1920)
  | .str x => PyData.strOk x
  | .list xs => okAll xs
  | .tuple xs => okAll xs
  | .dict _ => false
def okAll : List PyData → Bool
  | [] => true
  | x :: xs => okD x && okAll xs
end
mutual
/-- at least as long as its text -/
def wz : PyData → Nat
  | .none => 4
  | .bool _ => 5
  | .int i => i.natAbs.log2 + 2
  | .str x => 10 * x.length + 2
  | .list xs => wzAll xs + 3
  | .tuple xs => wzAll xs + 3
  | .dict _ => 0
def wzAll : List PyData → Nat
  | [] => 0
  | x :: xs => wz x + 2 + wzAll xs
end
theorem listText_le : ∀ ts : List Str, (listText ts).length ≤ piled ts + 2
  | [] => by decide
  | t :: r => by
    have h := textFrom_length_pos r 1 (("[" : Str) ++ ("" : String) ++ t) (Nat.succ_pos 0)
    have e : (("[" : Str) ++ ("" : String) ++ t).length = 1 + t.length := by
      rw [strLen_append, strLen_append]; rfl
    have e2 : (listText (t :: r)).length = (textFrom 1 (("[" : Str) ++ ("" : String) ++ t) r).length + 1 := by
      show (textFrom 1 (("[" : Str) ++ ("" : String) ++ t) r ++ "]").length = _
      rw [strLen_append]; rfl
    rw [e2, h, e, piled_cons]
    omega
theorem tupleText_le (ts : List Str) : (tupleText ts).length ≤ piled ts + 3 := by
  have e0 : (tupleText ts).length = 1 + (Str.join ", " ts).length + ((if ts.length == 1 then ",)" else ")" : String) : Str).length := by
    show ((("(" : Str) ++ Str.join ", " ts) ++ ((if ts.length == 1 then ",)" else ")" : String) : Str)).length = _
    rw [strLen_append, strLen_append]; rfl
  have e1 : ((if ts.length == 1 then ",)" else ")" : String) : Str).length ≤ 2 := by split <;> decide
  cases ts with
  | nil => decide
  | cons t r =>
    have e2 := join_length_add (t :: r) (by simp)
    omega
mutual
theorem shown_le : ∀ d : PyData, okD d = true → d.showable = true ∧ d.hasDict = false ∧ d.shown.length ≤ wz d
  | .none, _ => ⟨rfl, rfl, by decide⟩
  | .bool b, _ => ⟨rfl, rfl, by cases b <;> decide⟩
  | .int i, h => ⟨h, rfl, by
      show (Str.ofString (toString i)).length ≤ i.natAbs.log2 + 2
      rw [PySem.ofString_length]
      exact int_text_length_le (k := i.natAbs.log2 + 1) (by omega) (by omega)⟩
  | .str x, h => ⟨rfl, rfl, PySem.StrLaws.reprText_len x fun c hc => by
      have h' : x.cps.all (fun c => decide (c < 0x110000)) = true := h
      rw [← Array.all_toList] at h'
      exact Nat.lt_trans (of_decide_eq_true (List.all_eq_true.mp h' c hc)) (by decide)⟩
  | .list xs, h => by
    obtain ⟨a, b, c⟩ := shownAll_le xs h
    refine ⟨a, b, ?_⟩
    show (listText (PyData.shownAll xs)).length ≤ wzAll xs + 3
    have := listText_le (PyData.shownAll xs)
    omega
  | .tuple xs, h => by
    obtain ⟨a, b, c⟩ := shownAll_le xs h
    refine ⟨a, b, ?_⟩
    show (tupleText (PyData.shownAll xs)).length ≤ wzAll xs + 3
    have := tupleText_le (PyData.shownAll xs)
    omega
  | .dict _, h => by cases h
theorem shownAll_le : ∀ xs : List PyData, okAll xs = true → PyData.showableAll xs = true ∧ PyData.hasDictAll xs = false ∧ piled (PyData.shownAll xs) ≤ wzAll xs
  | [], _ => ⟨rfl, rfl, Nat.le_refl _⟩
  | x :: xs, h => by
    have h' : (okD x && okAll xs) = true := h
    rw [Bool.and_eq_true] at h'
    obtain ⟨a, b, c⟩ := shown_le x h'.1
    obtain ⟨a', b', c'⟩ := shownAll_le xs h'.2
    refine ⟨by show (PyData.showable x && PyData.showableAll xs) = true; rw [a, a']; rfl, by show (PyData.hasDict x || PyData.hasDictAll xs) = false; rw [b, b']; rfl, ?_⟩
    show piled (x.shown :: PyData.shownAll xs) ≤ wz x + 2 + wzAll xs
    rw [piled_cons]
    omega
end
end Cg

set_option Elab.async false
set_option linter.all false
set_option maxRecDepth 100000
set_option maxHeartbeats 4000000
/-! E0: exceptions that are caught and kept -/
namespace Cg
open PySem PySem.Spec PySem.W PyProof.Rows L2
section
variable {M : Model} {A : Around} {E : Value → Shared → Prop} {s : Shared}
end
/-! ### what an except clause names -/
/-- the classes that the clause's expression names -/
structure TestX (Y : Cx) (t : Expr) (cs : List Value) : Prop where
  run : ∀ {pins : List (Addr × Obj)} {σ : L2.St} {H : Hp} {s : Shared} {cls : Value} {a : Addr} {b : Bool} {Q : Bool → Shared → Prop} {E : Value → Shared → Prop}, Inv Y pins σ H s →
  Looks (model Y.prog Y.w) s.heap (typeOf (.ref a)) cls → exmAny Y.K cls cs = some b → (∀ h' : Heap, (∀ q o, s.heap.get? q = some o → h'.get? q = some o) → Q b { s with heap := h' }) →
  wpAny (model Y.prog Y.w) Y.A (eval t Y.env) (fun c s₁ => wpAny (model Y.prog Y.w) Y.A (excMatches (.ref a) c) Q E s₁) E s
inductive NamesL (Y : Cx) : List Expr → List Value → Prop
  | nil : NamesL Y [] []
  | cons {x : Str} {p : Pos} {c : Value} {es : List Expr} {cs : List Value} (h : Names Y x c) (t : NamesL Y es cs) : NamesL Y (.Name x p :: es) (c :: cs)
section
variable {Y : Cx} {pins : List (Addr × Obj)} {σ : L2.St} {H : Hp} {s : Shared} {E : Value → Shared → Prop} {pos p : Pos} {x : Str} {c : Value} {es : List Expr} {cs : List Value}
theorem named (n : Names Y x c) (iv : Inv Y pins σ H s) {Q : Value → Shared → Prop} (q : Q c s) : wpAny (model Y.prog Y.w) Y.A (eval (.Name x p) Y.env) Q E s := by
  obtain ⟨g1, g2, g3 | ⟨g4, g5, g6⟩⟩ := n
  · exact ld_glob iv g1 g3 q g2
  · exact ld_blt iv g1 g4 g5 q g6 g2
end
/-! ### a caught exception that is kept -/
/-- at a: an exception that was caught, of this class, its dict at d -/
def exK (a : Addr) (cls : Value) (d : Option Addr) : HO := .ext fun h => ∃ oe, h.get? a = some oe ∧ Zc cls d oe ∧ ∃ vs, oe.data = .fields vs
section
variable {X : Cx} {pins : List (Addr × Obj)} {σ : L2.St} {H : Hp} {s : Shared}
end
/-! ### try: .. except (A, B ..) as e: kept = e -/
section
variable {X : Cx} {n : Str} {t : Expr} {cs : List Value} {i : Nat} {body suite : List Stmt} {b₀ : Stmt} {pos pos' : Pos} {tb : WX → TS} {ts : Addr → Value → Option Addr → TS} {Wout : WX}
end
end Cg

set_option Elab.async false
set_option linter.all false
set_option maxRecDepth 100000
set_option maxHeartbeats 4000000
/-! E1: own exceptions over any class of Python's, with one field: raised, asked what they are, their field read -/
namespace Cg
open PySem PySem.Spec PySem.W PySem.Calls PyProof.Rows L2 Builtin Builtin.ObjectAttr
/-- what is wanted of a class of Python's own -/
structure XB (B newId initId : String) (bm : List Value) : Prop where
  bmB : ∃ bmB, ExcBaseFacts B newId initId bmB
  has : bm.contains (.type B) = true
  noA : bm.contains (.type "AttributeError") = false
  noN : bm.contains (.type "NameError") = false
  pass : ∀ self, refuseLoop self "__setattr__" bm = pure ()
  obj : bm.contains (.type "object") = true
  noref : ∀ c : Addr, bm.contains (.ref c) = false
/-! such a class is called: its maker is that of Python's class, then its own __init__ runs -/
section
variable {prog : Program} {w : World} {A : Around} {E : Value → Shared → Prop} {R : Result → Shared → Prop} {hp : Heap} {gs : Array GenState} {dr : Drawn} {tk : Nat} {os : OsState}
variable {nm q : Str} {C N fI : Addr} {bs bm : List Value} {dc : Bool} {sn : List Str} {sub : List Value} {ab : Bool} {col : Option Bool} {dd : Option Addr} {k0 k1 k2 k3 k5 : Option Value} {B newId initId : String} {us : List Value}
end
end Cg

set_option Elab.async false
set_option linter.all false
set_option maxRecDepth 100000
set_option maxHeartbeats 4000000
/-! E2: such an exception with one field, what: made, raised; kept ones asked what they are, their field read -/
namespace Cg
open PySem PySem.Spec PySem.W PySem.Calls PyProof.Rows L2 Builtin Builtin.ObjectAttr
/-! the text of __init__ -/
def xiA (p1 p2 : Pos) : Arguments := { posonlyargs := [], args := [{ arg := "self", annotation := none, pos := p1 }, { arg := "what", annotation := none, pos := p2 }], vararg := none, kwonlyargs := [], kw_defaults := [], kwarg := none, defaults := [] }
def xiB (q1 q2 q3 q4 : Pos) : List Stmt := [.Assign [.Attribute (.Name "self" q1) "what" q2] (.Name "what" q3) q4]
def xiS : Scope := { kind := .function, names := [(PySem.Str.ofString "self", .local), (PySem.Str.ofString "what", .local)], isGenerator := false, isCoroutine := false, more := [] }
/-- what the written part says of such a class, nm, at C, over Python's (its maker newId, its chain bm), and of its __init__, at fI -/
structure XC (K : Frag) (nm : Str) (C fI : Addr) (newId : String) (bm : List Value) : Prop where
  cls : ∃ q N bs sn sub ab col dd k0 k1 k2 k3 k5, K.lookup C = some (excClassObj nm q C N bs bm true sn sub ab col dd k0 k1 k2 k3 k5 newId)
  sa : findIn K (.ref C) "__setattr__" = some (some (.builtin "object.__setattr__"))
  ga : findIn K (.ref C) "__getattribute__" = some (some (.builtin "BaseException.__getattribute__"))
  gg : findIn K (.ref C) "__getattr__" = some none
  no : findIn K (.ref C) "what" = some none
  cl : findIn K (.ref C) "__class__" = some (some (.builtin "object.__class__"))
  ini : findIn K (.ref C) "__init__" = some (some (.ref fI))
  kp : keepIn K (.ref C) = true
  tI : typeIn K (.ref fI) = some (.type "function")
  fn : ∃ (qn : Str) (oc : Value) (od : Option Addr) (doc kV pm : Value) (an : Option Addr) (cdv ct : Value) (osl : Array (Option Value)) (p1 p2 q1 q2 q3 q4 : Pos),
    K.lookup fI = some ⟨oc, od, .func (fnOf "__init__" qn (xiA p1 p2) (xiB q1 q2 q3 q4) xiS .none kV doc pm an cdv ct), osl⟩ ∧ codeIn K cdv qn = true
section
variable {K : Frag} {nm nm' : Str} {C fI C' fI' : Addr} {newId newId' : String} {bm bm' : List Value}
theorem XC.clsIn (T : XC K nm C fI newId bm) : ∃ cd, PySem.W.clsIn K C = some cd ∧ cd.mro = .ref C :: bm ∧ cd.hasDict = true := by
  obtain ⟨q, N, bs, sn, sub, ab, col, dd, k0, k1, k2, k3, k5, h⟩ := T.cls
  refine ⟨{ name := nm, bases := bs, mro := .ref C :: bm, ns := N, qualname := q, hasDict := true, slotNames := sn, subclasses := sub, abstract := ab, collection := col, hasDel := false }, ?_, rfl, rfl⟩
  unfold PySem.W.clsIn
  rw [h]
theorem XC.sub (T : XC K nm C fI newId bm) (b : Value) : subIn K (.ref C) b = some ((Value.ref C :: bm).contains b) := by
  obtain ⟨cd, h1, h2, _⟩ := T.clsIn
  show mroIn K C b = _
  unfold mroIn
  rw [h1, Option.bind_some, h2]
  rfl
theorem XC.ty (T : XC K nm C fI newId bm) : typeIn K (.ref C) = some (.type "type") := by
  obtain ⟨q, N, bs, sn, sub, ab, col, dd, k0, k1, k2, k3, k5, h⟩ := T.cls
  show (K.lookup C).map (·.cls) = _
  rw [h]
  rfl
theorem XC.hd (T : XC K nm C fI newId bm) : hasDictIn K C = true := by
  obtain ⟨cd, h1, _, h3⟩ := T.clsIn
  unfold hasDictIn
  rw [h1]
  exact h3
/-- classes of other names stand elsewhere -/
theorem XC.ne (T : XC K nm C fI newId bm) (T' : XC K nm' C' fI' newId' bm') (h : nm ≠ nm') : C ≠ C' := fun z => by
  subst z
  obtain ⟨q, N, bs, sn, sub, ab, col, dd, k0, k1, k2, k3, k5, h1⟩ := T.cls
  obtain ⟨q', N', bs', sn', sub', ab', col', dd', k0', k1', k2', k3', k5', h2⟩ := T'.cls
  rw [h1] at h2
  have h3 := congrArg Obj.data (Option.some.inj h2)
  have h4 := Data.cls.inj h3
  exact h (congrArg ClassData.name h4)
/-- one of them in an except clause -/
theorem XC.exm (T : XC K nm C fI newId bm) (T' : XC K nm' C' fI' newId' bm') (hB : bm.contains (.type "BaseException") = true) (hB' : bm'.contains (.type "BaseException") = true) (nr : ∀ c : Addr, bm.contains (.ref c) = false) : exmOne K (.ref C) (.ref C') = some (decide (C = C')) := by
  refine exm_ref ?_ T'.hd T'.ty ?_
  · rw [T'.sub, List.contains_cons, hB', Bool.or_true]
  · rw [T.sub, List.contains_cons, nr, Bool.or_false]
    congr 1
    by_cases e : C = C'
    · subst e
      rw [decide_eq_true rfl, beq_self_eq_true]
    · rw [decide_eq_false e, beq_eq_false_iff_ne]
      exact fun z => e (Value.ref.inj z).symm
end
/-- what __init__ leaves of a fresh exception at x -/
structure XInit (h h' : Heap) (x C dx t1 : Addr) (v : Value) : Prop where
  keep : ∀ b o, b ≠ x → h.get? b = some o → h'.get? b = some o
  obj : h'.get? x = some { cls := .ref C, dict := some dx, data := .fields #[.ref t1, .none, .none, .none, .bool false, .none] }
  dbig : h.objs.size ≤ dx
  dne : dx ≠ x
  ns : h'.Ns1 dx (fun y => if y = "what" then some v else none)
/-- a made one -/
structure XMade (h h' : Heap) (e C d : Addr) (v : Value) : Prop where
  keep : ∀ b o, h.get? b = some o → h'.get? b = some o
  new : h.objs.size ≤ e
  obj : ∃ oe vs, h'.get? e = some oe ∧ oe.cls = .ref C ∧ oe.dict = some d ∧ oe.data = .fields vs ∧ vs[1]? = some .none
  dbig : h.objs.size ≤ d
  dne : d ≠ e
  ns : h'.Ns1 d (fun y => if y = "what" then some v else none)
section
variable {prog : Program} {w : World} {A : Around} {E : Value → Shared → Prop} {R : Result → Shared → Prop} {s : Shared} {K : Frag} {nm : Str} {C fI : Addr} {B newId initId : String} {bm : List Value}
end
abbrev xdW (v : V) : HO := .xd [(("what" : Str), v)]
section
variable {X : Cx} {nm : Str} {C fI : Addr} {B newId initId : String} {bm : List Value}
/-! ### a kept one -/
end
end Cg

set_option Elab.async false
set_option linter.all false
set_option maxRecDepth 100000
namespace Cg
open PySem PySem.Spec PyProof.Rows L2 Evl
/-! ### data that are tracked -/
/-- a dict's rows of ints, as they stand and as data -/
def kvI (p : Int × Int) : Key × V := (.inl p.1, .int p.2)
def kdI (p : Int × Int) : PyData × PyData := (.int p.1, .int p.2)
/-- a dict's rows of texts -/
def kz (ns : List Str) (vs : List V) : List (Key × V) := (ns.zip vs).map fun p => (.inr p.1, p.2)
/-- the keys of a dict, none twice: ints, or pairs of ints -/
inductive DKs where
  | i (ks : List Int)
  | p (ks : List (Int × Int))
def keyP (p : Int × Int) : List Key := [.inl p.1, .inl p.2]
def DKs.len : DKs → Nat
  | .i ks => ks.length
  | .p ks => ks.length
def DKs.Nd : DKs → Prop
  | .i ks => ks.Nodup
  | .p ks => ks.Nodup
/-- the dict -/
def DKs.ob : DKs → List V → HO
  | .i ks, vs => .dK ((ks.zip vs).map fun p => (.inl p.1, p.2))
  | .p ks, vs => .dT ((ks.zip vs).map fun p => (keyP p.1, p.2))
def DKs.dat : DKs → PyData
  | .i ks => .list (ks.map .int)
  | .p ks => .tuple (ks.map fun p => .tuple [.int p.1, .int p.2])
/-- the data of an instance (c its class), or of a dict of texts (c None) -/
abbrev recD (c : PyData) (ns : List Str) (ds : List PyData) : PyData := .dict [(.none, c), (.tuple (ns.map PyData.str), .list ds)]
abbrev flyD (C : Addr) (d : PyData) : PyData := .dict [(.bool false, .int (C : Int)), (.none, d)]
/-- the data of a dict of ints or pairs -/
abbrev dctD (ks : DKs) (ds : List PyData) : PyData := .dict [(.none, .str ""), (ks.dat, .list ds)]
mutual
inductive Dq (H : Hp) : V → PyData → Prop
  | non : Dq H .non .none
  | bl (b : Bool) : Dq H (.bl b) (.bool b)
  | int (i : Int) : Dq H (.int i) (.int i)
  | str (x : Str) : Dq H (.str x) (.str x)
  | lst {a : Addr} {xs : List V} {ds : List PyData} (e : H a = some (.lst xs)) (h : DqAll H xs ds) : Dq H (.ref a) (.list ds)
  | tup {a : Addr} {xs : List V} {ds : List PyData} (e : H a = some (.tup xs)) (h : DqAll H xs ds) : Dq H (.ref a) (.tuple ds)
  | dic {a : Addr} {kvs : List (Int × Int)} (e : H a = some (.dK (kvs.map kvI))) : Dq H (.ref a) (.dict (kvs.map kdI))
  | ins {a C dx : Addr} {ns : List Str} {vs : List V} {ds : List PyData} (e : H a = some (.ins C dx (ns.zip vs))) (l : ns.length = vs.length) (h : DqAll H vs ds) : Dq H (.ref a) (.dict [(.none, .int (C : Int)), (.tuple (ns.map PyData.str), .list ds)])
  | rc {a : Addr} {ns : List Str} {vs : List V} {ds : List PyData} (e : H a = some (.dK (kz ns vs))) (l : ns.length = vs.length) (h : DqAll H vs ds) : Dq H (.ref a) (.dict [(.none, .none), (.tuple (ns.map PyData.str), .list ds)])
  | dct {a : Addr} {ks : DKs} {vs : List V} {ds : List PyData} (e : H a = some (ks.ob vs)) (l : ks.len = vs.length) (nd : ks.Nd) (h : DqAll H vs ds) : Dq H (.ref a) (.dict [(.none, .str ""), (ks.dat, .list ds)])
  | fz {a : Addr} {o : Obj} {xs : List V} {ds : List PyData} (e : H a = some (.frz o (.tup xs))) (c : o.dict = none) (h : DqAll H xs ds) : Dq H (.ref a) (.dict [(.none, .int (-1)), (.tuple [], .list ds)])
  | exc {a C dx : Addr} {v : V} {d : PyData} (e : H a = some (exK a (.ref C) (some dx))) (e2 : H dx = some (xdW v)) (h : Dq H v d) : Dq H (.ref a) (.dict [(.bool true, .int (C : Int)), (.none, d)])
  | fly {C dx : Addr} {v : V} {d : PyData} (e2 : H dx = some (xdW v)) (h : Dq H v d) : Dq H (.ref dx) (.dict [(.bool false, .int (C : Int)), (.none, d)])
inductive DqAll (H : Hp) : List V → List PyData → Prop
  | nil : DqAll H [] []
  | cons {v : V} {vs : List V} {d : PyData} {ds : List PyData} (h : Dq H v d) (t : DqAll H vs ds) : DqAll H (v :: vs) (d :: ds)
end
section
variable {H H' : Hp} {K : PySem.W.Frag}
mutual
theorem Dq.mono (e : Same H H') : ∀ {v : V} {d : PyData}, Dq H v d → Dq H' v d
  | _, _, .non => .non
  | _, _, .bl b => .bl b
  | _, _, .int i => .int i
  | _, _, .str x => .str x
  | _, _, .lst a h => .lst (e _ _ a) (h.mono e)
  | _, _, .tup a h => .tup (e _ _ a) (h.mono e)
  | _, _, .dic a => .dic (e _ _ a)
  | _, _, .ins a l h => .ins (e _ _ a) l (h.mono e)
  | _, _, .rc a l h => .rc (e _ _ a) l (h.mono e)
  | _, _, .dct a l n h => .dct (e _ _ a) l n (h.mono e)
  | _, _, .fz a c h => .fz (e _ _ a) c (h.mono e)
  | _, _, .exc a b h => .exc (e _ _ a) (e _ _ b) (h.mono e)
  | _, _, .fly b h => .fly (e _ _ b) (h.mono e)
theorem DqAll.mono (e : Same H H') : ∀ {vs : List V} {ds : List PyData}, DqAll H vs ds → DqAll H' vs ds
  | _, _, .nil => .nil
  | _, _, .cons h t => .cons (h.mono e) (t.mono e)
end
mutual
/-- no dict in it -/
def noD : PyData → Bool
  | .none => true
  | .bool _ => true
  | .int _ => true
  | .str _ => true
  | .list xs => noDs xs
  | .tuple xs => noDs xs
  | .dict _ => false
def noDs : List PyData → Bool
  | [] => true
  | x :: xs => noD x && noDs xs
end
mutual
theorem noD_lay : ∀ {d : PyData}, d.canLay0 = true → noD d = true
  | .none, _ => rfl
  | .bool _, _ => rfl
  | .int _, _ => rfl
  | .str _, _ => rfl
  | .list xs, h => noDs_lay (ds := xs) h
  | .tuple xs, h => noDs_lay (ds := xs) h
  | .dict _, h => nomatch h
theorem noDs_lay : ∀ {ds : List PyData}, PyData.canLayAll0 ds = true → noDs ds = true
  | [], _ => rfl
  | x :: xs, h => by
    have h' := (Bool.and_eq_true _ _).mp h
    show (noD x && noDs xs) = true
    rw [noD_lay h'.1, noDs_lay h'.2]
    rfl
end
theorem noD_shaped {d : PyData} (h : SeqAt.shaped d = true) : noD d = true := noD_lay (SeqAt.canLay_of_shaped h)
mutual
theorem noD_ok : ∀ {d : PyData}, okD d = true → noD d = true
  | .none, _ => rfl
  | .bool _, _ => rfl
  | .int _, _ => rfl
  | .str _, _ => rfl
  | .list xs, h => noDs_ok (ds := xs) h
  | .tuple xs, h => noDs_ok (ds := xs) h
  | .dict _, h => nomatch h
theorem noDs_ok : ∀ {ds : List PyData}, okAll ds = true → noDs ds = true
  | [], _ => rfl
  | x :: xs, h => by
    have h' := (Bool.and_eq_true _ _).mp h
    show (noD x && noDs xs) = true
    rw [noD_ok h'.1, noDs_ok h'.2]
    rfl
end
mutual
theorem Dq.dp : ∀ {v : V} {d : PyData}, Dq H v d → noD d = true → Dp K H v d
  | _, _, .non, _ => .non
  | _, _, .bl b, _ => .bl b
  | _, _, .int i, _ => .int i
  | _, _, .str x, _ => .str x
  | _, _, .lst a h, n => .lst (SqL.of a) (h.dp n)
  | _, _, .tup a h, n => .tup (SqT.of a) (h.dp n)
  | _, _, .dic _, n => nomatch n
  | _, _, .ins _ _ _, n => nomatch n
  | _, _, .rc _ _ _, n => nomatch n
  | _, _, .dct _ _ _ _, n => nomatch n
  | _, _, .fz _ _ _, n => nomatch n
  | _, _, .exc _ _ _, n => nomatch n
  | _, _, .fly _ _, n => nomatch n
theorem DqAll.dp : ∀ {vs : List V} {ds : List PyData}, DqAll H vs ds → noDs ds = true → DpAll K H vs ds
  | _, _, .nil, _ => .nil
  | _, _, .cons h t, n => .cons (h.dp ((Bool.and_eq_true _ _).mp n).1) (t.dp ((Bool.and_eq_true _ _).mp n).2)
end
theorem DqAll.len : ∀ {vs : List V} {ds : List PyData}, DqAll H vs ds → vs.length = ds.length
  | _, _, .nil => rfl
  | _, _, .cons _ t => by rw [List.length_cons, List.length_cons, t.len]
theorem DqAll.get : ∀ {vs : List V} {ds : List PyData}, DqAll H vs ds → ∀ {i : Nat} {v : V}, vs[i]? = some v → ∃ d, ds[i]? = some d ∧ Dq H v d
  | _, _, .nil, i, v, h => by simp at h
  | _, _, .cons (d := d) h t, 0, v, e => by
    have e' : _ = v := Option.some.inj e
    subst e'
    exact ⟨d, rfl, h⟩
  | _, _, .cons h t, i + 1, v, e => t.get (i := i) e
theorem DqAll.at : ∀ {vs : List V} {ds : List PyData}, DqAll H vs ds → ∀ {i : Nat} {d : PyData}, ds[i]? = some d → ∃ v, vs[i]? = some v ∧ Dq H v d
  | _, _, .nil, i, v, h => by simp at h
  | _, _, .cons (v := w) h t, 0, v, e => by
    have e' : _ = v := Option.some.inj e
    subst e'
    exact ⟨w, rfl, h⟩
  | _, _, .cons h t, i + 1, v, e => t.at (i := i) e
theorem DqAll.append : ∀ {vs us : List V} {ds es : List PyData}, DqAll H vs ds → DqAll H us es → DqAll H (vs ++ us) (ds ++ es)
  | _, _, _, _, .nil, q => q
  | _, _, _, _, .cons h t, q => .cons h (t.append q)
theorem DqAll.take : ∀ {vs : List V} {ds : List PyData} (n : Nat), DqAll H vs ds → DqAll H (vs.take n) (ds.take n)
  | _, _, 0, _ => .nil
  | _, _, _ + 1, .nil => .nil
  | _, _, n + 1, .cons h t => .cons h (t.take n)
theorem DqAll.drop : ∀ {vs : List V} {ds : List PyData} (n : Nat), DqAll H vs ds → DqAll H (vs.drop n) (ds.drop n)
  | _, _, 0, q => q
  | _, _, _ + 1, .nil => .nil
  | _, _, n + 1, .cons _ t => t.drop n
theorem DqAll.rep {v : V} {d : PyData} (h : Dq H v d) : ∀ n : Nat, DqAll H (List.replicate n v) (List.replicate n d)
  | 0 => .nil
  | n + 1 => .cons h (DqAll.rep h n)
theorem DqAll.ints : ∀ ns : List Int, DqAll H (ns.map V.int) (ns.map PyData.int)
  | [] => .nil
  | n :: r => .cons (.int n) (DqAll.ints r)
theorem Dq.list_inv {v : V} {ds : List PyData} (h : Dq H v (.list ds)) : ∃ a xs, v = .ref a ∧ H a = some (.lst xs) ∧ DqAll H xs ds := by
  cases h with
  | lst e h => exact ⟨_, _, rfl, e, h⟩
theorem Dq.tup_inv {v : V} {ds : List PyData} (h : Dq H v (.tuple ds)) : ∃ a xs, v = .ref a ∧ H a = some (.tup xs) ∧ DqAll H xs ds := by
  cases h with
  | tup e h => exact ⟨_, _, rfl, e, h⟩
theorem Dq.int_inv {v : V} {i : Int} (h : Dq H v (.int i)) : v = .int i := by
  cases h
  rfl
def tyN : PyData → String
  | .none => "NoneType"
  | .bool _ => "bool"
  | .int _ => "int"
  | .str _ => "str"
  | .list _ => "list"
  | .tuple _ => "tuple"
  | .dict _ => "dict"
/-- it is no instance -/
def notI : PyData → Bool
  | .dict ((.none, .int _) :: _) => false
  | .dict ((.bool _, _) :: _) => false
  | _ => true
theorem Dq.ty {v : V} {d : PyData} (h : Dq H v d) (hn : notI d = true) : TyX K H v (.type (tyN d)) := by
  cases h with
  | non => exact .base .non
  | bl b => exact .base (.bl b)
  | int i => exact .base (.int i)
  | str x => exact .base (.str x)
  | lst e _ => exact .base (.lst e)
  | tup e _ => exact .base (.tup e)
  | dic e => exact .base (.dK e)
  | ins e l h => cases hn
  | rc e l h => exact .base (.dK e)
  | @dct a ks vs ds e l nd h =>
    cases ks with
    | i ks => exact .base (.dK e)
    | p ks => exact .base (.dT e)
  | fz e c h => cases hn
  | exc e c h => cases hn
  | fly e h => cases hn
def isInt : PyData → Bool
  | .int _ => true
  | .bool _ => true
  | _ => false
def isBool : PyData → Bool
  | .bool _ => true
  | _ => false
def isList : PyData → Bool
  | .list _ => true
  | _ => false
def isTuple : PyData → Bool
  | .tuple _ => true
  | _ => false
def isStr : PyData → Bool
  | .str _ => true
  | _ => false
theorem kit_int (d : PyData) : kitB (tyN d) "int" = some (isInt d) := by cases d <;> (simp only [tyN, isInt]; decide +kernel)
theorem kit_bool (d : PyData) : kitB (tyN d) "bool" = some (isBool d) := by cases d <;> (simp only [tyN, isBool]; decide +kernel)
theorem kit_list (d : PyData) : kitB (tyN d) "list" = some (isList d) := by cases d <;> (simp only [tyN, isList]; decide +kernel)
theorem kit_tuple (d : PyData) : kitB (tyN d) "tuple" = some (isTuple d) := by cases d <;> (simp only [tyN, isTuple]; decide +kernel)
end
/-! ### readings -/
section
variable {K : PySem.W.Frag} {σ : L2.St} {H : Hp} {ta tb te tl : TE} {x v : V} {d : PyData} {T : String} {b : Bool}
end
/-! ### rules whose reading names the written part itself -/
section
variable {X : Cx}
theorem lenK (K : PySem.W.Frag) (hK : X.K = K := by rfl) : CallR X (.builtin "len") (rLenS K) := by subst hK; exact call_len_seq
theorem isiK (K : PySem.W.Frag) (hK : X.K = K := by rfl) : CallR X (.builtin "isinstance") (rIsi K) := by subst hK; exact call_isi
theorem allK (K : PySem.W.Frag) (hK : X.K = K := by rfl) (hc : X.calm = true := by rfl) : CallR X (.builtin "all") (rAll K) := by subst hK; exact cr_all hc
theorem listK (K : PySem.W.Frag) (hK : X.K = K := by rfl) : CallR X (.type "list") (rListS K) := by subst hK; exact call_list_of
theorem ixLK (K : PySem.W.Frag) (hK : X.K = K := by rfl) : IxR X (rIxL K) := by subst hK; exact ix_list
theorem slLK (K : PySem.W.Frag) (hK : X.K = K := by rfl) : SlR X (rSlL K) := by subst hK; exact sl_list
theorem inK (K : PySem.W.Frag) (hK : X.K = K := by rfl) : OpR X (compareOp .In) (rIn K false) := by subst hK; exact op_in_seq
theorem notInK (K : PySem.W.Frag) (hK : X.K = K := by rfl) : OpR X (compareOp .NotIn) (rIn K true) := by subst hK; exact op_notIn_seq
theorem pi_enumK (K : PySem.W.Frag) {e : Expr} {ta : TA} {p pos tpos : Pos} {elts : List Expr} {kk : Nat} (hg : Gl X "enumerate") (hm : X.mg "enumerate" = none) (ha : PA X [e] ta) (hK : X.K = K := by rfl) (hs : starEach [e] X.env = [(false, eval e X.env)] := by rfl) :
    PI X (.Tuple elts kk tpos) (.Call (.Name "enumerate" p) [e] [] pos) (iEnum K ta) := by subst hK; exact pi_enum hg hm ha hs
theorem pg_tupK (K : PySem.W.Frag) {es : List Expr} {k : Nat} {t : TGs} {n : Nat} {pos : Pos} (hc : X.calm = true) (h : PGs X es t) (hK : X.K = K := by rfl) (hn : (assignEach es X.env).length = n := by rfl) (hst : (assignEach es X.env).findIdx? (·.1) = none := by rfl) :
    PG X (.Tuple es k pos) (gTup K n t) := by subst hK; exact pg_tup hc h hn hst
end
/-! ### promises: a truth of one thing -/
/-- a def of the text, where it stands, how it is called, what it promises -/
structure Df (P : Program) (w : World) (K : PySem.W.Frag) (mg : Str → Option Value) (base : Heap) (k : Nat) (x : Str) (st : Stmt) (ps : List Str) (f : Addr) (fd : FuncData) (sp : Sp) : Prop where
  F : Fun K x x st f fd
  g : mg x = some (.ref f)
  b : Binds K fd ps []
  G : FnOk P w K mg base CX0 k f fd ps sp
/-- the built-ins that the text asks are the built-ins still -/
structure Bl (mg : Str → Option Value) : Prop where
  int : mg "int" = none
  bool : mg "bool" = none
  list : mg "list" = none
  tuple : mg "tuple" = none
  str : mg "str" = none
  len : mg "len" = none
  all : mg "all" = none
  isinstance : mg "isinstance" = none
  range : mg "range" = none
  enumerate : mg "enumerate" = none
  zip : mg "zip" = none
  repr : mg "repr" = none
  abs : mg "abs" = none
  min : mg "min" = none
  max : mg "max" = none
  divmod : mg "divmod" = none
end Cg

set_option Elab.async false
set_option linter.all false
set_option maxRecDepth 100000
namespace Cg
open PySem PySem.Spec PyProof.Rows L2 Evl
/-! ### all but some objects is kept -/
def hid (bs : List Addr) (H : Hp) : Hp := fun a => if a ∈ bs then none else H a
def Keep (bs : List Addr) (H H' : Hp) : Prop := Same (hid bs H) (hid bs H')
section
variable {bs cs : List Addr} {H H1 H2 H3 : Hp} {p a : Addr} {o u : HO}
theorem hid_in (h : a ∈ bs) : hid bs H a = none := if_pos h
theorem hid_out (h : a ∉ bs) : hid bs H a = H a := if_neg h
theorem hid_some (h : hid bs H a = some o) : a ∉ bs ∧ H a = some o := by
  by_cases hm : a ∈ bs
  · rw [hid_in hm] at h; cases h
  · rw [hid_out hm] at h; exact ⟨hm, h⟩
theorem hid_same : Same (hid bs H) H := fun b x e => (hid_some e).2
theorem Keep.refl (bs : List Addr) (H : Hp) : Keep bs H H := Same.refl _
theorem Keep.trans (k : Keep bs H H1) (j : Keep bs H1 H2) : Keep bs H H2 := Same.trans k j
theorem Keep.of (e : Same H H1) : Keep bs H H1 := fun b x q => by
  obtain ⟨h1, h2⟩ := hid_some q
  rw [hid_out h1]
  exact e b x h2
theorem Keep.ext (k : Keep bs H H1) (e : Same H1 H2) : Keep bs H H2 := k.trans (.of e)
theorem Keep.new (k : Keep bs H H1) (h : H1 p = none) : Keep bs H (upd H1 p o) := k.ext (Ex.new h)
theorem Keep.put (k : Keep bs H H1) (h : p ∈ bs) : Keep bs H (upd H1 p o) := k.trans fun b x q => by
  obtain ⟨h1, h2⟩ := hid_some q
  rw [hid_out h1, upd_ne (fun z => h1 (by rw [z]; exact h))]
  exact h2
theorem Keep.more (k : Keep bs H H1) (h : ∀ b ∈ bs, b ∈ cs) : Keep cs H H1 := fun b x q => by
  obtain ⟨h1, h2⟩ := hid_some q
  have h3 : b ∉ bs := fun z => h1 (h b z)
  have := k b x (by rw [hid_out h3]; exact h2)
  rw [hid_out h1]
  exact (hid_some this).2
theorem Keep.get (k : Keep bs H H1) (h : a ∉ bs) (e : H a = some o) : H1 a = some o := (hid_some (k a o (by rw [hid_out h]; exact e))).2
theorem Keep.dq {v : V} {d : PyData} (k : Keep bs H H1) (h : Dq (hid bs H) v d) : Dq (hid bs H1) v d := h.mono k
theorem dq_vis {v : V} {d : PyData} (h : Dq (hid bs H) v d) : Dq H v d := h.mono hid_same
theorem hid_less (h : ∀ b ∈ bs, b ∈ cs) : Same (hid cs H) (hid bs H) := fun b x q => by
  obtain ⟨h1, h2⟩ := hid_some q
  rw [hid_out (fun z => h1 (h b z))]
  exact h2
end
/-! ### the box of draws -/
def Box (H : Hp) (b : Addr) (n : Nat) : Prop := ∃ r s c : Int, H b = some (.lst [.int r, .int s, .int c]) ∧ 0 ≤ r ∧ 0 ≤ s ∧ s < 2147483647 ∧ 0 ≤ c ∧ c ≤ n
section
variable {bs : List Addr} {H H1 : Hp} {b : Addr} {n m : Nat}
theorem Box.mono (h : Box H b n) (e : Same H H1) : Box H1 b n := by
  obtain ⟨r, s, c, h1, h2⟩ := h
  exact ⟨r, s, c, e _ _ h1, h2⟩
theorem Box.keep (h : Box H b n) (k : Keep bs H H1) (hb : b ∉ bs) : Box H1 b n := by
  obtain ⟨r, s, c, h1, h2⟩ := h
  exact ⟨r, s, c, k.get hb h1, h2⟩
theorem Box.le (h : Box H b n) (hm : n ≤ m) : Box H b m := by
  obtain ⟨r, s, c, h1, h2, h3, h4, h5, h6⟩ := h
  exact ⟨r, s, c, h1, h2, h3, h4, h5, by omega⟩
theorem Box.is (h : Box H b n) : H b ≠ none := by
  obtain ⟨r, s, c, h1, _⟩ := h
  rw [h1]
  exact fun z => nomatch z
theorem Box.ne {p : Addr} (h : Box H b n) (hp : H p = none) : p ≠ b := fun z => h.is (z ▸ hp)
theorem Box.upd {p : Addr} {o : HO} (h : Box H b n) (hp : H p = none) : Box (L2.upd H p o) b n := h.mono (Ex.new hp)
end
theorem Keep.free {H H1 : Hp} {b p : Addr} {n : Nat} (k : Keep [b] H H1) (hB : Box H1 b n) (hp : H1 p = none) : H p = none := by
  cases hh : H p with
  | none => rfl
  | some o =>
    have hb : p ∉ [b] := by simpa using hB.ne hp
    rw [k.get hb hh] at hp
    cases hp
theorem Box.out {H : Hp} {b p : Addr} {n : Nat} (hB : Box H b n) (hp : H p = none) : p ∉ [b] := by simpa using hB.ne hp
theorem Keep.putNew {H H1 : Hp} {bs : List Addr} {p : Addr} {o : HO} (k : Keep bs H H1) (h : H p = none) : Keep bs H (upd H1 p o) := fun a x q => by
  obtain ⟨q1, q2⟩ := hid_some q
  rw [hid_out q1, upd_ne (ne_of_none q2 h)]
  exact k.get q1 q2
theorem Box.put {H : Hp} {b p : Addr} {n : Nat} {o : HO} (h : Box H b n) (hp : p ≠ b) : Box (L2.upd H p o) b n := by
  obtain ⟨r, s, c, g, g'⟩ := h
  exact ⟨r, s, c, by rw [upd_ne hp.symm]; exact g, g'⟩
/-- what is kept is tracked still -/
theorem Keep.live {H H1 : Hp} {b x : Addr} {n : Nat} (k : Keep [b] H H1) (hB : Box H1 b n) (hx : H x ≠ none) : H1 x ≠ none := by
  by_cases e : x = b
  · subst e; exact hB.is
  · cases hh : H x with
    | none => exact absurd hh hx
    | some o =>
      rw [k.get (by simpa using e) hh]
      exact fun z => nomatch z
/-- what a draw promises -/
def spTake : Sp := fun vs H Q _ => ∃ (b : Addr) (m : Int) (n : Nat), vs = [.ref b, .int m] ∧ Box H b n ∧ n ≤ 1000000000 ∧ 1 ≤ m ∧ m ≤ 10000000 ∧
  ∀ (k : Int) (H' : Hp), 0 ≤ k → k < m → Box H' b (n + 1) → Keep [b] H H' → Q (.int k) H'
theorem ev_cb1 {σ : L2.St} {H : Hp} {r : List V → Hp → VK → Prop} {ta : TE} {x z : V} (h : Ev ta σ H x) (hr : ∀ (H1 : Hp) (Q : VK), Q z H1 → r [x] H1 Q) : Ev (tCB r (tCons ta tNil)) σ H z := ev_cb (ea_cons h ea_nil) fun H1 _ Q q => hr H1 Q (q H1 (Ex.refl _))
theorem ev_cb2 {σ : L2.St} {H : Hp} {r : List V → Hp → VK → Prop} {ta tb : TE} {x y z : V} (h : Ev ta σ H x) (h' : Ev tb σ H y) (hr : ∀ (H1 : Hp) (Q : VK), Q z H1 → r [x, y] H1 Q) : Ev (tCB r (tCons ta (tCons tb tNil))) σ H z := ev_cb (ea_cons h (ea_cons h' ea_nil)) fun H1 _ Q q => hr H1 Q (q H1 (Ex.refl _))
/-- for (k, x) in enumerate(xs), xs left as it is -/
theorem for_enum {K : PySem.W.Frag} {a : Addr} {xs : List V} {g : TG} {tb : TS} {D : Ends} {σ : L2.St} {H : Hp} (Pv : Nat → L2.St → Hp → Prop) (h0 : Pv 0 σ H) (hl : ∀ i σ H, i ≤ xs.length → Pv i σ H → SqL K H a xs)
    (hs : ∀ i x T σ H, xs[i]? = some x → Pv i σ H → H T = none → g (.ref T) σ (upd H T (.tup [.int (i : Nat), x])) fun σ2 H2 => tb { D with nx := Pv (i + 1), ct := Pv (i + 1), bk := D.nx } σ2 H2) (hd : ∀ σ H, Pv xs.length σ H → D.nx σ H) :
    ∃ W : Nat → Nat → L2.St → Hp → Prop, (∃ m, W 0 m σ H) ∧ ∀ i m σ H, W i m σ H → ((Ite K a).stop i H ∧ D.nx σ H) ∨ ((Ite K a).go i H ∧ ∃ N : L2.St → Hp → Prop, (∀ σ' H', N σ' H' → ∃ m', m' < m ∧ W (i + 1) m' σ' H') ∧
      ∀ x H', (Ite K a).yld i H x H' → g x σ H' fun σ2 H2 => tb { D with nx := N, ct := N, bk := D.nx } σ2 H2) := by
  refine ⟨fun i m σ H => i + m = xs.length ∧ Pv i σ H, ⟨xs.length, by omega, h0⟩, fun i m σ H hw => ?_⟩
  obtain ⟨e, p⟩ := hw
  have q := hl i σ H (by omega) p
  cases m with
  | zero =>
    obtain rfl : i = xs.length := by omega
    exact .inl ⟨⟨xs, q, Nat.le_refl _⟩, hd σ H p⟩
  | succ m =>
    have hi : i < xs.length := by omega
    refine .inr ⟨⟨xs, xs[i], q, List.getElem?_eq_getElem hi⟩, Pv (i + 1), fun σ' H' p' => ⟨m, by omega, by omega, p'⟩, fun v H' y => ?_⟩
    obtain ⟨T, x, rfl, hT, rfl, hx⟩ := y
    exact hs i x T σ H (hx xs q) p hT
theorem q_forE {K : PySem.W.Frag} {σ : L2.St} {H : Hp} {tl : TE} {i j : Nat} {xs : List V} {tu tz : TS} {D : Ends} (h : EvL tl σ H xs) (Pv : Addr → Nat → L2.St → Hp → Prop) (h0 : ∀ p H1, H p = none → Same H H1 → H1 p = some (.lst xs) → Pv p 0 σ H1)
    (hl : ∀ p k σ' H', k ≤ xs.length → Pv p k σ' H' → SqL K H' p xs)
    (hs : ∀ p (k : Nat) x T σ' H', xs[k]? = some x → Pv p k σ' H' → H' T = none → tu { D with nx := Pv p (k + 1), ct := Pv p (k + 1), bk := tz D } ((σ'.set i (some (.int (k : Nat)))).set j (some x)) (upd H' T (.tup [.int (k : Nat), x])))
    (hd : ∀ p σ' H', Pv p xs.length σ' H' → tz D σ' H') : tSeq (tFor (iEnum K (tCons tl tNil)) (gTup K 2 (gCons (gName i) (gCons (gName j) gNil))) tu) tz D σ H := by
  refine h H (Ex.refl _) _ fun p H1 np e1 hp => ⟨p, xs, rfl, SqL.of hp, ?_⟩
  refine for_enum (D := { D with nx := tz D }) (Pv p) (h0 p H1 np e1 hp) (hl p) (fun k x T σ' H' hx hP hT => ?_) (hd p)
  exact ⟨T, _, rfl, SqT.of upd_same, rfl, _, _, rfl, _, _, rfl, rfl, hs p k x T σ' H' hx hP hT⟩
end Cg

set_option Elab.async false
set_option linter.all false
set_option maxRecDepth 100000
namespace Cg
open PySem PySem.Spec PyProof.Rows L2 Evl
/-! ### readings by the data: nothing is changed, bs is what may be hidden -/
def Live (bs : List Addr) (H : Hp) : Prop := ∀ x ∈ bs, H x ≠ none
def EvQ (bs : List Addr) (te : TE) (σ : L2.St) (H : Hp) (d : PyData) : Prop := ∀ H1, Same H H1 → ∀ Q : VK, (∀ v H2, Same H1 H2 → Dq (hid bs H2) v d → Q v H2) → te σ H1 Q
def cutG {α : Type} (xs : List α) (lo hi : Option Int) : List α := (xs.drop (HT.sIx xs.length 0 lo)).take (HT.sIx xs.length xs.length hi - HT.sIx xs.length 0 lo)
section
variable {bs : List Addr} {K : PySem.W.Frag} {σ : L2.St} {H H' : Hp} {ta tb te : TE} {v : V} {d e : PyData} {ds es : List PyData} {T : String} {b : Bool}
theorem Live.mono (l : Live bs H) (e : Same H H') : Live bs H' := fun x hx => by
  cases hh : H x with
  | none => exact absurd hh (l x hx)
  | some o => rw [e x o hh]; exact fun z => nomatch z
theorem Live.out {p : Addr} (l : Live bs H) (hp : H p = none) : p ∉ bs := fun z => l p z hp
theorem Live.keep {b : Addr} {n : Nat} (l : Live bs H) (k : Keep [b] H H') (hB : Box H' b n) : Live bs H' := fun x hx => k.live hB (l x hx)
theorem same_hid (e : Same H H') : Same (hid bs H) (hid bs H') := Keep.of e
theorem EvQ.mono (s : Same H H') (h : EvQ bs te σ H d) : EvQ bs te σ H' d := fun H1 a Q q => h H1 (s.trans a) Q q
theorem DqAll.cut {xs : List V} (h : DqAll H xs ds) (lo hi : Option Int) : DqAll H (cutV xs lo hi) (cutG ds lo hi) := by
  unfold cutV cutG
  rw [h.len]
  exact (h.drop _).take _
theorem DqAll.flat {xs : List V} (h : DqAll H xs ds) : ∀ n : Nat, DqAll H (List.replicate n xs).flatten (List.replicate n ds).flatten
  | 0 => .nil
  | n + 1 => by
    rw [List.replicate_succ, List.flatten_cons, List.replicate_succ, List.flatten_cons]
    exact h.append (h.flat n)
mutual
theorem canLay_ok : ∀ d : PyData, okD d = true → d.canLay0 = true
  | .none, _ => rfl
  | .bool _, _ => rfl
  | .int _, _ => rfl
  | .str x, h => h
  | .list xs, h => canLayAll_ok xs h
  | .tuple xs, h => canLayAll_ok xs h
  | .dict _, h => by cases h
theorem canLayAll_ok : ∀ xs : List PyData, okAll xs = true → PyData.canLayAll0 xs = true
  | [], _ => rfl
  | x :: r, h => by
    have h' : (okD x && okAll r) = true := h
    rw [Bool.and_eq_true] at h'
    show (PyData.canLay0 x && PyData.canLayAll0 r) = true
    rw [canLay_ok x h'.1, canLayAll_ok r h'.2] <;> rfl
end
/-! statements -/
variable {D : Ends} {tz : TS}
/-! new lists, comprehensions -/
theorem hid_fresh {D : Addr} {o : HO} (hD : H D = none) : Same (hid bs H) (hid (D :: bs) (upd H D o)) := fun a x q => by
  obtain ⟨h1, h2⟩ := hid_some q
  have hne : a ≠ D := ne_of_none h2 hD
  rw [hid_out (fun z => (List.mem_cons.mp z).elim hne h1), upd_ne hne]
  exact h2
end
/-- such a def, kept where no repr is under way -/
structure DfG (P : Program) (w : World) (K : PySem.W.Frag) (mg : Str → Option Value) (base : Heap) (k : Nat) (x : Str) (st : Stmt) (ps : List Str) (f : Addr) (fd : FuncData) (sp : Sp) : Prop where
  F : Fun K x x st f fd
  g : mg x = some (.ref f)
  b : Binds K fd ps []
  G : FnG P w K mg base k f fd ps sp
end Cg

set_option Elab.async false
set_option linter.all false
set_option maxRecDepth 100000
namespace Cg
open PySem PySem.Spec PyProof.Rows L2 Evl
/-! ### lists of data: what holds of each -/
theorem okAll_iff : ∀ {xs : List PyData}, okAll xs = true ↔ ∀ x ∈ xs, okD x = true
  | [] => ⟨(fun _ _ z => nomatch z), fun _ => rfl⟩
  | x :: r => by
    show (okD x && okAll r) = true ↔ _
    rw [Bool.and_eq_true, okAll_iff (xs := r)]
    exact ⟨fun h y hy => (List.mem_cons.mp hy).elim (fun e => e ▸ h.1) (h.2 y), fun h => ⟨h x (List.mem_cons_self ..), fun y hy => h y (List.mem_cons_of_mem _ hy)⟩⟩
theorem depthAll_iff {k : Nat} : ∀ {xs : List PyData}, PyData.depthAll xs ≤ k ↔ ∀ x ∈ xs, x.depth ≤ k
  | [] => ⟨(fun _ _ z => nomatch z), fun _ => Nat.zero_le _⟩
  | x :: r => by
    show max x.depth (PyData.depthAll r) ≤ k ↔ _
    rw [Nat.max_le, depthAll_iff (xs := r)]
    exact ⟨fun h y hy => (List.mem_cons.mp hy).elim (fun e => e ▸ h.1) (h.2 y), fun h => ⟨h x (List.mem_cons_self ..), fun y hy => h y (List.mem_cons_of_mem _ hy)⟩⟩
theorem wzAll_le {R : Nat} : ∀ {xs : List PyData}, (∀ x ∈ xs, wz x ≤ R) → wzAll xs ≤ (R + 2) * xs.length
  | [], _ => Nat.zero_le _
  | x :: r, h => by
    have h1 := wzAll_le (xs := r) fun y hy => h y (List.mem_cons_of_mem _ hy)
    have h2 := h x (List.mem_cons_self ..)
    show wz x + 2 + wzAll r ≤ (R + 2) * (r.length + 1)
    rw [Nat.mul_succ]
    omega
theorem cut_from {α : Type} (xs : List α) (n : Nat) : cutG xs (some (n : Int)) none = xs.drop n := by
  unfold cutG
  rw [HT.sIx_none, HT.sIx_nat]
  by_cases h : n ≤ xs.length
  · rw [Nat.min_eq_left h, List.take_of_length_le (by rw [List.length_drop]; omega)]
  · rw [Nat.min_eq_right (show xs.length ≤ n by omega), List.drop_of_length_le (Nat.le_refl _), List.drop_of_length_le (show xs.length ≤ n by omega), List.take_nil]
end Cg

set_option Elab.async false
set_option linter.all false
set_option maxRecDepth 100000
set_option maxHeartbeats 1000000
namespace Cg
open PySem PySem.Spec PyProof.Rows L2 Evl
/-! ### zip of any number of lists, or of tuples -/
def RIt (kd : Bool) (h : Heap) (it a : Addr) (k : Nat) : Prop := match kd with
  | true => h.IsListIter it a k
  | false => h.IsTupleIter it a k
def RSq (kd : Bool) (h : Heap) (a : Addr) (items : Array Value) : Prop := match kd with
  | true => h.IsList a items
  | false => h.IsTuple a items
section
variable {kd : Bool} {h h' : Heap} {it a : Addr} {k : Nat} {items : Array Value}
theorem RIt.keep (x : RIt kd h it a k) (e : ∀ o, h.get? it = some o → h'.get? it = some o) : RIt kd h' it a k := by
  cases kd with
  | true => exact Heap.IsListIter.at x e
  | false => exact Heap.IsTupleIter.at x e
theorem RSq.keep (x : RSq kd h a items) (e : ∀ o, h.get? a = some o → h'.get? a = some o) : RSq kd h' a items := by
  cases kd with
  | true =>
    obtain ⟨o, ho, r⟩ := x
    exact ⟨o, e _ ho, r⟩
  | false =>
    obtain ⟨o, ho, r⟩ := x
    exact ⟨o, e _ ho, r⟩
theorem RIt.obj (x : RIt kd h it a k) : ∃ o, h.get? it = some o ∧ ∀ v, o.data ≠ .cell v := by
  cases kd with
  | true =>
    obtain ⟨o, e, _, d⟩ := x
    exact ⟨o, e, fun v z => by rw [d] at z; cases z⟩
  | false =>
    obtain ⟨o, e, _, d⟩ := x
    exact ⟨o, e, fun v z => by rw [d] at z; cases z⟩
end
section
variable {prog : Program} {w : World} {A : Around} {E : Value → Shared → Prop} {s : Shared} {kd : Bool}
abbrev tObj (vs : Array Value) : Obj := { cls := .type "tuple", data := .seq vs }
/-- the iterators, what they walk, what they give next -/
abbrev Src := Addr × Addr × Value
structure ZApart (z TI TO : Addr) (L : List Src) : Prop where
  nd : (z :: TI :: TO :: L.map (·.1)).Nodup
  src : ∀ t ∈ L, t.2.1 ≠ z ∧ t.2.1 ≠ TO ∧ t.2.1 ∉ L.map (·.1)
/-- the iterators' records -/
def itObj (kd : Bool) (a : Addr) : Obj := match kd with
  | true => { cls := .type "list_iterator", data := .fields #[.ref a, .int 0 0] }
  | false => { cls := .type "tuple_iterator", data := .fields #[.ref a, .int 0 0] }
theorem rit_new {a : Addr} {h : Heap} : RIt kd (h.push (itObj kd a)) h.objs.size a 0 := by
  cases kd with
  | true => exact ⟨_, Heap.get?_push_size _ rfl, rfl, rfl⟩
  | false => exact ⟨_, Heap.get?_push_size _ rfl, rfl, rfl⟩
end
/-! ### for column in zip(*rows), as a comprehension walks it -/
def SqK (kd : Bool) (K : PySem.W.Frag) (H : Hp) (a : Addr) (xs : List V) : Prop := match kd with
  | true => SqL K H a xs
  | false => SqT K H a xs
theorem SqK.get {X : Cx} {pins : List (Addr × Obj)} {σ : L2.St} {H : Hp} {s : Shared} {kd : Bool} {a : Addr} {xs : List V} (I : Inv X pins σ H s) (h : SqK kd X.K H a xs) : ∃ its : List Value, Vals xs its ∧ RSq kd s.heap a its.toArray := by
  cases kd with
  | true =>
    obtain ⟨its, r, p, _⟩ := I.list h
    exact ⟨its, r, p.isList⟩
  | false =>
    obtain ⟨its, r, p, _⟩ := I.tuple h
    exact ⟨its, r, p⟩
theorem RSq.lt {kd : Bool} {h : Heap} {a : Addr} {items : Array Value} (x : RSq kd h a items) : a < h.objs.size := by
  cases kd with
  | true =>
    obtain ⟨o, ho, _⟩ := x
    exact Heap.lt_size ho
  | false =>
    obtain ⟨o, ho, _⟩ := x
    exact Heap.lt_size ho
end Cg

set_option Elab.async false
set_option linter.all false
set_option maxRecDepth 100000
set_option maxHeartbeats 1000000
namespace Cg
open PySem PySem.Spec PyProof.Rows L2 Evl
/-! ### enumerate of a list or a tuple that stands still -/
theorem draws_row {prog : Program} {w : World} {A : Around} {kd : Bool} (hh : A.handled = none) (it a : Addr) (hne : a ≠ it) (items : Array Value) : Draws prog w A it [it, a] items.size (fun i v => items[i]? = some v) (fun i h => RIt kd h it a i ∧ RSq kd h a items) := by
  cases kd with
  | true => exact Draws.list hh it a hne items
  | false => exact Draws.tuple hh it a hne items
section
variable {prog : Program} {w : World} {A : Around} {E : Value → Shared → Prop} {s : Shared} {kd : Bool}
theorem enum_tup (l : Addr) (items : Array Value) : Meets (Builtin.«enumerate.__new__» ⟨[.type "enumerate", .ref l], []⟩) (fun _ R s => s.heap.IsTuple l items ∧
      R (.ok (.ret (.ref (s.heap.push (itObj false l)).objs.size))) { s with heap := (s.heap.push (itObj false l)).push { cls := .type "enumerate", data := .fields #[.none, .bool false, .ref s.heap.objs.size, rawInt 0, .none, .none] } }) :=
  .of_wp fun prog w A R s h => by
    obtain ⟨hp, g, d, tk, os⟩ := s
    obtain ⟨hl, h⟩ := h
    have hsub := sub_enumerate
    obtain ⟨o, ho, r⟩ := id hl
    have hL : Heap.IsTuple (Shared.heap ⟨hp, g, d, tk, os⟩) l items := hl
    wp_walk using AutoSeq1.wpAny_loadPart' ho
    refine wpAny_stack_any fun _ => wpAny_pure ?_
    split
    · rename_i c _ _ _ _ _
      cases (c == Value.type "enumerate") <;> (wp_walk using AutoSeq1.wpAny_loadPart' ho, wpAny_pyIter_tuple hL; exact ⟨_, rfl, h⟩)
    · wp_walk using AutoSeq1.wpAny_loadPart' ho, wpAny_pyIter_tuple hL
      exact ⟨_, rfl, h⟩
theorem call_enum {l : Addr} {items : Array Value} {Q : Value → Shared → Prop} (hL : RSq kd s.heap l items)
    (h : ∀ h', IsEnum h' (s.heap.objs.size + 1) s.heap.objs.size 0 .none → RIt kd h' s.heap.objs.size l 0 → (∀ b o, s.heap.get? b = some o → h'.get? b = some o) → Q (.ref (s.heap.objs.size + 1)) { s with heap := h' }) :
    wpAny (model prog w) A (call (.type "enumerate") [.ref l]) Q E s := by
  cases kd with
  | true => exact call_enumerate_list hL fun h' a1 a2 _ a4 => h h' a1 a2 a4
  | false =>
    refine callType_new F.called_enumerate (by decide) (F.typeCall_enumerate_1 _) (F.newCall_enumerate_1 _) (fun obj => F.args_object_init_2 obj _) F.entry_enumerate_new (enum_tup l items) ⟨hL, ?_⟩
    have hz : (s.heap.push (itObj false l)).objs.size = s.heap.objs.size + 1 := Heap.size_push ..
    have he : ((s.heap.push (itObj false l)).push { cls := .type "enumerate", data := .fields #[.none, .bool false, .ref s.heap.objs.size, rawInt 0, .none, .none] }).get? (s.heap.push (itObj false l)).objs.size = some { cls := .type "enumerate", data := .fields #[.none, .bool false, .ref s.heap.objs.size, rawInt 0, .none, .none] } := Heap.get?_push_size _ rfl
    show _ ∧ _
    rw [hz] at he ⊢
    exact ⟨⟨_, he, rfl⟩, h _ he ((rit_new (kd := false)).keep fun o e => Heap.get?_push_of_some _ e) fun b o x => Heap.get?_push_of_some _ (Heap.get?_push_of_some _ x)⟩
end
def ItE (K : PySem.W.Frag) (kd : Bool) (a : Addr) (xs : List V) : It :=
  ⟨fun i H => SqK kd K H a xs ∧ i < xs.length, fun i H v H' => ∃ T, v = .ref T ∧ H T = none ∧ H' = upd H T (.tup [.int (i : Nat), xs.getD i .non]), fun i H => SqK kd K H a xs ∧ xs.length ≤ i⟩
theorem turn_enumK {P : Program} {w : World} {K : PySem.W.Frag} {elts : List Expr} {kk : Nat} {tpos : Pos} {kd : Bool} {xs : List V} {a e it : Addr} (hei : e ≠ it) (hai : a ≠ it) (hae : a ≠ e) :
    Turn P w K (.Tuple elts kk tpos) (ItE K kd a xs) [e, it] e (fun i h => (∃ old, IsEnum h e it ((i : Nat) : Int) old) ∧ RIt kd h it a i ∧ i ≤ xs.length) where
  mem := List.mem_cons_self ..
  obj := fun i h st b hb => by
    obtain ⟨⟨old, he⟩, hi, _⟩ := st
    rcases List.mem_cons.mp hb with rfl | hb
    · exact ⟨_, he, fun v q => nomatch q⟩
    · rw [List.mem_singleton.mp hb]
      exact hi.obj
  keep := fun i h h' st k => by
    obtain ⟨⟨old, he⟩, hi, hl⟩ := st
    exact ⟨⟨old, k e (List.mem_cons_self ..) _ he⟩, hi.keep fun o q => k it (List.mem_cons_of_mem _ (List.mem_cons_self ..)) o q, hl⟩
  item := by
    intro X hP hw hK hc i pins s σ H E I hf st hg
    subst hP hw hK
    obtain ⟨⟨old, he⟩, hi, _⟩ := st
    obtain ⟨sq, hlt⟩ := hg
    obtain ⟨its, rv, rq⟩ := SqK.get I sq
    have hlen := rv.length
    obtain ⟨u, hu, ru⟩ := rv.get (List.getElem?_eq_getElem hlt)
    have hel : e < s.heap.objs.size := Heap.lt_size he
    have hil : it < s.heap.objs.size := by
      obtain ⟨o, ho, _⟩ := hi.obj
      exact Heap.lt_size ho
    refine wpAny_pyNext_enum_itemD (draws_row (kd := kd) (A := X.A.in1) (I.ok.hd hc) it a hai its.toArray) he ⟨hi, rq⟩ (by simp; omega) hei (by simp; exact ⟨hei, hae.symm⟩) fun x h' tk hP ho hst hT hsz hk => ?_
    have ex : x = u := by
      have h1 : its[i]? = some x := by simpa using hP
      rw [hu] at h1
      exact (Option.some.inj h1).symm
    subst ex
    refine ⟨_, rfl, wpAny_letOwnedTupleGo_enum (s := { s with heap := h', toks := tk + 1 }) ho fun h2 he2 sb => ?_⟩
    have hT2 : h2.get? s.heap.objs.size = some (tObj #[.int i tk, x]) := (sb.2 _ (Nat.ne_of_gt hel)).trans hT
    have eg : xs.getD i .non = xs[i] := by rw [List.getD_eq_getElem?_getD, List.getElem?_eq_getElem hlt]; rfl
    have new : ObjOk X.prog X.w (upd H s.heap.objs.size (.tup [.int (i : Nat), xs.getD i .non])) h2 s.heap.objs.size (.tup [.int (i : Nat), xs.getD i .non]) :=
      ⟨by show 2 ≤ sizeLine; decide, [.int i tk, x], .cons ⟨_, rfl⟩ (.cons (by rw [eg]; exact ru) .nil), ⟨_, hT2, rfl, _, rfl⟩⟩
    have I1 : Inv X pins σ (upd H s.heap.objs.size (.tup [.int (i : Nat), xs.getD i .non])) { s with heap := h2, toks := tk + 1 } :=
      I.turnedNew (ch := [e, it]) (fun b ob hb q => (sb.2 b (fun z => hb (by rw [z]; exact List.mem_cons_self ..))).trans (hk b ob (fun z => hb (by rw [z]; exact List.mem_cons_self ..)) (fun z => hb (by rw [z]; exact List.mem_cons_of_mem _ (List.mem_cons_self ..))) q)) hf (Nat.le_refl _) new
    refine ⟨.ref s.heap.objs.size, _, I1, rfl, ⟨_, rfl, I.hok.fresh (Nat.le_refl _), rfl⟩, ⟨⟨x, ?_⟩, hst.1.keep fun o q => (sb.2 it hei.symm).trans q, hlt⟩, fun b hb => ?_⟩
    · have e1 : ((i + 1 : Nat) : Int) = (i : Int) + 1 := by omega
      rw [e1]
      exact he2
    · have hb' : b < s.heap.objs.size := by
        rcases List.mem_cons.mp hb with rfl | hb
        · exact hel
        · rw [List.mem_singleton.mp hb]; exact hil
      rw [upd_ne (Nat.ne_of_lt hb')]
      exact (hf b hb).1
  done := by
    intro X hP hw hK hc i pins s σ H E I hf st hg
    subst hP hw hK
    obtain ⟨⟨old, he⟩, hi, hl⟩ := st
    obtain ⟨sq, hle⟩ := hg
    obtain ⟨its, rv, rq⟩ := SqK.get I sq
    have hlen := rv.length
    obtain rfl : i = xs.length := by omega
    obtain ⟨f0, f1, f2, f3, f4, f5⟩ := hf it (List.mem_cons_of_mem _ (List.mem_cons_self ..))
    have hsz : its.toArray.size = xs.length := by rw [List.size_toArray]; omega
    exact wpAny_pyNext_enum_endD (draws_row (kd := kd) (A := X.A.in1) (I.ok.hd hc) it a hai its.toArray) he ⟨by rw [hsz]; exact hi, rq⟩ fun h' eb => ⟨rfl, I.turned (t' := s.toks) (fun b o hb q => eb b o hb q) f0 f1 f3 f4 f5⟩
  self := fun A i s Q E st h => by
    obtain ⟨⟨_, he⟩, _⟩ := st
    exact wpAny_pyIter_enum he h
def iEnumK (K : PySem.W.Frag) (ta : TA) : TI := fun σ H R => ta σ H fun vs H1 => ∃ (kd : Bool) (a : Addr) (xs : List V), vs = [.ref a] ∧ SqK kd K H1 a xs ∧ R (ItE K kd a xs) H1
theorem pi_enumS (K : PySem.W.Frag) {X : Cx} {e : Expr} {ta : TA} {p pos tpos : Pos} {elts : List Expr} {kk : Nat} (hg : Gl X "enumerate") (hm : X.mg "enumerate" = none) (ha : PA X [e] ta) (hK : X.K = K := by rfl) (hs : starEach [e] X.env = [(false, eval e X.env)] := by rfl) :
    PI X (.Tuple elts kk tpos) (.Call (.Name "enumerate" p) [e] [] pos) (iEnumK K ta) := by
  subst hK
  constructor
  intro pins s σ H R I h
  refine Call_ (ld_blt I hg hm boot_enumerate (PyProof.Rows.callWith_type1 (thn (ha.run pos pins s σ H _ I h) ?_) hs rfl))
  rintro us s1 ⟨vs, H1, I1, r1, kd, a, xs, rfl, sq, q⟩
  obtain ⟨u, rfl, ru⟩ := vals1 r1
  obtain rfl : u = Value.ref a := ru
  obtain ⟨its, rv, rq⟩ := SqK.get I1 sq
  have hal := rq.lt
  refine call_enum rq fun h' he hit hk => wpAny_pyIter_enum he ?_
  have I2 : Inv X pins σ H1 { s1 with heap := h' } := I1.kept (t' := s1.toks) hk
  refine ⟨s1.heap.objs.size + 1, [s1.heap.objs.size + 1, s1.heap.objs.size], _, _, H1, rfl, I2, turn_enumK (kd := kd) (xs := xs) (Nat.succ_ne_self _) (Nat.ne_of_lt hal) (Nat.ne_of_lt (Nat.lt_succ_of_lt hal)), ⟨⟨.none, he⟩, hit, Nat.zero_le _⟩, fun b hb => ?_, q⟩
  have hle : s1.heap.objs.size ≤ b := by
    rcases List.mem_cons.mp hb with rfl | hb
    · exact Nat.le_succ _
    · rw [List.mem_singleton.mp hb]; exact Nat.le_refl _
  exact I1.fpOk hle (I1.hok.fresh hle)
end Cg

set_option Elab.async false
set_option linter.all false
set_option maxRecDepth 100000
set_option maxHeartbeats 1000000
namespace Cg
open PySem PySem.Spec PyProof.Rows L2 Evl
/-! ### a walk of n turns -/
theorem it_by {J : It} {n : Nat} {Body : V → Hp → (Hp → Prop) → Prop} {Fn : Hp → Prop} {H0 : Hp} (Pv : Nat → Hp → Prop) (h0 : Pv 0 H0) (hgo : ∀ i H, i < n → Pv i H → J.go i H) (hst : ∀ H, Pv n H → J.stop n H) (hs : ∀ i x H H', i < n → Pv i H → J.yld i H x H' → Body x H' (Pv (i + 1))) (hd : ∀ H, Pv n H → Fn H) :
    ∃ W : Nat → Nat → Hp → Prop, (∃ m, W 0 m H0) ∧ ∀ i m H, W i m H → (J.stop i H ∧ Fn H) ∨ (J.go i H ∧ ∃ Nx : Hp → Prop, (∀ H', Nx H' → ∃ m', m' < m ∧ W (i + 1) m' H') ∧ ∀ x H', J.yld i H x H' → Body x H' Nx) := by
  refine ⟨fun i m H => i + m = n ∧ Pv i H, ⟨n, by omega, h0⟩, fun i m H hw => ?_⟩
  obtain ⟨e, p⟩ := hw
  cases m with
  | zero =>
    obtain rfl : i = n := by omega
    exact .inl ⟨hst H p, hd H p⟩
  | succ m => exact .inr ⟨hgo i H (by omega) p, Pv (i + 1), fun H' p' => ⟨m, by omega, by omega, p'⟩, fun x H' y => hs i x H H' (by omega) p y⟩
/-- a list, or a tuple, of data -/
def seqD (kd : Bool) (ds : List PyData) : PyData := match kd with
  | true => .list ds
  | false => .tuple ds
section
variable {bs : List Addr} {K : PySem.W.Frag} {σ : L2.St} {H H' : Hp} {ta tb te tl : TE} {d e : PyData} {ds es : List PyData}
end
end Cg

set_option Elab.async false
set_option linter.all false
set_option maxRecDepth 100000
set_option maxHeartbeats 1000000
namespace Cg
open PySem PySem.Spec PyProof.Rows L2 Evl
theorem pi_zipS (K : PySem.W.Frag) {X : Cx} {e e2 : Expr} {ta : TA} {p pos tpos : Pos} {elts : List Expr} {kk : Nat} (hg : Gl X "zip") (hm : X.mg "zip" = none) (ha : PA X [e, e2] ta) (hK : X.K = K := by rfl)
    (hs : starEach [e, e2] X.env = (false, eval e X.env) :: starEach [e2] X.env := by rfl) (hpl : (backTo pos (starEach [e2] X.env)).any (·.1) = false := by rfl) : PI X (.Tuple elts kk tpos) (.Call (.Name "zip" p) [e, e2] [] pos) (RZ.iZipA K ta) := by
  subst hK
  exact RZ.pi_zipA hg hm ha hs hpl
/-- tables of numbers -/
abbrev Mat := List (List Int)
def rowD (kd : Bool) (r : List Int) : PyData := seqD kd (r.map PyData.int)
def tabD (k1 k2 : Bool) (M : Mat) : PyData := seqD k1 (M.map (rowD k2))
theorem ints_inv {H : Hp} : ∀ {xs : List V} {ns : List Int}, DqAll H xs (ns.map PyData.int) → xs = ns.map V.int
  | _, [], .nil => rfl
  | _, n :: r, .cons h t => by rw [h.int_inv, ints_inv t]; rfl
/-- a new list of new lists of numbers -/
structure NewTab (H H' : Hp) (p : Addr) (as : List Addr) (M : Mat) : Prop where
  np : H p = none
  hp : H' p = some (.lst (as.map V.ref))
  len : as.length = M.length
  nd : as.Nodup
  row : ∀ (j : Nat) (a : Addr) (r : List Int), as[j]? = some a → M[j]? = some r → a ≠ p ∧ H a = none ∧ H' a = some (.lst (r.map V.int))
theorem rows_dq {H' : Hp} : ∀ {as : List Addr} {M : Mat}, as.length = M.length → (∀ (j : Nat) (a : Addr) (r : List Int), as[j]? = some a → M[j]? = some r → H' a = some (.lst (r.map V.int))) → DqAll H' (as.map V.ref) (M.map (rowD true))
  | [], [], _, _ => .nil
  | [], _ :: _, z, _ => nomatch z
  | _ :: _, [], z, _ => nomatch z
  | a :: as, r :: M, len, row => .cons (.lst (row 0 a r rfl rfl) (DqAll.ints r)) (rows_dq (by simpa using len) fun j b s h1 h2 => row (j + 1) b s h1 h2)
theorem NewTab.get {H H' : Hp} {p : Addr} {as : List Addr} {M : Mat} (t : NewTab H H' p as M) {a : Addr} (ha : a ∈ as) : a ≠ p ∧ H a = none ∧ ∃ r ∈ M, H' a = some (.lst (r.map V.int)) := by
  obtain ⟨j, hj, e⟩ := List.mem_iff_getElem.mp ha
  have h1 : as[j]? = some a := by rw [List.getElem?_eq_getElem hj, e]
  have hj2 : j < M.length := by rw [← t.len]; exact hj
  obtain ⟨q1, q2, q3⟩ := t.row j a M[j] h1 (List.getElem?_eq_getElem hj2)
  exact ⟨q1, q2, M[j], List.getElem_mem hj2, q3⟩
theorem NewTab.dq {H H' : Hp} {p : Addr} {as : List Addr} {M : Mat} (t : NewTab H H' p as M) {bs : List Addr} (l : Live bs H) : Dq (hid bs H') (.ref p) (tabD true true M) := by
  refine .lst (by rw [hid_out (l.out t.np)]; exact t.hp) (rows_dq t.len fun j a r h1 h2 => ?_)
  obtain ⟨_, q2, q3⟩ := t.row j a r h1 h2
  rw [hid_out (l.out q2)]
  exact q3
theorem NewTab.old {H0 H H' H2 : Hp} {p : Addr} {as : List Addr} {M : Mat} (t : NewTab H H' p as M) (s : Same H0 H) (s2 : Same H' H2) : NewTab H0 H2 p as M :=
  ⟨fresh_back s t.np, s2 _ _ t.hp, t.len, t.nd, fun j a r h1 h2 => by
    obtain ⟨q1, q2, q3⟩ := t.row j a r h1 h2
    exact ⟨q1, fresh_back s q2, s2 _ _ q3⟩⟩
section
variable {bs : List Addr} {K : PySem.W.Frag} {σ : L2.St} {H H1 : Hp} {te tl : TE} {ds : List PyData}
end
end Cg

set_option Elab.async false
set_option linter.all false
set_option maxRecDepth 100000
set_option maxHeartbeats 1000000
namespace Cg
open PySem PySem.Spec PyProof.Rows L2 Evl
section
variable {bs : List Addr} {K : PySem.W.Frag} {σ : L2.St} {H H1 : Hp} {ta tb te tl : TE} {v u : V} {d : PyData} {ds : List PyData}
/-- data of so few depths, of no great lists -/
def Okn : Nat → PyData → Prop
  | 0, _ => False
  | n + 1, .list xs => xs.length ≤ 40000 ∧ ∀ x ∈ xs, Okn n x
  | n + 1, .tuple xs => xs.length ≤ 40000 ∧ ∀ x ∈ xs, Okn n x
  | _ + 1, .dict _ => False
  | _ + 1, _ => True
end
end Cg

set_option Elab.async false
set_option linter.all false
set_option maxRecDepth 100000
set_option maxHeartbeats 1000000
namespace Cg
open PySem PySem.Spec PyProof.Rows L2 Evl
section
variable {bs : List Addr} {K : PySem.W.Frag} {σ : L2.St} {H H1 : Hp} {ta tb te tl : TE} {v u : V} {d : PyData} {ds : List PyData}
theorem Live.cons {p : Addr} {o : HO} (l : Live bs H) (h : H p = some o) : Live (p :: bs) H := fun y hy => by
  rcases List.mem_cons.mp hy with rfl | hy
  · rw [h]; exact fun z => nomatch z
  · exact l y hy
end
end Cg

set_option Elab.async false
set_option linter.all false
set_option maxRecDepth 100000
set_option maxHeartbeats 1000000
namespace Cg
open PySem PySem.Spec PyProof.Rows L2 Evl
/-! ### what the three tell -/
def turnM (m : Nat) (M : Mat) : Mat := (List.range m).map fun j => M.map fun r => r.getD j 0
def Small (M : Mat) : Prop := M.length ≤ 12 ∧ ∀ r ∈ M, r.length ≤ 12
section
variable {P : Program} {w : World} {K : PySem.W.Frag} {mg : Str → Option Value} {base : Heap} {f f1 f2 f3 f4 : Addr} {fd fd1 fd2 fd3 fd4 : FuncData}
end
section
variable {P : Program} {w : World} {K : PySem.W.Frag} {mg : Str → Option Value} {base : Heap} {f f1 f2 f3 f4 : Addr} {fd fd1 fd2 fd3 fd4 : FuncData}
def spBox (K : PySem.W.Frag) : Sp := fun vs H Q _ => ∃ (a : Addr) (ns : List Int) (k : Nat), vs = [.ref a, .int (k : Int)] ∧ SqL K H a (ns.map V.int) ∧ k ≤ 1000 ∧ ∀ (b : Addr) (H' : Hp), Same H H' → H b = none → Box H' b 0 → Q (.ref b) H'
theorem cut_hi (xs : List V) (n : Nat) : cutV xs none (some (n : Int)) = xs.take n := by
  unfold cutV
  rw [HT.sIx_none, HT.sIx_nat, Nat.sub_zero, List.drop_zero]
  by_cases h : n ≤ xs.length
  · rw [Nat.min_eq_left h]
  · rw [Nat.min_eq_right (by omega), List.take_of_length_le (Nat.le_refl _), List.take_of_length_le (by omega)]
theorem cut_both (xs : List V) (n m : Nat) : cutV xs (some (n : Int)) (some (m : Int)) = (xs.drop n).take (m - n) := by
  unfold cutV
  rw [HT.sIx_nat, HT.sIx_nat]
  by_cases h : n ≤ xs.length
  · rw [Nat.min_eq_left h]
    by_cases h2 : m ≤ xs.length
    · rw [Nat.min_eq_left h2]
    · rw [Nat.min_eq_right (by omega), List.take_of_length_le (by rw [List.length_drop]; omega), List.take_of_length_le (by rw [List.length_drop]; omega)]
  · rw [Nat.min_eq_right (show xs.length ≤ n by omega), List.drop_of_length_le (Nat.le_refl _), List.drop_of_length_le (show xs.length ≤ n by omega), List.take_nil, List.take_nil]
def spFold (K : PySem.W.Frag) : Sp := fun vs H Q _ => ∃ (a : Addr) (ns : List Int) (z : Nat), vs = [.ref a, .int (z : Int)] ∧ SqL K H a (ns.map V.int) ∧ 1 ≤ z ∧ z ≤ 1000 ∧ ns.length ≤ 1000 ∧
  ∀ (l : Addr) (ms : List Int) (H' : Hp), Same H H' → H l = none → H' l = some (.lst (ms.map V.int)) → ms.length = min z ns.length → Q (.ref l) H'
end
section
variable {P : Program} {w : World} {K : PySem.W.Frag} {mg : Str → Option Value} {base : Heap} {f f1 f2 f3 f4 : Addr} {fd fd1 fd2 fd3 fd4 : FuncData}
end
section
variable {P : Program} {w : World} {K : PySem.W.Frag} {mg : Str → Option Value} {base : Heap} {f f1 f2 f3 f4 : Addr} {fd fd1 fd2 fd3 fd4 : FuncData}
end
section
variable {P : Program} {w : World} {K : PySem.W.Frag} {mg : Str → Option Value} {base : Heap} {f f1 f2 f3 f4 : Addr} {fd fd1 fd2 fd3 fd4 : FuncData}
end
section
variable {P : Program} {w : World} {K : PySem.W.Frag} {mg : Str → Option Value} {base : Heap} {f f1 f2 f3 f4 : Addr} {fd fd1 fd2 fd3 fd4 : FuncData}
def Bits (M : Mat) : Prop := ∀ r ∈ M, ∀ x ∈ r, x = 0 ∨ x = 1
end
section
variable {P : Program} {w : World} {K : PySem.W.Frag} {mg : Str → Option Value} {base : Heap} {f f1 f2 f3 f4 : Addr} {fd fd1 fd2 fd3 fd4 : FuncData}
end
/-- n rows of m numbers 0 or 1 -/
structure Tab (n m : Nat) (M : Mat) : Prop where
  len : M.length = n
  row : ∀ r ∈ M, r.length = m
  bit : Bits M
section
variable {n m : Nat} {M : Mat}
theorem Tab.small (t : Tab n m M) (hn : n ≤ 12) (hm : m ≤ 12) : Small M := ⟨by rw [t.len]; exact hn, fun r hr => by rw [t.row r hr]; exact hm⟩
theorem Tab.ne (t : Tab n m M) (hn : 1 ≤ n) : M ≠ [] := fun z => by
  have := t.len
  rw [z] at this
  simp at this
  omega
theorem map_range {β : Type} (f : List Int → β) (M : Mat) : M.map f = (List.range M.length).map fun i => f (M.getD i []) := by
  apply List.ext_getElem
  · simp
  · intro i h1 h2
    rw [List.length_map] at h1
    rw [List.getElem_map, List.getElem_map, List.getElem_range, List.getD_eq_getElem?_getD, List.getElem?_eq_getElem h1]
    rfl
theorem row_range (r : List Int) : (List.range r.length).map (fun j => r.getD j 0) = r := by
  apply List.ext_getElem
  · simp
  · intro i h1 h2
    rw [List.getElem_map, List.getElem_range, List.getD_eq_getElem?_getD, List.getElem?_eq_getElem h2]
    rfl
theorem getD_map {α β : Type} (f : α → β) (xs : List α) (i : Nat) (a : α) (b : β) (h : i < xs.length) : (xs.map f).getD i b = f (xs.getD i a) := by
  rw [List.getD_eq_getElem?_getD, List.getD_eq_getElem?_getD, List.getElem?_map, List.getElem?_eq_getElem h]
  rfl
theorem Tab.twice (t : Tab n m M) : turnM n (turnM m M) = M := by
  have e := map_range (fun r : List Int => r) M
  rw [List.map_id'] at e
  conv => rhs; rw [e]
  unfold turnM
  rw [t.len]
  refine List.map_congr_left fun i hi => ?_
  have hi' := List.mem_range.mp hi
  rw [List.map_map]
  have hr : (M.getD i []).length = m := by
    rw [List.getD_eq_getElem?_getD, List.getElem?_eq_getElem (by rw [t.len]; exact hi')]
    exact t.row _ (List.getElem_mem _)
  rw [← row_range (M.getD i []), hr]
  refine List.map_congr_left fun j _ => ?_
  show (M.map fun r => r.getD j 0).getD i 0 = _
  exact getD_map (fun r : List Int => r.getD j 0) M i [] 0 (by rw [t.len]; exact hi')
end
section
variable {bs : List Addr} {K : PySem.W.Frag} {σ : L2.St} {H : Hp} {ta tb tc : TE} {M : Mat}
end
theorem not_and (a c : Bool) (x : Int) : x * (if (!a && !c) = true then 1 else 0) = if (a || c) = true then 0 else x := by
  cases a <;> cases c <;> simp
theorem Tab.put {n m : Nat} {M : Mat} (t : Tab n m M) {k : Nat} {r : List Int} (hr : M[k]? = some r) {x : Int} (hx : x = 0 ∨ x = 1) : Tab n m (M.set k (r.set 0 x)) := by
  have hm := List.mem_of_getElem? hr
  refine ⟨by rw [List.length_set]; exact t.len, fun u hu => ?_, fun u hu => ?_⟩
  · rcases List.mem_or_eq_of_mem_set hu with hu | rfl
    · exact t.row u hu
    · rw [List.length_set]; exact t.row r hm
  · rcases List.mem_or_eq_of_mem_set hu with hu | rfl
    · exact t.bit u hu
    · intro y hy
      rcases List.mem_or_eq_of_mem_set hy with hy | rfl
      · exact t.bit r hm y hy
      · exact hx
section
variable {P : Program} {w : World} {K : PySem.W.Frag} {mg : Str → Option Value} {base : Heap} {f f1 f2 f3 f4 f5 f6 f7 f8 f9 : Addr} {fd fd1 fd2 fd3 fd4 fd5 fd6 fd7 fd8 fd9 : FuncData}
end
end Cg

set_option Elab.async false
set_option linter.all false
set_option maxRecDepth 100000
set_option maxHeartbeats 1000000
namespace Cg
open PySem PySem.Spec PyProof.Rows L2 Evl
/-! ### what a name holds, by value: shared data, or what is its own -/
inductive T where
  | sh (d : PyData) : T
  | lst (ts : List T) : T
  | tup (ts : List T) : T
  /-- a dict of its own, of ints to ints -/
  | dic (kvs : List (Int × Int)) : T
  /-- an instance of its own, at a, of the class at C; a dict of its own, of texts -/
  | ins (a C : Addr) (ns : List Str) (ts : List T) : T
  | rc (a : Addr) (ns : List Str) (ts : List T) : T
  /-- a dict of its own, at a, of ints or pairs of ints to things -/
  | dct (a : Addr) (ks : DKs) (ts : List T) : T
  /-- shared data that stand at a -/
  | shr (a : Addr) (d : PyData) : T
  /-- a tuple with what is its own in it, at a -/
  | tpa (a : Addr) (ts : List T) : T
  /-- a list of its own, at a -/
  | lsa (a : Addr) (ts : List T) : T
mutual
def T.data : T → PyData
  | .sh d => d
  | .shr _ d => d
  | .lst ts => .list (T.datas ts)
  | .tup ts => .tuple (T.datas ts)
  | .tpa _ ts => .tuple (T.datas ts)
  | .dic kvs => .dict (kvs.map kdI)
  | .ins _ C ns ts => recD (.int (C : Int)) ns (T.datas ts)
  | .rc _ ns ts => recD .none ns (T.datas ts)
  | .dct _ ks ts => dctD ks (T.datas ts)
  | .lsa _ ts => .list (T.datas ts)
def T.datas : List T → List PyData
  | [] => []
  | t :: ts => t.data :: T.datas ts
end
theorem datas_map : ∀ ts : List T, T.datas ts = ts.map T.data
  | [] => rfl
  | t :: ts => by
    show t.data :: T.datas ts = t.data :: ts.map T.data
    rw [datas_map ts]
theorem datas_sh (ds : List PyData) : T.datas (ds.map T.sh) = ds := by
  rw [datas_map, List.map_map]
  exact List.map_id _
mutual
/-- no list in it -/
def imm : PyData → Bool
  | .list _ => false
  | .dict _ => false
  | .tuple xs => immAll xs
  | _ => true
def immAll : List PyData → Bool
  | [] => true
  | x :: xs => imm x && immAll xs
end
mutual
/-- what is shared in it has no list -/
def T.clean : T → Bool
  | .sh d => imm d
  | .shr _ d => imm d
  | .lst ts => T.cleans ts
  | .tup ts => T.cleans ts
  | .tpa _ ts => T.cleans ts
  | .dic _ => true
  | .ins _ _ _ ts => T.cleans ts
  | .rc _ _ ts => T.cleans ts
  | .dct _ _ ts => T.cleans ts
  | .lsa _ ts => T.cleans ts
def T.cleans : List T → Bool
  | [] => true
  | t :: ts => t.clean && T.cleans ts
end
/-- a slot -/
inductive Sl where
  | no : Sl
  | box : Sl
  | is (t : T) : Sl
  /-- a dict of its own, of ints to what never changes -/
  | dic (kvs : List (Key × V)) : Sl
  /-- a dict that is walked -/
  | dcF (kvs : List (Int × Int)) : Sl
  /-- that very address, nothing more is known of it -/
  | pin (a : Addr) : Sl
abbrev Env := List Sl
/-- no tuple, no exception's things -/
def Hard : HO → Prop
  | .tup _ => False
  | .xd _ => False
  | _ => True
/-- nothing that is hidden is a tuple, or an exception's -/
def NoTup (bs : List Addr) (H : Hp) : Prop := ∀ a ∈ bs, ∀ o, H a = some o → Hard o
section
variable {b bs cs hs : List Addr} {H H' : Hp} {v : V} {t : T} {d : PyData}
mutual
theorem dq_imm (hn : NoTup bs H) : ∀ {v : V} {d : PyData}, Dq H v d → imm d = true → Dq (hid bs H) v d
  | _, _, .non, _ => .non
  | _, _, .bl b, _ => .bl b
  | _, _, .int i, _ => .int i
  | _, _, .str x, _ => .str x
  | _, _, .lst _ _, h => by cases h
  | _, _, .dic _, h => by cases h
  | _, _, .ins _ _ _, h => by cases h
  | _, _, .rc _ _ _, h => by cases h
  | _, _, .dct _ _ _ _, h => by cases h
  | _, _, .fz _ _ _, h => by cases h
  | _, _, .exc _ _ _, h => by cases h
  | _, _, .fly _ _, h => by cases h
  | _, _, .tup e h, hi => .tup (by rw [hid_out (fun z => hn _ z _ e)]; exact e) (dqAll_imm hn h hi)
theorem dqAll_imm (hn : NoTup bs H) : ∀ {vs : List V} {ds : List PyData}, DqAll H vs ds → immAll ds = true → DqAll (hid bs H) vs ds
  | _, _, .nil, _ => .nil
  | _, _, .cons h t, hi => by
    have hi' := Bool.and_eq_true _ _ ▸ hi
    exact .cons (dq_imm hn h hi'.1) (dqAll_imm hn t hi'.2)
end
mutual
inductive Rep (bs : List Addr) (H : Hp) : V → T → List Addr → Prop
  | sh {v : V} {d : PyData} (h : Dq (hid bs H) v d) : Rep bs H v (.sh d) []
  | lst {a : Addr} {vs : List V} {ts : List T} {A : List Addr} (e : H a = some (.lst vs)) (h : RepL bs H vs ts A) : Rep bs H (.ref a) (.lst ts) (a :: A)
  | tup {a : Addr} {vs : List V} {ts : List T} {A : List Addr} (e : H a = some (.tup vs)) (h : RepL bs H vs ts A) : Rep bs H (.ref a) (.tup ts) A
  | dic {a : Addr} {kvs : List (Int × Int)} (e : H a = some (.dK (kvs.map kvI))) : Rep bs H (.ref a) (.dic kvs) [a]
  | ins {a C dx : Addr} {ns : List Str} {vs : List V} {ts : List T} {A : List Addr} (e : H a = some (.ins C dx (ns.zip vs))) (e2 : H dx = some (.own a)) (l : ns.length = vs.length) (h : RepL bs H vs ts A) : Rep bs H (.ref a) (.ins a C ns ts) (a :: dx :: A)
  | rc {a : Addr} {ns : List Str} {vs : List V} {ts : List T} {A : List Addr} (e : H a = some (.dK (kz ns vs))) (l : ns.length = vs.length) (h : RepL bs H vs ts A) : Rep bs H (.ref a) (.rc a ns ts) (a :: A)
  | shr {a : Addr} {d : PyData} (h : Dq (hid bs H) (.ref a) d) : Rep bs H (.ref a) (.shr a d) []
  | tpa {a : Addr} {vs : List V} {ts : List T} {A : List Addr} (e : H a = some (.tup vs)) (h : RepL bs H vs ts A) : Rep bs H (.ref a) (.tpa a ts) A
  | dct {a : Addr} {ks : DKs} {vs : List V} {ts : List T} {A : List Addr} (e : H a = some (ks.ob vs)) (l : ks.len = vs.length) (nd : ks.Nd) (h : RepL bs H vs ts A) : Rep bs H (.ref a) (.dct a ks ts) (a :: A)
  | lsa {a : Addr} {vs : List V} {ts : List T} {A : List Addr} (e : H a = some (.lst vs)) (h : RepL bs H vs ts A) : Rep bs H (.ref a) (.lsa a ts) (a :: A)
inductive RepL (bs : List Addr) (H : Hp) : List V → List T → List Addr → Prop
  | nil : RepL bs H [] [] []
  | cons {v : V} {vs : List V} {t : T} {ts : List T} {A B : List Addr} (h : Rep bs H v t A) (k : RepL bs H vs ts B) : RepL bs H (v :: vs) (t :: ts) (A ++ B)
end
mutual
theorem Rep.chg (hn : NoTup bs H) (k : Same (hid bs H) (hid cs H')) : ∀ {v : V} {t : T} {A : List Addr}, (∀ a ∈ A, ∀ o, H a = some o → H' a = some o) → Rep bs H v t A → Rep cs H' v t A
  | _, _, _, _, .sh h => .sh (h.mono k)
  | _, _, _, _, .shr h => .shr (h.mono k)
  | _, _, _, hA, .lst e h => .lst (hA _ (List.mem_cons_self ..) _ e) (RepL.chg hn k (fun a ha => hA a (List.mem_cons_of_mem _ ha)) h)
  | _, _, _, hA, .tup e h => .tup ((hid_some (k _ _ (by rw [hid_out (fun z => hn _ z _ e)]; exact e))).2) (RepL.chg hn k hA h)
  | _, _, _, hA, .tpa e h => .tpa ((hid_some (k _ _ (by rw [hid_out (fun z => hn _ z _ e)]; exact e))).2) (RepL.chg hn k hA h)
  | _, _, _, hA, .dic e => .dic (hA _ (List.mem_singleton.mpr rfl) _ e)
  | _, _, _, hA, .ins e e2 l h => .ins (hA _ (List.mem_cons_self ..) _ e) (hA _ (List.mem_cons_of_mem _ (List.mem_cons_self ..)) _ e2) l (RepL.chg hn k (fun a ha => hA a (List.mem_cons_of_mem _ (List.mem_cons_of_mem _ ha))) h)
  | _, _, _, hA, .lsa e h => .lsa (hA _ (List.mem_cons_self ..) _ e) (RepL.chg hn k (fun a ha => hA a (List.mem_cons_of_mem _ ha)) h)
  | _, _, _, hA, .rc e l h => .rc (hA _ (List.mem_cons_self ..) _ e) l (RepL.chg hn k (fun a ha => hA a (List.mem_cons_of_mem _ ha)) h)
  | _, _, _, hA, .dct e l nd h => .dct (hA _ (List.mem_cons_self ..) _ e) l nd (RepL.chg hn k (fun a ha => hA a (List.mem_cons_of_mem _ ha)) h)
theorem RepL.chg (hn : NoTup bs H) (k : Same (hid bs H) (hid cs H')) : ∀ {vs : List V} {ts : List T} {A : List Addr}, (∀ a ∈ A, ∀ o, H a = some o → H' a = some o) → RepL bs H vs ts A → RepL cs H' vs ts A
  | _, _, _, _, .nil => .nil
  | _, _, _, hA, .cons h t => .cons (Rep.chg hn k (fun a ha => hA a (List.mem_append_left _ ha)) h) (RepL.chg hn k (fun a ha => hA a (List.mem_append_right _ ha)) t)
end
mutual
theorem Rep.data (hn : NoTup hs H) (hh : ∀ a ∈ hs, a ∈ bs) : ∀ {v : V} {t : T} {A : List Addr}, (∀ a ∈ A, a ∉ hs) → Rep bs H v t A → Dq (hid hs H) v t.data
  | _, _, _, _, .sh h => h.mono (hid_less hh)
  | _, _, _, _, .shr h => h.mono (hid_less hh)
  | _, _, _, hA, .lst e h => .lst (by rw [hid_out (hA _ (List.mem_cons_self ..))]; exact e) (RepL.datas hn hh (fun a ha => hA a (List.mem_cons_of_mem _ ha)) h)
  | _, _, _, hA, .tup e h => .tup (by rw [hid_out (fun z => hn _ z _ e)]; exact e) (RepL.datas hn hh hA h)
  | _, _, _, hA, .tpa e h => .tup (by rw [hid_out (fun z => hn _ z _ e)]; exact e) (RepL.datas hn hh hA h)
  | _, _, _, hA, .dic e => .dic (by rw [hid_out (hA _ (List.mem_singleton.mpr rfl))]; exact e)
  | _, _, _, hA, .ins e e2 l h => .ins (by rw [hid_out (hA _ (List.mem_cons_self ..))]; exact e) l (RepL.datas hn hh (fun a ha => hA a (List.mem_cons_of_mem _ (List.mem_cons_of_mem _ ha))) h)
  | _, _, _, hA, .lsa e h => .lst (by rw [hid_out (hA _ (List.mem_cons_self ..))]; exact e) (RepL.datas hn hh (fun a ha => hA a (List.mem_cons_of_mem _ ha)) h)
  | _, _, _, hA, .rc e l h => .rc (by rw [hid_out (hA _ (List.mem_cons_self ..))]; exact e) l (RepL.datas hn hh (fun a ha => hA a (List.mem_cons_of_mem _ ha)) h)
  | _, _, _, hA, .dct e l nd h => .dct (by rw [hid_out (hA _ (List.mem_cons_self ..))]; exact e) l nd (RepL.datas hn hh (fun a ha => hA a (List.mem_cons_of_mem _ ha)) h)
theorem RepL.datas (hn : NoTup hs H) (hh : ∀ a ∈ hs, a ∈ bs) : ∀ {vs : List V} {ts : List T} {A : List Addr}, (∀ a ∈ A, a ∉ hs) → RepL bs H vs ts A → DqAll (hid hs H) vs (T.datas ts)
  | _, _, _, _, .nil => .nil
  | _, _, _, hA, .cons h t => .cons (Rep.data hn hh (fun a ha => hA a (List.mem_append_left _ ha)) h) (RepL.datas hn hh (fun a ha => hA a (List.mem_append_right _ ha)) t)
end
/-- something stands there, no tuple -/
def Own (H : Hp) (a : Addr) : Prop := ∃ o, H a = some o ∧ Hard o
theorem own_lst {a : Addr} {xs : List V} (e : H a = some (.lst xs)) : Own H a := ⟨_, e, trivial⟩
theorem own_ins {a C dx : Addr} {fs : List (Str × V)} (e : H a = some (.ins C dx fs)) : Own H a := ⟨_, e, trivial⟩
theorem own_own {a x : Addr} (e : H a = some (.own x)) : Own H a := ⟨_, e, trivial⟩
theorem own_dic {a : Addr} {kvs : List (Key × V)} (e : H a = some (.dK kvs)) : Own H a := ⟨_, e, trivial⟩
theorem own_dct {a : Addr} {ks : DKs} {vs : List V} (e : H a = some (ks.ob vs)) : Own H a := ⟨_, e, by cases ks <;> exact trivial⟩
mutual
theorem Rep.own : ∀ {v : V} {t : T} {A : List Addr}, Rep bs H v t A → ∀ a ∈ A, Own H a
  | _, _, _, .sh h => fun _ z => nomatch z
  | _, _, _, .shr h => fun _ z => nomatch z
  | _, _, _, .lst e h => fun a ha => by
    rcases List.mem_cons.mp ha with rfl | ha
    · exact own_lst e
    · exact RepL.own h a ha
  | _, _, _, .tup e h => fun a ha => RepL.own h a ha
  | _, _, _, .tpa e h => fun a ha => RepL.own h a ha
  | _, _, _, .dic e => fun a ha => by rw [List.mem_singleton.mp ha]; exact own_dic e
  | _, _, _, .ins e e2 l h => fun a ha => by
    rcases List.mem_cons.mp ha with rfl | ha
    · exact own_ins e
    · rcases List.mem_cons.mp ha with rfl | ha
      · exact own_own e2
      · exact RepL.own h a ha
  | _, _, _, .lsa e h => fun a ha => by
    rcases List.mem_cons.mp ha with rfl | ha
    · exact own_lst e
    · exact RepL.own h a ha
  | _, _, _, .rc e l h => fun a ha => by
    rcases List.mem_cons.mp ha with rfl | ha
    · exact own_dic e
    · exact RepL.own h a ha
  | _, _, _, .dct e l nd h => fun a ha => by
    rcases List.mem_cons.mp ha with rfl | ha
    · exact own_dct e
    · exact RepL.own h a ha
theorem RepL.own : ∀ {vs : List V} {ts : List T} {A : List Addr}, RepL bs H vs ts A → ∀ a ∈ A, Own H a
  | _, _, _, .nil => fun _ z => nomatch z
  | _, _, _, .cons h t => fun a ha => by
    rcases List.mem_append.mp ha with ha | ha
    · exact Rep.own h a ha
    · exact RepL.own t a ha
end
mutual
theorem Rep.clean (hn : NoTup cs H) : ∀ {v : V} {t : T} {A : List Addr}, Rep bs H v t A → t.clean = true → Rep cs H v t A
  | _, _, _, .sh h, hc => .sh (dq_imm hn (dq_vis h) hc)
  | _, _, _, .shr h, hc => .shr (dq_imm hn (dq_vis h) hc)
  | _, _, _, .lst e h, hc => .lst e (RepL.clean hn h hc)
  | _, _, _, .tup e h, hc => .tup e (RepL.clean hn h hc)
  | _, _, _, .tpa e h, hc => .tpa e (RepL.clean hn h hc)
  | _, _, _, .dic e, _ => .dic e
  | _, _, _, .ins e e2 l h, hc => .ins e e2 l (RepL.clean hn h hc)
  | _, _, _, .rc e l h, hc => .rc e l (RepL.clean hn h hc)
  | _, _, _, .dct e l nd h, hc => .dct e l nd (RepL.clean hn h hc)
  | _, _, _, .lsa e h, hc => .lsa e (RepL.clean hn h hc)
theorem RepL.clean (hn : NoTup cs H) : ∀ {vs : List V} {ts : List T} {A : List Addr}, RepL bs H vs ts A → T.cleans ts = true → RepL cs H vs ts A
  | _, _, _, .nil, _ => .nil
  | _, _, _, .cons h t, hc => by
    have hc' := Bool.and_eq_true _ _ ▸ hc
    exact .cons (Rep.clean hn h hc'.1) (RepL.clean hn t hc'.2)
end
theorem RepL.len : ∀ {vs : List V} {ts : List T} {A : List Addr}, RepL bs H vs ts A → vs.length = ts.length
  | _, _, _, .nil => rfl
  | _, _, _, .cons _ t => by rw [List.length_cons, List.length_cons, t.len]
theorem RepL.append : ∀ {vs us : List V} {ts ss : List T} {A B : List Addr}, RepL bs H vs ts A → RepL bs H us ss B → RepL bs H (vs ++ us) (ts ++ ss) (A ++ B)
  | _, _, _, _, _, _, .nil, q => q
  | _, _, _, _, _, _, .cons h t, q => by
    rw [List.append_assoc]
    exact .cons h (t.append q)
theorem RepL.one {A : List Addr} (h : Rep bs H v t A) : RepL bs H [v] [t] A := by
  have := RepL.cons h RepL.nil
  rw [List.append_nil] at this
  exact this
theorem RepL.shs : ∀ {vs : List V} {ds : List PyData}, DqAll (hid bs H) vs ds → RepL bs H vs (ds.map T.sh) []
  | _, _, .nil => .nil
  | _, _, .cons h t => .cons (A := []) (B := []) (.sh h) (RepL.shs t)
/-! slots -/
inductive RelE (b bs : List Addr) (H : Hp) : L2.St → Env → List Addr → Prop
  | nil : RelE b bs H [] [] []
  | no {x : Option V} {σ : L2.St} {ε : Env} {F : List Addr} (h : RelE b bs H σ ε F) : RelE b bs H (x :: σ) (.no :: ε) F
  | box {a : Addr} {σ : L2.St} {ε : Env} {F : List Addr} (e : b = [a]) (h : RelE b bs H σ ε F) : RelE b bs H (some (.ref a) :: σ) (.box :: ε) F
  | is {v : V} {t : T} {A : List Addr} {σ : L2.St} {ε : Env} {F : List Addr} (r : Rep bs H v t A) (h : RelE b bs H σ ε F) : RelE b bs H (some v :: σ) (.is t :: ε) (A ++ F)
  | dic {a : Addr} {kvs : List (Key × V)} {σ : L2.St} {ε : Env} {F : List Addr} (e : H a = some (.dK kvs)) (h : RelE b bs H σ ε F) : RelE b bs H (some (.ref a) :: σ) (.dic kvs :: ε) ([a] ++ F)
  | dcF {a : Addr} {o : Obj} {kvs : List (Int × Int)} {σ : L2.St} {ε : Env} {F : List Addr} (e : hid bs H a = some (.frz o (.dK (kvs.map kvI)))) (h : RelE b bs H σ ε F) : RelE b bs H (some (.ref a) :: σ) (.dcF kvs :: ε) F
  | pin {a : Addr} {σ : L2.St} {ε : Env} {F : List Addr} (h : RelE b bs H σ ε F) : RelE b bs H (some (.ref a) :: σ) (.pin a :: ε) F
theorem RelE.chg (hn : NoTup bs H) (k : Same (hid bs H) (hid cs H')) : ∀ {σ : L2.St} {ε : Env} {F : List Addr}, (∀ a ∈ F, ∀ o, H a = some o → H' a = some o) → RelE b bs H σ ε F → RelE b cs H' σ ε F
  | _, _, _, _, .nil => .nil
  | _, _, _, hF, .no h => .no (RelE.chg hn k hF h)
  | _, _, _, hF, .box e h => .box e (RelE.chg hn k hF h)
  | _, _, _, hF, .is r h => .is (Rep.chg hn k (fun a ha => hF a (List.mem_append_left _ ha)) r) (RelE.chg hn k (fun a ha => hF a (List.mem_append_right _ ha)) h)
  | _, _, _, hF, .dic e h => .dic (hF _ (List.mem_append_left _ (List.mem_singleton.mpr rfl)) _ e) (RelE.chg hn k (fun a ha => hF a (List.mem_append_right _ ha)) h)
  | _, _, _, hF, .dcF e h => .dcF (k _ _ e) (RelE.chg hn k hF h)
  | _, _, _, hF, .pin h => .pin (RelE.chg hn k hF h)
theorem RelE.own : ∀ {σ : L2.St} {ε : Env} {F : List Addr}, RelE b bs H σ ε F → ∀ a ∈ F, Own H a
  | _, _, _, .nil => fun _ z => nomatch z
  | _, _, _, .no h => h.own
  | _, _, _, .box e h => h.own
  | _, _, _, .is r h => fun a ha => by
    rcases List.mem_append.mp ha with ha | ha
    · exact r.own a ha
    · exact h.own a ha
  | _, _, _, .dic e h => fun a ha => by
    rcases List.mem_append.mp ha with ha | ha
    · rw [List.mem_singleton.mp ha]; exact own_dic e
    · exact h.own a ha
  | _, _, _, .dcF _ h => h.own
  | _, _, _, .pin h => h.own
/-- what stands in a slot -/
inductive RepS (b bs : List Addr) (H : Hp) : Option V → Sl → List Addr → Prop
  | no {x : Option V} : RepS b bs H x .no []
  | box {a : Addr} (e : b = [a]) : RepS b bs H (some (.ref a)) .box []
  | is {v : V} {t : T} {A : List Addr} (r : Rep bs H v t A) : RepS b bs H (some v) (.is t) A
  | dic {a : Addr} {kvs : List (Key × V)} (e : H a = some (.dK kvs)) : RepS b bs H (some (.ref a)) (.dic kvs) [a]
  | dcF {a : Addr} {o : Obj} {kvs : List (Int × Int)} (e : hid bs H a = some (.frz o (.dK (kvs.map kvI)))) : RepS b bs H (some (.ref a)) (.dcF kvs) []
  | pin {a : Addr} : RepS b bs H (some (.ref a)) (.pin a) []
theorem RelE.cons {x : Option V} {l : Sl} {A F : List Addr} {σ : L2.St} {ε : Env} (r : RepS b bs H x l A) (h : RelE b bs H σ ε F) : RelE b bs H (x :: σ) (l :: ε) (A ++ F) := by
  cases r with
  | no => exact .no h
  | box e => exact .box e h
  | is r => exact .is r h
  | dic e => exact .dic e h
  | dcF e => exact .dcF e h
  | pin => exact .pin h
/-- one slot taken out, another put in -/
theorem RelE.at : ∀ {σ : L2.St} {ε : Env} {F : List Addr}, RelE b bs H σ ε F → ∀ {i : Nat} {l : Sl}, ε[i]? = some l → ∃ x A F1 F2, σ[i]? = some x ∧ RepS b bs H x l A ∧ F = F1 ++ (A ++ F2) ∧
    ∀ {cs : List Addr} {H' : Hp} {y : Option V} {m : Sl} {B : List Addr}, NoTup bs H → Same (hid bs H) (hid cs H') → (∀ a ∈ F1 ++ F2, ∀ o, H a = some o → H' a = some o) → RepS b cs H' y m B → RelE b cs H' (σ.set i y) (ε.set i m) (F1 ++ (B ++ F2))
  | _, _, _, .nil, i, l, e => by simp at e
  | x :: σ, l' :: ε, F, h, 0, l, e => by
    have e' : l' = l := Option.some.inj e
    subst e'
    have go : ∀ {A F' : List Addr}, RepS b bs H x l' A → RelE b bs H σ ε F' → F = A ++ F' → ∃ x' A F1 F2, (x :: σ)[0]? = some x' ∧ RepS b bs H x' l' A ∧ F = F1 ++ (A ++ F2) ∧
        ∀ {cs : List Addr} {H' : Hp} {y : Option V} {m : Sl} {B : List Addr}, NoTup bs H → Same (hid bs H) (hid cs H') → (∀ a ∈ F1 ++ F2, ∀ o, H a = some o → H' a = some o) → RepS b cs H' y m B → RelE b cs H' ((x :: σ).set 0 y) ((l' :: ε).set 0 m) (F1 ++ (B ++ F2)) := fun {A F'} r h' eF =>
      ⟨x, A, [], F', rfl, r, eF, fun {cs H' y m B} hn k hF rB => by
        show RelE b cs H' (y :: σ) (m :: ε) (B ++ F')
        exact RelE.cons rB (RelE.chg hn k hF h')⟩
    cases h with
    | no h => exact go .no h rfl
    | box e2 h => exact go (.box e2) h rfl
    | is r h => exact go (.is r) h rfl
    | dic e2 h => exact go (.dic e2) h rfl
    | dcF e2 h => exact go (.dcF e2) h rfl
    | pin h => exact go .pin h rfl
  | x :: σ, l' :: ε, F, h, i + 1, l, e => by
    have go : ∀ {A F' : List Addr}, RepS b bs H x l' A → RelE b bs H σ ε F' → F = A ++ F' → ∃ x' A F1 F2, (x :: σ)[i + 1]? = some x' ∧ RepS b bs H x' l A ∧ F = F1 ++ (A ++ F2) ∧
        ∀ {cs : List Addr} {H' : Hp} {y : Option V} {m : Sl} {B : List Addr}, NoTup bs H → Same (hid bs H) (hid cs H') → (∀ a ∈ F1 ++ F2, ∀ o, H a = some o → H' a = some o) → RepS b cs H' y m B → RelE b cs H' ((x :: σ).set (i + 1) y) ((l' :: ε).set (i + 1) m) (F1 ++ (B ++ F2)) := fun {A F'} r h' eF => by
      obtain ⟨x', A2, F1, F2, q1, q2, q3, q4⟩ := h'.at (i := i) (l := l) e
      refine ⟨x', A2, A ++ F1, F2, q1, q2, by rw [eF, q3, List.append_assoc], fun {cs H' y m B} hn k hF rB => ?_⟩
      rw [List.append_assoc]
      refine RelE.cons ?_ (q4 hn k (fun a ha => hF a (by rw [List.append_assoc]; exact List.mem_append_right _ ha)) rB)
      cases r with
      | no => exact .no
      | box e2 => exact .box e2
      | is r => exact .is (Rep.chg hn k (fun a ha => hF a (by rw [List.append_assoc]; exact List.mem_append_left _ ha)) r)
      | dic e2 => exact .dic (hF _ (by rw [List.append_assoc]; exact List.mem_append_left _ (List.mem_singleton.mpr rfl)) _ e2)
      | dcF e2 => exact .dcF (k _ _ e2)
      | pin => exact .pin
    cases h with
    | no h => exact go .no h rfl
    | box e2 h => exact go (.box e2) h rfl
    | is r h => exact go (.is r) h rfl
    | dic e2 h => exact go (.dic e2) h rfl
    | dcF e2 h => exact go (.dcF e2) h rfl
    | pin h => exact go .pin h rfl
theorem RelE.len : ∀ {σ : L2.St} {ε : Env} {F : List Addr}, RelE b bs H σ ε F → σ.length = ε.length
  | _, _, _, .nil => rfl
  | _, _, _, .no h => by rw [List.length_cons, List.length_cons, h.len]
  | _, _, _, .box _ h => by rw [List.length_cons, List.length_cons, h.len]
  | _, _, _, .is _ h => by rw [List.length_cons, List.length_cons, h.len]
  | _, _, _, .dic _ h => by rw [List.length_cons, List.length_cons, h.len]
  | _, _, _, .dcF _ h => by rw [List.length_cons, List.length_cons, h.len]
  | _, _, _, .pin h => by rw [List.length_cons, List.length_cons, h.len]
theorem set_beyond {α : Type} : ∀ {xs : List α} {i : Nat} {x : α}, xs[i]? = none → xs.set i x = xs
  | [], _, _, _ => rfl
  | _ :: _, 0, _, h => by cases h
  | y :: ys, i + 1, x, h => by
    show y :: ys.set i x = y :: ys
    rw [set_beyond (xs := ys) h]
end
end Cg

set_option Elab.async false
set_option linter.all false
set_option maxRecDepth 100000
set_option maxHeartbeats 1000000
namespace Cg
open PySem PySem.Spec PyProof.Rows L2 Evl
/-! ### slots by value and slots as they are: b the box, bs what is hidden, P what is pinned, F what the slots own -/
structure Base where
  b : List Addr
  bs0 : List Addr
  P : Hp
  V : Hp
structure Rel (c : Base) (bs F : List Addr) (σ : L2.St) (H : Hp) (ε : Env) (N : Nat) : Prop where
  env : RelE c.b bs H σ ε F
  nd : F.Nodup
  sub : ∀ a ∈ F, a ∈ bs
  off : ∀ a ∈ F, c.P a = none
  nb : ∀ a ∈ F, a ∉ c.bs0
  up : ∀ a ∈ c.bs0, a ∈ bs
  bb : ∀ a ∈ c.b, a ∈ c.bs0
  offb : ∀ a ∈ c.b, c.P a = none
  live : Live bs H
  nt : NoTup bs H
  box : ∀ a ∈ c.b, Box H a N
  pin : Same c.P H
  vis : Same c.V (hid bs H)
/-- only the box was changed -/
structure Out (c : Base) (H H' : Hp) (N : Nat) : Prop where
  keep : Keep c.b H H'
  box : ∀ a ∈ c.b, Box H' a N
section
variable {c : Base} {bs F A B hs : List Addr} {σ : L2.St} {H H' H1 H2 : Hp} {ε : Env} {N N' N1 N2 : Nat} {v : V} {t : T} {d : PyData}
theorem Out.trans (o : Out c H H1 N1) (p : Out c H1 H2 N2) : Out c H H2 N2 := ⟨o.keep.trans p.keep, p.box⟩
theorem Out.ext (o : Out c H H1 N1) (e : Same H1 H2) : Out c H H2 N1 := ⟨o.keep.ext e, fun a ha => (o.box a ha).mono e⟩
theorem Rel.self (r : Rel c bs F σ H ε N) : Out c H H N := ⟨Keep.refl _ _, r.box⟩
theorem Rel.ofSame (r : Rel c bs F σ H ε N) (e : Same H H') : Out c H H' N := r.self.ext e
theorem Rel.bin (r : Rel c bs F σ H ε N) : ∀ a ∈ c.b, a ∈ bs := fun a ha => r.up a (r.bb a ha)
theorem Rel.fb (r : Rel c bs F σ H ε N) : ∀ a ∈ F, a ∉ c.b := fun a ha z => r.nb a ha (r.bb a z)
theorem box_tup {a : Addr} {o : HO} (h : Box H a N) (z : H a = some o) : Hard o := by
  obtain ⟨_, _, _, e, _⟩ := h
  rw [e] at z
  cases z
  trivial
/-- what is live and kept stands -/
theorem out_get {a : Addr} {o : HO} (k : Out c H H' N) (hb : a ∉ c.b) (e : H a = some o) : H' a = some o := k.keep.get hb e
theorem out_live (k : Out c H H' N) (l : Live bs H) : Live bs H' := fun a ha => by
  by_cases hb : a ∈ c.b
  · exact (k.box a hb).is
  · cases e : H a with
    | none => exact absurd e (l a ha)
    | some o => rw [out_get k hb e]; exact fun z => nomatch z
theorem out_notup (k : Out c H H' N) (l : Live bs H) (n : NoTup bs H) : NoTup bs H' := fun a ha xs z => by
  by_cases hb : a ∈ c.b
  · exact box_tup (k.box a hb) z
  · cases e : H a with
    | none => exact (l a ha e).elim
    | some o =>
      rw [out_get k hb e] at z
      exact n a ha xs (e.trans z)
theorem out_keep (k : Out c H H' N) (h : ∀ a ∈ c.b, a ∈ bs) : Keep bs H H' := k.keep.more h
theorem Rel.out (r : Rel c bs F σ H ε N) (k : Out c H H' N') : Rel c bs F σ H' ε N' where
  env := RelE.chg r.nt (out_keep k r.bin) (fun a ha o e => out_get k (r.fb a ha) e) r.env
  nd := r.nd
  sub := r.sub
  off := r.off
  nb := r.nb
  up := r.up
  bb := r.bb
  offb := r.offb
  live := out_live k r.live
  nt := out_notup k r.live r.nt
  box := k.box
  pin := fun a o e => out_get k (fun z => by rw [r.offb a z] at e; cases e) (r.pin a o e)
  vis := r.vis.trans (out_keep k r.bin)
theorem Rel.ext (r : Rel c bs F σ H ε N) (e : Same H H') : Rel c bs F σ H' ε N := r.out (r.ofSame e)
/-- something that is its own, new since H0 -/
structure Nw (bs A : List Addr) (H0 H : Hp) (v : V) (t : T) : Prop where
  rep : Rep (A ++ bs) H v t A
  nd : A.Nodup
  new : ∀ a ∈ A, H0 a = none
structure NwL (bs A : List Addr) (H0 H : Hp) (vs : List V) (ts : List T) : Prop where
  rep : RepL (A ++ bs) H vs ts A
  nd : A.Nodup
  new : ∀ a ∈ A, H0 a = none
theorem own_notup (h : ∀ a ∈ A, Own H a) (n : NoTup bs H) : NoTup (A ++ bs) H := fun a ha xs z => by
  rcases List.mem_append.mp ha with ha | ha
  · obtain ⟨o, e, no⟩ := h a ha
    rw [e] at z
    exact Option.some.inj z ▸ no
  · exact n a ha xs z
theorem own_live (h : ∀ a ∈ A, Own H a) (l : Live bs H) : Live (A ++ bs) H := fun a ha => by
  rcases List.mem_append.mp ha with ha | ha
  · obtain ⟨ys, e, _⟩ := h a ha
    rw [e]
    exact fun z => nomatch z
  · exact l a ha
theorem Nw.sh (h : Dq (hid bs H') v d) : Nw bs [] H H' v (.sh d) := ⟨.sh h, List.nodup_nil, fun _ z => nomatch z⟩
theorem Nw.data (n : Nw bs A H H' v t) (l : Live bs H) (m : NoTup bs H') : Dq (hid bs H') v t.data :=
  Rep.data m (fun a ha => List.mem_append_right _ ha) (fun a ha z => l a z (n.new a ha)) n.rep
theorem NwL.datas {vs : List V} {ts : List T} (n : NwL bs A H H' vs ts) (l : Live bs H) (m : NoTup bs H') : DqAll (hid bs H') vs (T.datas ts) :=
  RepL.datas m (fun a ha => List.mem_append_right _ ha) (fun a ha z => l a z (n.new a ha)) n.rep
/-- visible stays visible while new ones are hidden -/
theorem vis_step (k : Out c H1 H2 N) (hb : ∀ a ∈ c.b, a ∈ bs) (hB : ∀ a ∈ B, H1 a = none) : Same (hid bs H1) (hid (B ++ bs) H2) := fun a o e => by
  obtain ⟨h1, h2⟩ := hid_some e
  have h3 : a ∉ B ++ bs := fun z => by
    rcases List.mem_append.mp z with z | z
    · rw [hB a z] at h2; cases h2
    · exact h1 z
  rw [hid_out h3]
  exact out_get k (fun z => h1 (hb a z)) h2
theorem Nw.step (n : Nw bs A H H1 v t) (k : Out c H1 H2 N) (l : Live bs H) (m : NoTup bs H1) (hb : ∀ a ∈ c.b, a ∈ bs) : Nw bs A H H2 v t := by
  have nb : ∀ a ∈ A, a ∉ c.b := fun a ha z => l a (hb a z) (n.new a ha)
  exact ⟨Rep.chg (own_notup n.rep.own m) (out_keep k fun a ha => List.mem_append_right _ (hb a ha)) (fun a ha o e => out_get k (nb a ha) e) n.rep, n.nd, n.new⟩
theorem NwL.step {vs : List V} {ts : List T} (n : NwL bs A H H1 vs ts) (k : Out c H1 H2 N) (l : Live bs H) (m : NoTup bs H1) (hb : ∀ a ∈ c.b, a ∈ bs) : NwL bs A H H2 vs ts := by
  have nb : ∀ a ∈ A, a ∉ c.b := fun a ha z => l a (hb a z) (n.new a ha)
  exact ⟨RepL.chg (own_notup n.rep.own m) (out_keep k fun a ha => List.mem_append_right _ (hb a ha)) (fun a ha o e => out_get k (nb a ha) e) n.rep, n.nd, n.new⟩
theorem NwL.nil : NwL bs [] H H' [] [] := ⟨.nil, List.nodup_nil, fun _ z => nomatch z⟩
/-- new ones side by side: the first stood when the second came -/
theorem side {A B : List Addr} {H1 : Hp} (ha : ∀ a ∈ A, H1 a ≠ none) (hb : ∀ a ∈ B, H1 a = none) : ∀ a ∈ A, a ∉ B := fun a h z => ha a h (hb a z)
theorem nodup_app {A B : List Addr} (hA : A.Nodup) (hB : B.Nodup) (h : ∀ a ∈ A, a ∉ B) : (A ++ B).Nodup := List.nodup_append.mpr ⟨hA, hB, fun a ha b hb e => h a ha (e ▸ hb)⟩
theorem own_some {A : List Addr} (h : ∀ a ∈ A, Own H a) : ∀ a ∈ A, H a ≠ none := fun a ha => by
  obtain ⟨xs, e, _⟩ := h a ha
  rw [e]
  exact fun z => nomatch z
theorem hid_perm {cs : List Addr} (h : ∀ a, a ∈ cs → a ∈ bs) : Same (hid bs H) (hid cs H) := hid_less h
theorem Rep.perm {cs : List Addr} (n : NoTup bs H) (h : ∀ a, a ∈ cs → a ∈ bs) (r : Rep bs H v t A) : Rep cs H v t A := Rep.chg n (hid_perm h) (fun _ _ _ e => e) r
theorem RepL.perm {vs : List V} {ts : List T} {cs : List Addr} (n : NoTup bs H) (h : ∀ a, a ∈ cs → a ∈ bs) (r : RepL bs H vs ts A) : RepL cs H vs ts A := RepL.chg n (hid_perm h) (fun _ _ _ e => e) r
/-- the slots, with more hidden that is new -/
theorem Rel.hide (r : Rel c bs F σ H ε N) (k : Out c H H1 N1) (hA : ∀ a ∈ A, H a = none) (ho : ∀ a ∈ A, Own H1 a) : Rel c (A ++ bs) F σ H1 ε N1 where
  env := RelE.chg r.nt (vis_step k r.bin hA) (fun a ha o e => out_get k (r.fb a ha) e) r.env
  nd := r.nd
  sub := fun a ha => List.mem_append_right _ (r.sub a ha)
  off := r.off
  nb := r.nb
  up := fun a ha => List.mem_append_right _ (r.up a ha)
  bb := r.bb
  offb := r.offb
  live := own_live ho (out_live k r.live)
  nt := own_notup ho (out_notup k r.live r.nt)
  box := k.box
  pin := (r.out k).pin
  vis := r.vis.trans (vis_step k r.bin hA)
theorem nodup_mid {F1 A B F2 : List Addr} (h : (F1 ++ (A ++ F2)).Nodup) (hB : B.Nodup) (h1 : ∀ a ∈ B, a ∉ F1 ∧ a ∉ F2) : (F1 ++ (B ++ F2)).Nodup := by
  obtain ⟨n1, n2, n3⟩ := List.nodup_append.mp h
  obtain ⟨_, n5, _⟩ := List.nodup_append.mp n2
  refine nodup_app n1 (nodup_app hB n5 fun a ha => (h1 a ha).2) fun a ha z => ?_
  rcases List.mem_append.mp z with z | z
  · exact (h1 a z).1 ha
  · exact n3 a ha a (List.mem_append_right _ z) rfl
/-- a slot set -/
theorem Rel.set {i : Nat} (r : Rel c bs F σ H ε N) (k : Out c H H1 N1) (n : Nw bs A H H1 v t) : ∃ F', Rel c (A ++ bs) F' (σ.set i (some v)) H1 (ε.set i (.is t)) N1 := by
  have r1 := r.hide k n.new n.rep.own
  cases hl : ε[i]? with
  | none =>
    have hs : σ[i]? = none := by
      rw [List.getElem?_eq_none_iff] at hl ⊢
      rw [r.env.len]
      exact hl
    rw [set_beyond hl, set_beyond hs]
    exact ⟨F, r1⟩
  | some l =>
    obtain ⟨x, A0, F1, F2, q1, q2, rfl, q4⟩ := r1.env.at hl
    have hm : ∀ a ∈ F1 ++ (A ++ F2), a ∈ F1 ++ (A0 ++ F2) ∨ a ∈ A := fun a ha => by
      rcases List.mem_append.mp ha with h | h
      · exact .inl (List.mem_append_left _ h)
      · rcases List.mem_append.mp h with h | h
        · exact .inr h
        · exact .inl (List.mem_append_right _ (List.mem_append_right _ h))
    have hA : ∀ a ∈ A, a ∉ F1 ++ (A0 ++ F2) := fun a ha z => r.live a (r.sub a z) (n.new a ha)
    refine ⟨F1 ++ (A ++ F2), q4 r1.nt (Same.refl _) (fun _ _ _ e => e) (.is n.rep), nodup_mid r.nd n.nd fun a ha => ⟨fun z => hA a ha (List.mem_append_left _ z), fun z => hA a ha (List.mem_append_right _ (List.mem_append_right _ z))⟩, fun a ha => ?_, fun a ha => ?_, fun a ha => ?_, r1.up, r1.bb, r1.offb, r1.live, r1.nt, r1.box, r1.pin, r1.vis⟩
    · rcases hm a ha with h | h
      · exact r1.sub a h
      · exact List.mem_append_left _ h
    · rcases hm a ha with h | h
      · exact r1.off a h
      · cases e : c.P a with
        | none => rfl
        | some o =>
          have := r.pin a o e
          rw [n.new a h] at this
          cases this
    · rcases hm a ha with h | h
      · exact r1.nb a h
      · exact fun z => r.live a (r.up a z) (n.new a h)
/-! ### expressions -/
abbrev WE := Env → Nat → (PyData → Nat → Prop) → Prop
abbrev WB := Env → Nat → (Bool → Nat → Prop) → Prop
abbrev WA := Env → Nat → (List PyData → Nat → Prop) → Prop
abbrev WT := Env → Nat → (T → Nat → Prop) → Prop
abbrev WTs := Env → Nat → (List T → Nat → Prop) → Prop
def SimE (te : TE) (we : WE) : Prop := ∀ {c : Base} {bs F : List Addr} {σ : L2.St} {H : Hp} {ε : Env} {N : Nat} {R : PyData → Nat → Prop} {Q : VK}, Rel c bs F σ H ε N → we ε N R → (∀ v d N' H', R d N' → Out c H H' N' → Dq (hid bs H') v d → Q v H') → te σ H Q
def SimB (te : TT) (we : WB) : Prop := ∀ {c : Base} {bs F : List Addr} {σ : L2.St} {H : Hp} {ε : Env} {N : Nat} {R : Bool → Nat → Prop} {Q : Bool → Hp → Prop}, Rel c bs F σ H ε N → we ε N R → (∀ b N' H', R b N' → Out c H H' N' → Q b H') → te σ H Q
def SimA (te : TA) (we : WA) : Prop := ∀ {c : Base} {bs F : List Addr} {σ : L2.St} {H : Hp} {ε : Env} {N : Nat} {R : List PyData → Nat → Prop} {Q : List V → Hp → Prop}, Rel c bs F σ H ε N → we ε N R → (∀ vs ds N' H', R ds N' → Out c H H' N' → DqAll (hid bs H') vs ds → Q vs H') → te σ H Q
def SimT (te : TE) (we : WT) : Prop := ∀ {c : Base} {bs F : List Addr} {σ : L2.St} {H : Hp} {ε : Env} {N : Nat} {R : T → Nat → Prop} {Q : VK}, Rel c bs F σ H ε N → we ε N R → (∀ v t A N' H', R t N' → Out c H H' N' → Nw bs A H H' v t → Q v H') → te σ H Q
def SimTs (te : TA) (we : WTs) : Prop := ∀ {c : Base} {bs F : List Addr} {σ : L2.St} {H : Hp} {ε : Env} {N : Nat} {R : List T → Nat → Prop} {Q : List V → Hp → Prop}, Rel c bs F σ H ε N → we ε N R → (∀ vs ts A N' H', R ts N' → Out c H H' N' → NwL bs A H H' vs ts → Q vs H') → te σ H Q
theorem out_dq (k : Out c H H' N) (hb : ∀ a ∈ c.b, a ∈ bs) (h : Dq (hid bs H) v d) : Dq (hid bs H') v d := h.mono (out_keep k hb)
end
/-- data, freshly shared -/
def wSh (we : WE) : WT := fun ε N R => we ε N fun d N' => R (.sh d) N'
theorem sim_sh {te : TE} {we : WE} (h : SimE te we) : SimT te (wSh we) := fun r w q => h r w fun v d N' H' hR o hd => q v (.sh d) [] N' H' hR o (.sh hd)
def wFz (wt : WT) : WE := fun ε N R => wt ε N fun t N' => R t.data N'
theorem sim_fz {te : TE} {wt : WT} (h : SimT te wt) : SimE te (wFz wt) := fun r w q => h r w fun v t A N' H' hR o n => q v t.data N' H' hR o (n.data r.live (out_notup o r.live r.nt))
/-! ### the view: all slots as data -/
def Sl.view : Sl → Sl
  | .is t => .is (.sh t.data)
  | .dic _ => .no
  | .dcF _ => .no
  | .pin _ => .no
  | l => l
def viewE (ε : Env) : Env := ε.map Sl.view
section
variable {c : Base} {bs F A : List Addr} {σ : L2.St} {H H' : Hp} {ε : Env} {N N' : Nat}
theorem view_env (hn : NoTup c.b H) (hc : ∀ a ∈ c.b, a ∈ bs) : ∀ {σ : L2.St} {ε : Env} {F : List Addr}, (∀ a ∈ F, a ∉ c.b) → RelE c.b bs H σ ε F → RelE c.b c.b H σ (viewE ε) []
  | _, _, _, _, .nil => .nil
  | _, _, _, hF, .no h => .no (view_env hn hc hF h)
  | _, _, _, hF, .box e h => .box e (view_env hn hc hF h)
  | _, _, _, hF, .is r h => RelE.is (A := []) (.sh (Rep.data hn hc (fun a ha => hF a (List.mem_append_left _ ha)) r)) (view_env hn hc (fun a ha => hF a (List.mem_append_right _ ha)) h)
  | _, _, _, hF, .dic e h => .no (view_env hn hc (fun a ha => hF a (List.mem_append_right _ ha)) h)
  | _, _, _, hF, .dcF e h => .no (view_env hn hc hF h)
  | _, _, _, hF, .pin h => .no (view_env hn hc hF h)
theorem Rel.view (r : Rel c bs F σ H ε N) : Rel { c with bs0 := c.b } c.b [] σ H (viewE ε) N where
  env := view_env (fun a ha => r.nt a (r.bin a ha)) r.bin r.fb r.env
  nd := List.nodup_nil
  sub := fun _ z => nomatch z
  off := fun _ z => nomatch z
  nb := fun _ z => nomatch z
  up := fun _ h => h
  bb := fun _ h => h
  offb := r.offb
  live := fun a ha => r.live a (r.bin a ha)
  nt := fun a ha => r.nt a (r.bin a ha)
  box := r.box
  pin := r.pin
  vis := r.vis.trans (hid_less r.bin)
end
/-- data without lists, from the view -/
def wVw (we : WE) : WE := fun ε N R => we (viewE ε) N fun d N' => imm d = true ∧ R d N'
theorem sim_vw {te : TE} {we : WE} (h : SimE te we) : SimE te (wVw we) := fun r w q => h r.view w fun v d N' H' hR o hd =>
  q v d N' H' hR.2 ⟨o.keep, o.box⟩ (dq_imm (out_notup ⟨o.keep, o.box⟩ r.live r.nt) (dq_vis hd) hR.1)
/-- a truth, from the view -/
def wVb (we : WB) : WB := fun ε N R => we (viewE ε) N R
theorem sim_vb {te : TT} {we : WB} (h : SimB te we) : SimB te (wVb we) := fun r w q => h r.view w fun b N' H' hR o => q b N' H' hR ⟨o.keep, o.box⟩
/-- something new that is clean, from the view -/
def wVt (wt : WT) : WT := fun ε N R => wt (viewE ε) N fun t N' => t.clean = true ∧ R t N'
theorem sim_vt {te : TE} {wt : WT} (h : SimT te wt) : SimT te (wVt wt) := fun {c bs F σ H ε N R Q} r w q => h r.view w fun v t A N' H' hR o n => by
  have o' : Out c H H' N' := ⟨o.keep, o.box⟩
  refine q v t A N' H' hR.2 o' ⟨Rep.clean (own_notup n.rep.own (out_notup o' r.live r.nt)) n.rep hR.1, n.nd, n.new⟩
end Cg

set_option Elab.async false
set_option linter.all false
set_option maxRecDepth 100000
set_option maxHeartbeats 1000000
namespace Cg
open PySem PySem.Spec PyProof.Rows L2 Evl
/-! ### names, constants, arguments -/
def wVar (i : Nat) : WE := fun ε N R => match ε[i]? with
  | some (.is (.sh d)) => R d N
  | some (.is (.shr _ d)) => R d N
  | _ => False
def wC (d : PyData) : WE := fun _ N R => R d N
section
variable {ta tb tc te : TE} {wa wb wc we : WE} {t u : TT} {w w' : WB} {tas : TA} {was : WA}
theorem sim_var {i : Nat} : SimE (tVar i) (wVar i) := fun {c bs F σ H ε N R Q} r h q => by
  have h' : (match ε[i]? with | some (.is (.sh d)) => R d N | some (.is (.shr _ d)) => R d N | _ => False) := h
  split at h'
  · rename_i d e
    obtain ⟨x, A, F1, F2, hx, hr, _, _⟩ := r.env.at e
    cases hr with
    | is hr => cases hr with
      | sh hd => exact ⟨_, hx, q _ d N H h' r.self hd⟩
  · rename_i a d e
    obtain ⟨x, A, F1, F2, hx, hr, _, _⟩ := r.env.at e
    cases hr with
    | is hr => cases hr with
      | shr hd => exact ⟨_, hx, q _ d N H h' r.self hd⟩
  · exact h'.elim
theorem sim_int {i : Int} : SimE (tC (.int i)) (wC (.int i)) := fun r h q => q _ _ _ _ h r.self (.int i)
theorem sim_bl {b : Bool} : SimE (tC (.bl b)) (wC (.bool b)) := fun r h q => q _ _ _ _ h r.self (.bl b)
theorem sim_non : SimE (tC .non) (wC .none) := fun r h q => q _ _ _ _ h r.self .non
def wNil : WA := fun _ N R => R [] N
def wCons (we : WE) (wa : WA) : WA := fun ε N R => we ε N fun d N1 => wa ε N1 fun ds N2 => R (d :: ds) N2
theorem sim_nil : SimA tNil wNil := fun r h q => q _ _ _ _ h r.self .nil
theorem sim_cons (h : SimE te we) (k : SimA tas was) : SimA (tCons te tas) (wCons we was) := fun r w q => h r w fun v d N1 H1 w1 o1 hd => k (r.out o1) w1 fun vs ds N2 H2 w2 o2 hds => q (v :: vs) (d :: ds) N2 H2 w2 (o1.trans o2) (.cons (out_dq o2 r.bin hd) hds)
/-! ### operators -/
abbrev O2 := PyData → PyData → (PyData → Prop) → Prop
def OpD (r : R2) (o : O2) : Prop := ∀ {hs : List Addr} {H : Hp} {x y : V} {d e : PyData} {S : PyData → Prop} {Q : VK}, Live hs H → Dq (hid hs H) x d → Dq (hid hs H) y e → o d e S → (∀ z f H', S f → Same H H' → Dq (hid hs H') z f → Q z H') → r x y H Q
def wOp (o : O2) (wa wb : WE) : WE := fun ε N R => wa ε N fun d N1 => wb ε N1 fun e N2 => o d e fun f => R f N2
theorem sim_op {r : R2} {o : O2} (ho : OpD r o) (ha : SimE ta wa) (hb : SimE tb wb) : SimE (tOp r ta tb) (wOp o wa wb) := fun rl w q => ha rl w fun v d N1 H1 w1 o1 hd => hb (rl.out o1) w1 fun u e N2 H2 w2 o2 he =>
  ho (out_live (o1.trans o2) rl.live) (out_dq o2 rl.bin hd) he w2 fun z f H3 hS e3 hz => q z f N2 H3 hS ((o1.trans o2).ext e3) hz
theorem OpD.or {r r' : R2} {o o' : O2} (h : OpD r o) (h' : OpD r' o') : OpD (fun x y H Q => r x y H Q ∨ r' x y H Q) (fun d e S => o d e S ∨ o' d e S) := fun l hx hy w q => w.elim (fun w => .inl (h l hx hy w q)) fun w => .inr (h' l hx hy w q)
theorem OpD.imp {r : R2} {o o' : O2} (h : OpD r o) (k : ∀ d e S, o' d e S → o d e S) : OpD r o' := fun l hx hy w q => h l hx hy (k _ _ _ w) q
theorem OpD.weak {r r' : R2} {o : O2} (h : OpD r o) (k : ∀ x y H Q, r x y H Q → r' x y H Q) : OpD r' o := fun l hx hy w q => k _ _ _ _ (h l hx hy w q)
def oI (C : Int → Int → Prop) (g : Int → Int → PyData) : O2
  | .int i, .int j, S => C i j ∧ S (g i j)
  | _, _, _ => False
def oI0 (g : Int → Int → PyData) : O2
  | .int i, .int j, S => S (g i j)
  | _, _, _ => False
theorem od_I0 {g : Int → Int → V} {g' : Int → Int → PyData} (h : ∀ (H : Hp) i j, Dq H (g i j) (g' i j)) : OpD (rI0 g) (oI0 g') := fun {hs H x y d e S Q} l hx hy w q => by
  cases hx <;> cases hy <;> first | exact False.elim w | exact ⟨_, _, rfl, rfl, q _ _ H w (Same.refl _) (h _ _ _)⟩
theorem od_I {C : Int → Int → Prop} {g : Int → Int → V} {g' : Int → Int → PyData} (h : ∀ (H : Hp) i j, Dq H (g i j) (g' i j)) : OpD (rI C g) (oI C g') := fun {hs H x y d e S Q} l hx hy w q => by
  cases hx <;> cases hy <;> first | exact False.elim w | exact ⟨_, _, rfl, rfl, w.1, q _ _ H w.2 (Same.refl _) (h _ _ _)⟩
abbrev oSub : O2 := oI0 fun i j => .int (i - j)
abbrev oFdiv : O2 := oI CDiv fun i j => .int (i / j)
abbrev oLt : O2 := oI0 fun i j => .bool (decide (i < j))
abbrev oLe : O2 := oI0 fun i j => .bool (decide (i ≤ j))
abbrev oMulI : O2 := oI CMul fun i j => .int (i * j)
abbrev oAddI : O2 := oI0 fun i j => .int (i + j)
theorem od_sub : OpD (rI0 fun i j => .int (i - j)) oSub := od_I0 fun _ _ _ => .int _
theorem od_fdiv : OpD (rI CDiv fun i j => .int (i / j)) oFdiv := od_I fun _ _ _ => .int _
theorem od_lt : OpD (rI0 fun i j => .bl (decide (i < j))) oLt := od_I0 fun _ _ _ => .bl _
theorem od_le : OpD (rI0 fun i j => .bl (decide (i ≤ j))) oLe := od_I0 fun _ _ _ => .bl _
theorem od_mulI : OpD (rI CMul fun i j => .int (i * j)) oMulI := od_I fun _ _ _ => .int _
theorem od_addI : OpD (rI0 fun i j => .int (i + j)) oAddI := od_I0 fun _ _ _ => .int _
/-! new lists -/
/-- r gives a new list of what o tells -/
def OpN (r : R2) (o : PyData → PyData → (List PyData → Prop) → Prop) : Prop := ∀ {hs : List Addr} {H : Hp} {x y : V} {d e : PyData} {S : List PyData → Prop} {Q : VK}, Live hs H → Dq (hid hs H) x d → Dq (hid hs H) y e → o d e S → (∀ p xs ds, S ds → H p = none → DqAll (hid hs H) xs ds → Q (.ref p) (upd H p (.lst xs))) → r x y H Q
theorem OpN.d {r : R2} {o : PyData → PyData → (List PyData → Prop) → Prop} (h : OpN r o) : OpD r (fun d e S => o d e fun ds => S (.list ds)) := fun {hs H x y d e S Q} l hx hy w q => h l hx hy w fun p xs ds hS np hd =>
  q _ _ _ hS (Ex.new np) (.lst (by rw [hid_out (l.out np), upd_same]) (hd.mono (same_hid (Ex.new np))))
def oCat : PyData → PyData → (List PyData → Prop) → Prop
  | .list a, .list b, S => a.length + b.length ≤ 1000000 ∧ S (a ++ b)
  | _, _, _ => False
theorem on_cat : OpN rCat oCat := fun {hs H x y d e S Q} l hx hy w q => by
  cases hx <;> cases hy <;> first | exact False.elim w | skip
  rename_i a xs ds e1 h1 a2 xs2 ds2 e2 h2
  exact ⟨_, _, _, _, rfl, rfl, (hid_some e1).2, (hid_some e2).2, by rw [h1.len, h2.len]; exact Nat.le_trans w.1 (by decide), fun p np => q p _ _ w.2 np (h1.append h2)⟩
def oRep : PyData → PyData → (List PyData → Prop) → Prop
  | .list a, .int k, S => (0 ≤ k ∧ k ≤ 1000000 ∧ a.length * k.toNat ≤ 1000000) ∧ S (List.replicate k.toNat a).flatten
  | _, _, _ => False
theorem on_rep : OpN rRep oRep := fun {hs H x y d e S Q} l hx hy w q => by
  cases hx <;> cases hy <;> first | exact False.elim w | skip
  rename_i a xs ds e1 h1 i
  have hk : 0 ≤ i ∧ i ≤ 1000000 := ⟨w.1.1, w.1.2.1⟩
  exact ⟨_, _, _, rfl, rfl, (hid_some e1).2, by omega, by omega, by rw [h1.len]; exact Nat.le_trans w.1.2.2 (by decide), fun p np => q p _ _ w.2 np (h1.flat _)⟩
def oAdd : O2
  | .int i, .int j, S => S (.int (i + j))
  | .list a, .list b, S => a.length + b.length ≤ 1000000 ∧ S (.list (a ++ b))
  | .str a, .str b, S => a.length + b.length ≤ 1000000 ∧ S (.str (a ++ b))
  | _, _, _ => False
def rStrs : R2 := fun x y H Q => ∃ i j, x = .str i ∧ y = .str j ∧ i.length + j.length ≤ sizeLine ∧ Q (.str (i ++ j)) H
def rAddU : R2 := fun x y H Q => (rI0 fun i j => .int (i + j)) x y H Q ∨ rCat x y H Q ∨ rStrs x y H Q
theorem op_addU {X : Cx} : OpR X (binaryOp .Add) rAddU := op_add.or (op_cat.or op_add_str)
theorem od_add : OpD rAddU oAdd := fun {hs H x y d e S Q} l hx hy w q => by
  cases d <;> cases e <;> first | exact False.elim w | skip
  · exact .inl (od_addI l hx hy w q)
  · obtain ⟨w1, w2⟩ := w
    cases hx
    cases hy
    exact .inr (.inr ⟨_, _, rfl, rfl, Nat.le_trans w1 (by decide), q _ _ H w2 (Same.refl _) (.str _)⟩)
  · exact .inr (.inl (on_cat.d l hx hy w q))
def oMul : O2
  | .int i, .int j, S => CMul i j ∧ S (.int (i * j))
  | .list a, .int k, S => (0 ≤ k ∧ k ≤ 1000000 ∧ a.length * k.toNat ≤ 1000000) ∧ S (.list (List.replicate k.toNat a).flatten)
  | _, _, _ => False
def rMulU : R2 := fun x y H Q => (rI CMul fun i j => .int (i * j)) x y H Q ∨ rRep x y H Q
theorem op_mulU {X : Cx} : OpR X (binaryOp .Mult) rMulU := op_mul.or op_rep
theorem od_mul : OpD rMulU oMul := fun {hs H x y d e S Q} l hx hy w q => by
  cases d <;> cases e <;> first | exact False.elim w | skip
  · exact .inl (od_mulI l hx hy w q)
  · exact .inr (on_rep.d l hx hy w q)
/-! alike or not -/
def atomD : PyData → Bool
  | .list _ => false
  | .tuple _ => false
  | .dict _ => false
  | _ => true
def mixD : PyData → PyData → Bool
  | .int _, .bool _ => true
  | .bool _, .int _ => true
  | _, _ => false
def eqS (d e : PyData) : Bool := match d, e with
  | .int i, .int j => i == j
  | .bool i, .bool j => i == j
  | .str i, .str j => i == j
  | .none, .none => true
  | _, _ => false
/-- both atoms: as they are; else by their data -/
def oEq : O2 := fun d e S => if atomD d && atomD e && !mixD d e then S (.bool (eqS d e)) else SeqAt.shaped d = true ∧ SeqAt.shaped e = true ∧ S (.bool (PyData.eqv d e))
def oNe : O2 := fun d e S => if atomD d && atomD e && !mixD d e then S (.bool (!eqS d e)) else SeqAt.shaped d = true ∧ SeqAt.shaped e = true ∧ S (.bool (!PyData.eqv d e))
def rEqU (K : PySem.W.Frag) : R2 := fun x y H Q => rEq x y H Q ∨ rEqD K x y H Q
def rNeU (K : PySem.W.Frag) : R2 := fun x y H Q => rNe x y H Q ∨ rNeD K x y H Q
theorem op_eqU {X : Cx} (K : PySem.W.Frag) (hu : X.A.units + 64 < cLine) (hK : X.K = K := by rfl) : OpR X (compareOp .Eq) (rEqU K) := by subst hK; exact op_eq.or (op_eqD hu)
theorem op_neU {X : Cx} (K : PySem.W.Frag) (hu : X.A.units + 64 < cLine) (hK : X.K = K := by rfl) : OpR X (compareOp .NotEq) (rNeU K) := by subst hK; exact op_ne.or (op_neD hu)
theorem scal_of {H : Hp} {x y : V} {d e : PyData} (hx : Dq H x d) (hy : Dq H y e) (h : (atomD d && atomD e && !mixD d e) = true) : scal x y = true ∧ decide (x = y) = eqS d e := by
  cases hx <;> cases hy <;> first
    | (simp [atomD, mixD] at h; done)
    | exact ⟨rfl, dec_int⟩
    | exact ⟨rfl, dec_bl⟩
    | exact ⟨rfl, dec_str⟩
    | exact ⟨rfl, by simp [eqS]⟩
theorem od_eq {K : PySem.W.Frag} : OpD (rEqU K) oEq := fun {hs H x y d e S Q} l hx hy w q => by
  unfold oEq at w
  split at w
  · rename_i h
    obtain ⟨h1, h2⟩ := scal_of hx hy h
    exact .inl ⟨h1, q _ _ H w (Same.refl _) (by rw [h2]; exact .bl _)⟩
  · exact .inr ⟨d, e, (dq_vis hx).dp (noD_shaped w.1), (dq_vis hy).dp (noD_shaped w.2.1), w.1, w.2.1, q _ _ H w.2.2 (Same.refl _) (.bl _)⟩
theorem od_ne {K : PySem.W.Frag} : OpD (rNeU K) oNe := fun {hs H x y d e S Q} l hx hy w q => by
  unfold oNe at w
  split at w
  · rename_i h
    obtain ⟨h1, h2⟩ := scal_of hx hy h
    exact .inl ⟨h1, q _ _ H w (Same.refl _) (by rw [h2]; exact .bl _)⟩
  · exact .inr ⟨d, e, (dq_vis hx).dp (noD_shaped w.1), (dq_vis hy).dp (noD_shaped w.2.1), w.1, w.2.1, q _ _ H w.2.2 (Same.refl _) (.bl _)⟩
def isNone : PyData → Bool
  | .none => true
  | _ => false
theorem none_dec {H : Hp} {x : V} {d : PyData} (hx : Dq H x d) : decide (x = .non) = isNone d := by
  cases hx <;> simp [isNone]
def oIs : O2 := fun d e S => isNone e = true ∧ S (.bool (isNone d))
def oIsNot : O2 := fun d e S => isNone e = true ∧ S (.bool (!isNone d))
theorem non_of {H : Hp} {y : V} {e : PyData} (hy : Dq H y e) (h : isNone e = true) : y = .non := by
  cases hy <;> first | rfl | cases h
theorem od_isnot : OpD (fun x y H Q => y = .non ∧ Q (.bl (!decide (x = .non))) H) oIsNot := fun {hs H x y d e S Q} l hx hy w q => ⟨non_of hy w.1, q _ _ H w.2 (Same.refl _) (by rw [none_dec hx]; exact .bl _)⟩
/-! items -/
def intsOf : List PyData → Option (List Int)
  | [] => some []
  | .int i :: r => (intsOf r).map (i :: ·)
  | _ :: _ => none
theorem intsOf_map : ∀ ns : List Int, intsOf (ns.map PyData.int) = some ns
  | [] => rfl
  | n :: r => by
    show (intsOf (r.map PyData.int)).map (n :: ·) = _
    rw [intsOf_map r]
    rfl
theorem intsOf_some : ∀ {ds : List PyData} {ns : List Int}, intsOf ds = some ns → ds = ns.map PyData.int
  | [], ns, h => by
    have e : [] = ns := Option.some.inj h
    rw [← e]
    rfl
  | .int i :: r, ns, h => by
    have h' : (intsOf r).map (i :: ·) = some ns := h
    cases e : intsOf r with
    | none => rw [e] at h'; cases h'
    | some ms =>
      rw [e] at h'
      have e2 : i :: ms = ns := Option.some.inj h'
      rw [← e2, intsOf_some e]
      rfl
  | .none :: _, _, h => by cases h
  | .bool _ :: _, _, h => by cases h
  | .str _ :: _, _, h => by cases h
  | .list _ :: _, _, h => by cases h
  | .tuple _ :: _, _, h => by cases h
  | .dict _ :: _, _, h => by cases h
def seqOf : PyData → Option (List PyData)
  | .list a => some a
  | .tuple a => some a
  | _ => none
theorem seqOf_seqD (kd : Bool) (ds : List PyData) : seqOf (seqD kd ds) = some ds := by cases kd <;> rfl
theorem Dq.seqOf {H : Hp} {K : PySem.W.Frag} {v : V} {d : PyData} {ds : List PyData} (h : Dq H v d) (e : seqOf d = some ds) : ∃ a xs, v = .ref a ∧ (∀ {H' : Hp}, Same H H' → (SqL K H' a xs ∨ SqT K H' a xs)) ∧ DqAll H xs ds := by
  cases h with
  | lst e1 h1 =>
    have e2 := Option.some.inj e
    subst e2
    exact ⟨_, _, rfl, fun s => .inl (SqL.of (s _ _ e1)), h1⟩
  | tup e1 h1 =>
    have e2 := Option.some.inj e
    subst e2
    exact ⟨_, _, rfl, fun s => .inr (SqT.of (s _ _ e1)), h1⟩
  | _ => cases e
def oIx : O2
  | .list a, .int i, S => ∃ d, atI a i = some d ∧ S d
  | .tuple a, .int i, S => ∃ d, atI a i = some d ∧ S d
  | _, _, _ => False
theorem atI_get {H : Hp} {xs : List V} {ds : List PyData} {i : Int} {d : PyData} (h : DqAll H xs ds) (e : atI ds i = some d) : ∃ v, atI xs i = some v ∧ Dq H v d := by
  unfold atI at e ⊢
  rw [h.len]
  cases hn : ixN ds.length i with
  | none => rw [hn] at e; cases e
  | some j =>
    rw [hn] at e
    obtain ⟨v, h1, h2⟩ := h.at (i := j) (d := d) e
    exact ⟨v, h1, h2⟩
theorem od_ix {K : PySem.W.Frag} : OpD (rIx K) oIx := fun {hs H x y d e S Q} l hx hy w q => by
  cases d <;> cases e <;> first | exact False.elim w | skip
  all_goals
    obtain ⟨f, hf, hS⟩ := w
    cases hx
    cases hy
    rename_i e1 h1
    obtain ⟨v, h2, h3⟩ := atI_get h1 hf
    first
      | exact .inl ⟨_, _, _, v, rfl, rfl, SqL.of (hid_some e1).2, h2, q _ _ H hS (Same.refl _) h3⟩
      | exact .inr (.inl ⟨_, _, _, v, rfl, rfl, SqT.of (hid_some e1).2, h2, q _ _ H hS (Same.refl _) h3⟩)
def oIn (neg : Bool) : O2 := fun d e S => match d, seqOf e with
  | .int k, some ds => match intsOf ds with
    | some ns => S (.bool (if neg then !ns.contains k else ns.contains k))
    | none => False
  | _, _ => False
theorem inV_ints (k : Int) (ns : List Int) : inV (.int k) (ns.map V.int) = ns.contains k := by
  unfold inV
  rw [List.any_map]
  induction ns with
  | nil => rfl
  | cons n r ih =>
    rw [List.any_cons, List.contains_cons, ih]
    congr 1
    show eqV (.int n) (.int k) = (k == n)
    unfold eqV
    rw [Bool.eq_iff_iff]
    simp
    exact eq_comm
theorem od_in {K : PySem.W.Frag} {neg : Bool} : OpD (rIn K neg) (oIn neg) := fun {hs H x y d e S Q} l hx hy w q => by
  unfold oIn at w
  split at w
  · rename_i k ds he
    cases hx
    split at w
    · rename_i ns hns
      obtain ⟨a, xs, rfl, hs1, h1⟩ := hy.seqOf (K := K) he
      rw [intsOf_some hns] at h1
      have e3 := ints_inv h1
      subst e3
      refine ⟨a, _, rfl, hs1 hid_same, rfl, ?_, ?_⟩
      · rw [List.all_map]
        exact List.all_eq_true.mpr fun _ _ => rfl
      · rw [inV_ints]
        exact q _ _ H w (Same.refl _) (.bl _)
    · exact w.elim
  · exact w.elim
/-! ### one operand -/
abbrev O1 := PyData → (PyData → Prop) → Prop
def wUn (o : O1) (wa : WE) : WE := fun ε N R => wa ε N fun d N1 => o d fun f => R f N1
def oNeg : O1
  | .int i, S => S (.int (-i))
  | _, _ => False
/-! ### tests -/
def wTest (we : WE) : WB := fun ε N R => we ε N fun d N1 => match d with
  | .bool b => R b N1
  | _ => False
theorem sim_test (h : SimE te we) : SimB (tTest te) (wTest we) := fun r w q => h r w fun v d N1 H1 w1 o1 hd => by
  cases hd <;> first | exact False.elim w1 | exact ⟨_, rfl, q _ N1 H1 w1 o1⟩
theorem sim_tB (h : SimE te we) : SimB (tB te) (wTest we) := fun r w q => h r w fun v d N1 H1 w1 o1 hd => by
  cases hd <;> first | exact False.elim w1 | exact ⟨_, rfl, q _ N1 H1 w1 o1⟩
def wYes : WB := fun _ N R => R true N
theorem sim_yes : SimB tYes wYes := fun r w q => q _ _ _ w r.self
def wNot (w : WB) : WB := fun ε N R => w ε N fun b N1 => R (!b) N1
theorem sim_not (h : SimB t w) : SimB (tNot t) (wNot w) := fun r ww q => h r ww fun b N1 H1 w1 o1 => q _ _ _ w1 o1
def wAnd (w w' : WB) : WB := fun ε N R => w ε N fun b N1 => match b with
  | true => w' ε N1 R
  | false => R false N1
def wOr (w w' : WB) : WB := fun ε N R => w ε N fun b N1 => match b with
  | true => R true N1
  | false => w' ε N1 R
theorem sim_and (h : SimB t w) (k : SimB u w') : SimB (tAnd t u) (wAnd w w') := fun {c bs F σ H ε N R Q} r ww q => h r ww fun b N1 H1 w1 o1 => by
  cases b with
  | true => exact k (r.out o1) w1 fun b2 N2 H2 w2 o2 => q _ _ _ w2 (o1.trans o2)
  | false => exact q _ _ _ w1 o1
theorem sim_or (h : SimB t w) (k : SimB u w') : SimB (tOr t u) (wOr w w') := fun {c bs F σ H ε N R Q} r ww q => h r ww fun b N1 H1 w1 o1 => by
  cases b with
  | false => exact k (r.out o1) w1 fun b2 N2 H2 w2 o2 => q _ _ _ w2 (o1.trans o2)
  | true => exact q _ _ _ w1 o1
def wAndV (wa wb : WE) : WE := fun ε N R => wa ε N fun d N1 => match d with
  | .bool true => wb ε N1 R
  | .bool false => R (.bool false) N1
  | _ => False
def wOrV (wa wb : WE) : WE := fun ε N R => wa ε N fun d N1 => match d with
  | .bool true => R (.bool true) N1
  | .bool false => wb ε N1 R
  | _ => False
def wNotV (wa : WE) : WE := fun ε N R => wa ε N fun d N1 => match d with
  | .bool b => R (.bool !b) N1
  | _ => False
theorem sim_andV (h : SimE ta wa) (k : SimE tb wb) : SimE (tAndV ta tb) (wAndV wa wb) := fun {c bs F σ H ε N R Q} r ww q => h r ww fun v d N1 H1 w1 o1 hd => by
  cases hd <;> first | exact False.elim w1 | skip
  rename_i b
  refine ⟨b, rfl, ?_⟩
  cases b with
  | true => exact iteT (k (r.out o1) w1 fun v2 d2 N2 H2 w2 o2 hd2 => q _ _ _ _ w2 (o1.trans o2) hd2)
  | false => exact iteF (q _ _ _ _ w1 o1 (.bl false))
theorem sim_orV (h : SimE ta wa) (k : SimE tb wb) : SimE (tOrV ta tb) (wOrV wa wb) := fun {c bs F σ H ε N R Q} r ww q => h r ww fun v d N1 H1 w1 o1 hd => by
  cases hd <;> first | exact False.elim w1 | skip
  rename_i b
  refine ⟨b, rfl, ?_⟩
  cases b with
  | false => exact iteF (k (r.out o1) w1 fun v2 d2 N2 H2 w2 o2 hd2 => q _ _ _ _ w2 (o1.trans o2) hd2)
  | true => exact iteT (q _ _ _ _ w1 o1 (.bl true))
theorem sim_notV (h : SimE ta wa) : SimE (tNotV ta) (wNotV wa) := fun {c bs F σ H ε N R Q} r ww q => h r ww fun v d N1 H1 w1 o1 hd => by
  cases hd <;> first | exact False.elim w1 | skip
  exact ⟨_, rfl, q _ _ _ _ w1 o1 (.bl _)⟩
def wIf (w : WB) (wa wb : WE) : WE := fun ε N R => w ε N fun b N1 => match b with
  | true => wa ε N1 R
  | false => wb ε N1 R
theorem sim_if (h : SimB t w) (ha : SimE ta wa) (hb : SimE tb wb) : SimE (tIf t ta tb) (wIf w wa wb) := fun {c bs F σ H ε N R Q} r ww q => h r ww fun b N1 H1 w1 o1 => by
  cases b with
  | true => exact iteT (ha (r.out o1) w1 fun v2 d2 N2 H2 w2 o2 hd2 => q _ _ _ _ w2 (o1.trans o2) hd2)
  | false => exact iteF (hb (r.out o1) w1 fun v2 d2 N2 H2 w2 o2 hd2 => q _ _ _ _ w2 (o1.trans o2) hd2)
def wIfT (w : WB) (wa wb : WT) : WT := fun ε N R => w ε N fun b N1 => match b with
  | true => wa ε N1 R
  | false => wb ε N1 R
theorem Nw.back {c : Base} {bs A : List Addr} {H H1 H2 : Hp} {v : V} {t : T} {N : Nat} (o : Out c H H1 N) (n : Nw bs A H1 H2 v t) : Nw bs A H H2 v t := ⟨n.rep, n.nd, fun a ha => by
  have e := n.new a ha
  by_cases hb : a ∈ c.b
  · exact absurd e (o.box a hb).is
  · cases e2 : H a with
    | none => rfl
    | some x => rw [out_get o hb e2] at e; cases e⟩
theorem sim_ifT {ta tb : TE} {wa wb : WT} (h : SimB t w) (ha : SimT ta wa) (hb : SimT tb wb) : SimT (tIf t ta tb) (wIfT w wa wb) := fun {c bs F σ H ε N R Q} r ww q => h r ww fun b N1 H1 w1 o1 => by
  cases b with
  | true => exact iteT (ha (r.out o1) w1 fun v2 d2 A N2 H2 w2 o2 n => q _ _ _ _ _ w2 (o1.trans o2) (n.back o1))
  | false => exact iteF (hb (r.out o1) w1 fun v2 d2 A N2 H2 w2 o2 n => q _ _ _ _ _ w2 (o1.trans o2) (n.back o1))
/-- a op b op c -/
def wChain (o o' : O2) (wa wb wc : WE) : WE := fun ε N R => wa ε N fun d N1 => wb ε N1 fun e N2 => o d e fun f => match f with
  | .bool true => wc ε N2 fun g N3 => o' e g fun f => R f N3
  | .bool false => R (.bool false) N2
  | _ => False
theorem sim_chain {r r' : R2} {o o' : O2} (ho : OpD r o) (ho' : OpD r' o') (ha : SimE ta wa) (hb : SimE tb wb) (hc : SimE tc wc) : SimE (tChain r r' ta tb tc) (wChain o o' wa wb wc) := fun {c bs F σ H ε N R Q} rl w q => ha rl w fun v d N1 H1 w1 o1 hd => hb (rl.out o1) w1 fun u e N2 H2 w2 o2 he =>
  ho (out_live (o1.trans o2) rl.live) (out_dq o2 rl.bin hd) he w2 fun z f H3 hS e3 hz => by
    have o3 := (o1.trans o2).ext e3
    cases hz <;> first | exact False.elim hS | skip
    rename_i b
    refine ⟨b, rfl, ?_⟩
    cases b with
    | true => exact iteT (hc (rl.out o3) hS fun v4 g N4 H4 w4 o4 hd4 => ho' (out_live (o3.trans o4) rl.live) (out_dq o4 rl.bin (he.mono (same_hid e3))) hd4 w4 fun z5 f5 H5 hS5 e5 hz5 => q _ _ _ _ hS5 ((o3.trans o4).ext e5) hz5)
    | false => exact iteF (q _ _ _ _ hS o3 (.bl false))
/-! ### displays -/
def wLst (wa : WA) : WE := fun ε N R => wa ε N fun ds N1 => ds.length ≤ 100000 ∧ R (.list ds) N1
def wTup (wa : WA) : WE := fun ε N R => wa ε N fun ds N1 => ds.length ≤ 100000 ∧ R (.tuple ds) N1
theorem sim_lst (h : SimA tas was) : SimE (tLst tas) (wLst was) := fun r w q => h r w fun vs ds N1 H1 w1 o1 hd => ⟨by rw [hd.len]; exact Nat.le_trans w1.1 (by decide), fun p np =>
  q _ _ N1 _ w1.2 (o1.ext (Ex.new np)) (.lst (by rw [hid_out ((out_live o1 r.live).out np), upd_same]) (hd.mono (same_hid (Ex.new np))))⟩
theorem sim_tup (h : SimA tas was) : SimE (tTup tas) (wTup was) := fun r w q => h r w fun vs ds N1 H1 w1 o1 hd => ⟨by rw [hd.len]; exact Nat.le_trans w1.1 (by decide), fun p np =>
  q _ _ N1 _ w1.2 (o1.ext (Ex.new np)) (.tup (by rw [hid_out ((out_live o1 r.live).out np), upd_same]) (hd.mono (same_hid (Ex.new np))))⟩
def wNilT : WTs := fun _ N R => R [] N
end
end Cg

set_option Elab.async false
set_option linter.all false
set_option maxRecDepth 100000
set_option maxHeartbeats 1000000
namespace Cg
open PySem PySem.Spec PyProof.Rows L2 Evl
section
variable {ta tb tc te : TE} {wa wb wc we : WE} {t u : TT} {w w' : WB} {tas : TA} {was : WA} {c : Base} {bs F A B : List Addr} {σ : L2.St} {H H1 H2 H' : Hp} {ε : Env} {N N1 N2 : Nat}
/-! ### lists of what is its own -/
theorem mem3 {A B C : List Addr} {a : Addr} (h : a ∈ A ++ B ++ C) : a ∈ B ++ (A ++ C) := by
  rcases List.mem_append.mp h with h | h
  · rcases List.mem_append.mp h with h | h
    · exact List.mem_append_right _ (List.mem_append_left _ h)
    · exact List.mem_append_left _ h
  · exact List.mem_append_right _ (List.mem_append_right _ h)
theorem NwL.cons {v : V} {tt : T} {vs : List V} {ts : List T} (r : Rel c bs F σ H ε N) (k1 : Out c H H1 N1) (n : Nw bs A H H1 v tt) (k : Out c H1 H2 N2) (q : NwL (A ++ bs) B H1 H2 vs ts) : NwL bs (A ++ B) H H2 (v :: vs) (tt :: ts) := by
  have r1 := r.hide k1 n.new n.rep.own
  have nb : ∀ a ∈ A, a ∉ c.b := fun a ha z => r.live a (r.bin a z) (n.new a ha)
  have hAB := side (own_some n.rep.own) q.new
  have hk : ∀ a, H1 a = none → H a = none := fun a e => by
    by_cases hb : a ∈ c.b
    · exact absurd e (k1.box a hb).is
    · cases e2 : H a with
      | none => rfl
      | some o => rw [out_get k1 hb e2] at e; cases e
  have e1 : Same (hid (A ++ bs) H1) (hid (A ++ B ++ bs) H2) := fun a o e => by
    have := vis_step (bs := A ++ bs) k (fun a ha => List.mem_append_right _ (r.bin a ha)) q.new a o e
    obtain ⟨h1, h2⟩ := hid_some this
    rw [hid_out fun z => h1 (mem3 z)]
    exact h2
  have ra : Rep (A ++ B ++ bs) H2 v tt A := Rep.chg r1.nt e1 (fun a ha o e => out_get k (nb a ha) e) n.rep
  have r2 := r1.hide k q.new q.rep.own
  have rb : RepL (A ++ B ++ bs) H2 vs ts B := RepL.perm r2.nt (fun a z => mem3 z) q.rep
  exact ⟨.cons ra rb, nodup_app n.nd q.nd hAB, fun a ha => (List.mem_append.mp ha).elim (n.new a) fun h => hk a (q.new a h)⟩
def wConsT (w : WT) (ws : WTs) : WTs := fun ε N R => w ε N fun t N1 => ws ε N1 fun ts N2 => R (t :: ts) N2
theorem sim_nilT : SimTs tNil wNilT := fun r h q => q _ _ [] _ _ h r.self .nil
theorem sim_consT {wt : WT} {ws : WTs} (h : SimT te wt) (k : SimTs tas ws) : SimTs (tCons te tas) (wConsT wt ws) := fun r w q => h r w fun v t A N1 H1 w1 o1 n => k (r.hide o1 n.new n.rep.own) w1 fun vs ts B N2 H2 w2 o2 n2 =>
  q (v :: vs) (t :: ts) (A ++ B) N2 H2 w2 (o1.trans o2) (NwL.cons r o1 n o2 n2)
/-- a new list of them -/
theorem Nw.lst {vs : List V} {ts : List T} {p : Addr} (r : Rel c bs F σ H ε N) (o : Out c H H1 N1) (n : NwL bs A H H1 vs ts) (np : H1 p = none) : Nw bs (p :: A) H (upd H1 p (.lst vs)) (.ref p) (.lst ts) := by
  have hk : ∀ a, H1 a = none → H a = none := fun a e => by
    by_cases hb : a ∈ c.b
    · exact absurd e (o.box a hb).is
    · cases e2 : H a with
      | none => rfl
      | some x => rw [out_get o hb e2] at e; cases e
  have r1 := r.hide o n.new n.rep.own
  have pA : p ∉ A := fun z => own_some n.rep.own p z np
  refine ⟨.lst upd_same (RepL.chg r1.nt ?_ (fun a ha x e => ?_) n.rep), List.nodup_cons.mpr ⟨pA, n.nd⟩, fun a ha => ?_⟩
  · intro a x e
    obtain ⟨h1, h2⟩ := hid_some e
    have hne : a ≠ p := ne_of_none h2 np
    show hid (p :: (A ++ bs)) (upd H1 p (HO.lst vs)) a = some x
    rw [hid_out (fun z => (List.mem_cons.mp z).elim hne h1), upd_ne hne]
    exact h2
  · rw [upd_ne (ne_of_none e np)]
    exact e
  · rcases List.mem_cons.mp ha with rfl | ha
    · exact hk _ np
    · exact n.new a ha
def wLstT (ws : WTs) : WT := fun ε N R => ws ε N fun ts N1 => ts.length ≤ 100000 ∧ R (.lst ts) N1
theorem sim_lstT {ws : WTs} (h : SimTs tas ws) : SimT (tLst tas) (wLstT ws) := fun r w q => h r w fun vs ts A N1 H1 w1 o1 n => ⟨by rw [n.rep.len]; exact Nat.le_trans w1.1 (by decide), fun p np =>
  q _ _ (p :: A) N1 _ w1.2 (o1.ext (Ex.new np)) (Nw.lst r o1 n np)⟩
def wTupT (ws : WTs) : WT := fun ε N R => ws ε N fun ts N1 => ts.length ≤ 100000 ∧ R (.tup ts) N1
theorem Nw.tup {vs : List V} {ts : List T} {p : Addr} (r : Rel c bs F σ H ε N) (o : Out c H H1 N1) (n : NwL bs A H H1 vs ts) (np : H1 p = none) : Nw bs A H (upd H1 p (.tup vs)) (.ref p) (.tup ts) := by
  have r1 := r.hide o n.new n.rep.own
  refine ⟨.tup upd_same (RepL.chg r1.nt (same_hid (Ex.new np)) (fun a ha x e => ?_) n.rep), n.nd, n.new⟩
  rw [upd_ne (ne_of_none e np)]
  exact e
/-- a new list of shared data -/
theorem Nw.shs {xs : List V} {ds : List PyData} {p : Addr} (o : Out c H H1 N1) (hd : DqAll (hid bs H1) xs ds) (np : H1 p = none) : Nw bs [p] H (upd H1 p (.lst xs)) (.ref p) (.lst (ds.map T.sh)) := by
  have hk : H p = none := by
    by_cases hb : p ∈ c.b
    · exact absurd np (o.box p hb).is
    · cases e2 : H p with
      | none => rfl
      | some x => rw [out_get o hb e2] at np; cases np
  exact ⟨.lst upd_same (RepL.shs (hd.mono (hid_fresh np))), List.nodup_cons.mpr ⟨List.not_mem_nil, List.nodup_nil⟩, fun a ha => by rw [List.mem_singleton.mp ha]; exact hk⟩
def wOpT (o : PyData → PyData → (List PyData → Prop) → Prop) (wa wb : WE) : WT := fun ε N R => wa ε N fun d N1 => wb ε N1 fun e N2 => o d e fun ds => R (.lst (ds.map T.sh)) N2
theorem sim_opT {r : R2} {o : PyData → PyData → (List PyData → Prop) → Prop} (ho : OpN r o) (ha : SimE ta wa) (hb : SimE tb wb) : SimT (tOp r ta tb) (wOpT o wa wb) := fun rl w q => ha rl w fun v d N1 H1 w1 o1 hd => hb (rl.out o1) w1 fun u e N2 H2 w2 o2 he =>
  ho (out_live (o1.trans o2) rl.live) (out_dq o2 rl.bin hd) he w2 fun p xs ds hS np hx => q _ _ [p] N2 _ hS ((o1.trans o2).ext (Ex.new np)) (Nw.shs (o1.trans o2) hx np)
theorem OpN.weak {r r' : R2} {o : PyData → PyData → (List PyData → Prop) → Prop} (h : OpN r o) (k : ∀ x y H Q, r x y H Q → r' x y H Q) : OpN r' o := fun l hx hy w q => k _ _ _ _ (h l hx hy w q)
theorem on_addU : OpN rAddU oCat := on_cat.weak fun _ _ _ _ h => .inr (.inl h)
/-! ### calls of built-ins -/
abbrev OC := List PyData → (PyData → Prop) → Prop
def CbD (r : List V → Hp → VK → Prop) (o : OC) : Prop := ∀ {hs : List Addr} {H : Hp} {xs : List V} {ds : List PyData} {S : PyData → Prop} {Q : VK}, Live hs H → DqAll (hid hs H) xs ds → o ds S → (∀ z f H', S f → Same H H' → Dq (hid hs H') z f → Q z H') → r xs H Q
def wCb (o : OC) (was : WA) : WE := fun ε N R => was ε N fun ds N1 => o ds fun f => R f N1
theorem sim_cb {r : List V → Hp → VK → Prop} {o : OC} (ho : CbD r o) (ha : SimA tas was) : SimE (tCB r tas) (wCb o was) := fun rl w q => ha rl w fun vs ds N1 H1 w1 o1 hd => ho (out_live o1 rl.live) hd w1 fun z f H3 hS e3 hz => q z f N1 H3 hS (o1.ext e3) hz
def CbN (r : List V → Hp → VK → Prop) (o : List PyData → (List PyData → Prop) → Prop) : Prop := ∀ {hs : List Addr} {H : Hp} {xs : List V} {ds : List PyData} {S : List PyData → Prop} {Q : VK}, Live hs H → DqAll (hid hs H) xs ds → o ds S → (∀ p ys es, S es → H p = none → DqAll (hid hs H) ys es → Q (.ref p) (upd H p (.lst ys))) → r xs H Q
theorem CbN.d {r : List V → Hp → VK → Prop} {o : List PyData → (List PyData → Prop) → Prop} (h : CbN r o) : CbD r (fun ds S => o ds fun es => S (.list es)) := fun l hx w q => h l hx w fun p xs ds hS np hd =>
  q _ _ _ hS (Ex.new np) (.lst (by rw [hid_out (l.out np), upd_same]) (hd.mono (same_hid (Ex.new np))))
def wCbT (o : List PyData → (List PyData → Prop) → Prop) (was : WA) : WT := fun ε N R => was ε N fun ds N1 => o ds fun es => R (.lst (es.map T.sh)) N1
theorem sim_cbT {r : List V → Hp → VK → Prop} {o : List PyData → (List PyData → Prop) → Prop} (ho : CbN r o) (ha : SimA tas was) : SimT (tCB r tas) (wCbT o was) := fun rl w q => ha rl w fun vs ds N1 H1 w1 o1 hd => ho (out_live o1 rl.live) hd w1 fun p ys es hS np hx => q _ _ [p] N1 _ hS (o1.ext (Ex.new np)) (Nw.shs o1 hx np)
theorem dq1 {H : Hp} {xs : List V} {d : PyData} (h : DqAll H xs [d]) : ∃ v, xs = [v] ∧ Dq H v d := by
  cases h with
  | cons h t => cases t with
    | nil => exact ⟨_, rfl, h⟩
theorem dq2 {H : Hp} {xs : List V} {d e : PyData} (h : DqAll H xs [d, e]) : ∃ v u, xs = [v, u] ∧ Dq H v d ∧ Dq H u e := by
  cases h with
  | cons h t =>
    obtain ⟨u, rfl, hu⟩ := dq1 t
    exact ⟨_, _, rfl, h, hu⟩
def oLen : OC
  | [d], S => match seqOf d with
    | some ds => S (.int ds.length)
    | none => False
  | _, _ => False
theorem cb_len {K : PySem.W.Frag} : CbD (rLenS K) oLen := fun {hs H xs ds S Q} l hx w q => by
  match ds, w with
  | [d], w =>
    obtain ⟨v, rfl, hv⟩ := dq1 hx
    have w' : (match seqOf d with | some ds => S (.int ds.length) | none => False) := w
    split at w'
    · rename_i es he
      obtain ⟨a, ys, rfl, hs1, h1⟩ := hv.seqOf (K := K) he
      exact ⟨a, ys, rfl, hs1 hid_same, q _ _ H w' (Same.refl _) (by rw [h1.len]; exact .int _)⟩
    · exact w'.elim
def oInt : OC
  | [.int i], S => S (.int i)
  | [.bool b], S => S (.int (if b then 1 else 0))
  | _, _ => False
theorem cb_int : CbD (fun xs H Q => (∃ i, xs = [.int i] ∧ Q (.int i) H) ∨ ∃ k, xs = [.bl k] ∧ Q (.int (if k then 1 else 0)) H) oInt := fun {hs H xs ds S Q} l hx w q => by
  match ds, w with
  | [.int i], w =>
    obtain ⟨v, rfl, hv⟩ := dq1 hx
    cases hv
    exact .inl ⟨_, rfl, q _ _ H w (Same.refl _) (.int _)⟩
  | [.bool b], w =>
    obtain ⟨v, rfl, hv⟩ := dq1 hx
    cases hv
    exact .inr ⟨_, rfl, q _ _ H w (Same.refl _) (.int _)⟩
def oAbs : OC
  | [.int i], S => S (.int (if i < 0 then -i else i))
  | _, _ => False
def oMin2 : OC
  | [.int i, .int j], S => S (.int (if j < i then j else i))
  | _, _ => False
def oMax2 : OC
  | [.int i, .int j], S => S (.int (if j > i then j else i))
  | _, _ => False
theorem cb_min2 : CbD (fun xs H Q => ∃ i j, xs = [.int i, .int j] ∧ Q (.int (if j < i then j else i)) H) oMin2 := fun {hs H xs ds S Q} l hx w q => by
  match ds, w with
  | [.int i, .int j], w =>
    obtain ⟨v, u, rfl, hv, hu⟩ := dq2 hx
    cases hv
    cases hu
    exact ⟨_, _, rfl, q _ _ H w (Same.refl _) (.int _)⟩
def boolsOf : List PyData → Option (List Bool)
  | [] => some []
  | .bool i :: r => (boolsOf r).map (i :: ·)
  | _ :: _ => none
theorem boolsOf_map : ∀ ns : List Bool, boolsOf (ns.map PyData.bool) = some ns
  | [] => rfl
  | n :: r => by
    show (boolsOf (r.map PyData.bool)).map (n :: ·) = _
    rw [boolsOf_map r]
    rfl
theorem bools_inv {H : Hp} : ∀ {xs : List V} {ds : List PyData} {ns : List Bool}, DqAll H xs ds → boolsOf ds = some ns → xs = ns.map V.bl
  | _, _, ns, .nil, e => by
    have e : [] = ns := Option.some.inj e
    rw [← e]
    rfl
  | _, _, ns, .cons h t, e => by
    cases h <;> first | cases e | skip
    rename_i vs ds b
    have h' : (boolsOf ds).map (b :: ·) = some ns := e
    cases e2 : boolsOf ds with
    | none => rw [e2] at h'; cases h'
    | some ms =>
      rw [e2] at h'
      have e3 : b :: ms = ns := Option.some.inj h'
      rw [← e3, bools_inv t e2]
      rfl
def oAll : OC
  | [.list ds], S => match boolsOf ds with
    | some bs => S (.bool (bs.all id))
    | none => False
  | _, _ => False
theorem cb_all {K : PySem.W.Frag} : CbD (rAll K) oAll := fun {hs H xs ds S Q} l hx w q => by
  match ds, w with
  | [.list es], w =>
    obtain ⟨v, rfl, hv⟩ := dq1 hx
    have w' : (match boolsOf es with | some bs => S (.bool (bs.all id)) | none => False) := w
    split at w'
    · rename_i ns he
      obtain ⟨a, ys, rfl, e1, h1⟩ := hv.list_inv
      have e2 := bools_inv h1 he
      subst e2
      exact ⟨a, ns, rfl, SqL.of (hid_some e1).2, q _ _ H w' (Same.refl _) (.bl _)⟩
    · exact w'.elim
def oSum : OC
  | [.list ds], S => match intsOf ds with
    | some ns => S (.int ns.sum)
    | none => False
  | _, _ => False
theorem ints_of {H : Hp} {xs : List V} {ds : List PyData} {ns : List Int} (h : DqAll H xs ds) (e : intsOf ds = some ns) : xs = ns.map V.int := by
  rw [intsOf_some e] at h
  exact ints_inv h
def oList : List PyData → (List PyData → Prop) → Prop
  | [d], S => match seqOf d with
    | some ds => S ds
    | none => False
  | _, _ => False
theorem cn_list {K : PySem.W.Frag} : CbN (rListS K) oList := fun {hs H xs ds S Q} l hx w q => by
  match ds, w with
  | [d], w =>
    obtain ⟨v, rfl, hv⟩ := dq1 hx
    have w' : (match seqOf d with | some ds => S ds | none => False) := w
    split at w'
    · rename_i es he
      obtain ⟨a, ys, rfl, hs1, h1⟩ := hv.seqOf (K := K) he
      exact ⟨a, ys, rfl, hs1 hid_same, fun p np => q p ys es w' np h1⟩
    · exact w'.elim
def oListD : OC := fun ds S => oList ds fun es => S (.list es)
def oTuple : OC
  | [d], S => match seqOf d with
    | some ds => S (.tuple ds)
    | none => False
  | _, _ => False
def oRepr : OC
  | [d], S => (okD d = true ∧ d.depth ≤ 40 ∧ wz d ≤ 1000000) ∧ S (.str d.shown)
  | _, _ => False
/-! isinstance -/
def wIs (f : PyData → Bool) (wa : WE) : WE := fun ε N R => wa ε N fun d N1 => notI d = true ∧ R (.bool (f d)) N1
theorem sim_isi {K : PySem.W.Frag} {Ty : String} {f : PyData → Bool} (hk : ∀ d, kitB (tyN d) Ty = some (f d)) (ha : SimE ta wa) : SimE (tCB (rIsi K) (tCons ta (tCons (tC (.ty Ty)) tNil))) (wIs f wa) := fun rl w q => ha rl w fun v d N1 H1 w1 o1 hd =>
  ⟨v, .ty Ty, .type (tyN d), .type Ty, f d, rfl, .ty Ty, (dq_vis hd).ty w1.1, kit_ty (hk d), q _ _ N1 H1 w1.2 o1 (.bl _)⟩
/-! list(range(n)) -/
def wRgL (wa : WE) : WT := fun ε N R => wa ε N fun d N1 => match d with
  | .int n => (0 ≤ n ∧ n ≤ 100000) ∧ R (.lst ((List.range n.toNat).map fun (k : Nat) => T.sh (.int (k : Int)))) N1
  | _ => False
/-! slices -/
abbrev WO := Env → Nat → (Option Int → Nat → Prop) → Prop
def SimO (to : TO) (wo : WO) : Prop := ∀ {c : Base} {bs F : List Addr} {σ : L2.St} {H : Hp} {ε : Env} {N : Nat} {R : Option Int → Nat → Prop} {Q : Option Int → Hp → Prop}, Rel c bs F σ H ε N → wo ε N R → (∀ x N' H', R x N' → Out c H H' N' → Q x H') → to σ H Q
def wNoPart : WO := fun _ N R => R none N
def wPart (we : WE) : WO := fun ε N R => we ε N fun d N1 => match d with
  | .int i => R (some i) N1
  | _ => False
theorem sim_noPart : SimO tNoPart wNoPart := fun r w q => q _ _ _ w r.self
theorem sim_part (h : SimE te we) : SimO (tPart te) (wPart we) := fun r w q => h r w fun v d N1 H1 w1 o1 hd => by
  cases hd <;> first | exact False.elim w1 | exact ⟨_, rfl, q _ N1 H1 w1 o1⟩
def wSl (we : WE) (wl wh : WO) : WE := fun ε N R => we ε N fun d N1 => wl ε N1 fun lo N2 => wh ε N2 fun hi N3 => match d with
  | .list a => R (.list (cutG a lo hi)) N3
  | _ => False
def wSlT (we : WE) (wl wh : WO) : WT := fun ε N R => we ε N fun d N1 => wl ε N1 fun lo N2 => wh ε N2 fun hi N3 => match d with
  | .list a => R (.lst ((cutG a lo hi).map T.sh)) N3
  | _ => False
theorem data_shs (ds : List PyData) : (T.lst (ds.map T.sh)).data = .list ds := by
  show PyData.list (T.datas (ds.map T.sh)) = _
  rw [datas_sh]
theorem sim_sl {K : PySem.W.Frag} {tl th : TO} {wl wh : WO} (h : SimE te we) (hl : SimO tl wl) (hh : SimO th wh) : SimE (tSl (rSlL K) te tl th) (wSl we wl wh) := fun {c bs F σ H ε N R Q} r w q => h r w fun v d N1 H1 w1 o1 hd => hl (r.out o1) w1 fun lo N2 H2 w2 o2 => hh (r.out (o1.trans o2)) w2 fun hi N3 H3 w3 o3 => by
  have o := (o1.trans o2).trans o3
  have hd3 := out_dq (o2.trans o3) r.bin hd
  cases hd3 <;> first | exact False.elim w3 | skip
  rename_i a xs ds e1 h1
  refine ⟨a, xs, rfl, SqL.of (hid_some e1).2, fun p np => ?_⟩
  have n : Nw bs [p] H _ (.ref p) (.lst ((cutG ds lo hi).map T.sh)) := Nw.shs o (h1.cut lo hi) np
  have o' := o.ext (Ex.new (o := .lst (cutV xs lo hi)) np)
  have := n.data r.live (out_notup o' r.live r.nt)
  rw [data_shs] at this
  exact q _ _ N3 _ w3 o' this
/-- xs[::-1] -/
def wRevT (we : WE) : WT := fun ε N R => we ε N fun d N1 => match d with
  | .list a => R (.lst (a.reverse.map T.sh)) N1
  | _ => False
theorem sim_rgL (h : SimE te we) : SimT (tLstRg (tRg1 te)) (wRgL we) := fun {c bs F σ H ε N R Q} r w q => h r w fun v d N1 H1 w1 o1 hd => by
  cases hd <;> first | exact False.elim w1 | skip
  rename_i n
  obtain ⟨⟨h1, h2⟩, w2⟩ := w1
  refine ⟨n, rfl, RgOk.of_le (by omega) (by omega) (by omega) h1, fun p np => ?_⟩
  have hx : ∀ m : Nat, DqAll (hid bs H1) ((List.range m).map fun i => V.int ((0 : Int) + (i : Nat))) ((List.range m).map fun (i : Nat) => PyData.int (i : Int)) := fun m => by
    induction m with
    | zero => exact .nil
    | succ m ih =>
      rw [List.range_succ, List.map_append, List.map_append]
      refine ih.append (.cons ?_ .nil)
      show Dq (hid bs H1) (V.int ((0 : Int) + ((m : Nat) : Int))) (PyData.int ((m : Nat) : Int))
      rw [Int.zero_add]
      exact .int _
  have h3 := hx (n - 0).toNat
  have e : (n - 0).toNat = n.toNat := by omega
  have n1 : Nw bs [p] H _ (.ref p) (.lst (((List.range (n - 0).toNat).map fun (i : Nat) => PyData.int (i : Int)).map T.sh)) := Nw.shs o1 h3 np
  rw [e, List.map_map] at n1
  exact q _ _ [p] N1 _ w2 (o1.ext (Ex.new np)) (by rw [show rgV 0 n = (List.range (n - 0).toNat).map (fun i => V.int ((0 : Int) + (i : Nat))) from rfl, e]; exact n1)
/-! methods that tell something -/
def wBmL (o : PyData → List PyData → (PyData → Prop) → Prop) (wa : WE) (was : WA) : WE := fun ε N R => wa ε N fun d N1 => isList d = true ∧ was ε N1 fun ds N2 => o d ds fun f => R f N2
/-! ### a reading that is one of two -/
end
end Cg

set_option Elab.async false
set_option linter.all false
set_option maxRecDepth 100000
set_option maxHeartbeats 1000000
namespace Cg
open PySem PySem.Spec PyProof.Rows L2 Evl
/-! ### what is walked -/
structure Yl (hs : List Addr) (J : It) (ds : List PyData) (H : Hp) : Prop where
  go : ∀ k H' gs, k < ds.length → Same (hid hs H) (hid gs H') → J.go k H'
  stop : ∀ H' gs, Same (hid hs H) (hid gs H') → J.stop ds.length H'
  yld : ∀ k x H' H'' gs, k < ds.length → Same (hid hs H) (hid gs H') → Live gs H' → J.yld k H' x H'' → Same H' H'' ∧ ∃ d, ds[k]? = some d ∧ Dq (hid gs H'') x d
abbrev WI := Env → Nat → (List PyData → Nat → Prop) → Prop
def SimI (ti : TI) (wi : WI) : Prop := ∀ {c : Base} {bs F : List Addr} {σ : L2.St} {H : Hp} {ε : Env} {N : Nat} {R : List PyData → Nat → Prop} {Q : It → Hp → Prop}, Rel c bs F σ H ε N → wi ε N R → (∀ J ds N' H', R ds N' → Out c H H' N' → Yl bs J ds H' → Q J H') → ti σ H Q
section
variable {ta tb tc te : TE} {wa wb wc we : WE} {t u : TT} {w w' : WB} {tas : TA} {was : WA} {c : Base} {bs F A B hs : List Addr} {σ : L2.St} {H H1 H2 H' : Hp} {ε : Env} {N N1 N2 : Nat}
theorem yl_lt {xs : List V} {ds : List PyData} {k : Nat} (h : DqAll H xs ds) (hk : k < ds.length) : ∃ x, xs[k]? = some x := ⟨_, List.getElem?_eq_getElem (by rw [h.len]; exact hk)⟩
theorem yl_list {K : PySem.W.Frag} {a : Addr} {xs : List V} {ds : List PyData} (e : hid hs H a = some (.lst xs)) (h : DqAll (hid hs H) xs ds) : Yl hs (Itl K a) ds H := by
  have at' : ∀ H' gs, Same (hid hs H) (hid gs H') → SqL K H' a xs := fun H' gs k => SqL.of (hid_some (k _ _ e)).2
  refine ⟨fun k H' gs hk kp => ?_, fun H' gs kp => ⟨xs, at' H' gs kp, by rw [h.len]; exact Nat.le_refl _⟩, fun k x H' H'' gs hk kp _ y => ?_⟩
  · obtain ⟨x, hx⟩ := yl_lt h hk
    exact ⟨xs, x, at' H' gs kp, hx⟩
  · obtain ⟨rfl, hx⟩ := y
    obtain ⟨d, h1, h2⟩ := h.get (hx xs (at' _ gs kp))
    exact ⟨Same.refl _, d, h1, h2.mono kp⟩
theorem yl_tup {K : PySem.W.Frag} {a : Addr} {xs : List V} {ds : List PyData} (e : hid hs H a = some (.tup xs)) (h : DqAll (hid hs H) xs ds) : Yl hs (Itt K a) ds H := by
  have at' : ∀ H' gs, Same (hid hs H) (hid gs H') → SqT K H' a xs := fun H' gs k => SqT.of (hid_some (k _ _ e)).2
  refine ⟨fun k H' gs hk kp => ?_, fun H' gs kp => ⟨xs, at' H' gs kp, by rw [h.len]; exact Nat.le_refl _⟩, fun k x H' H'' gs hk kp _ y => ?_⟩
  · obtain ⟨x, hx⟩ := yl_lt h hk
    exact ⟨xs, x, at' H' gs kp, hx⟩
  · obtain ⟨rfl, hx⟩ := y
    obtain ⟨d, h1, h2⟩ := h.get (hx xs (at' _ gs kp))
    exact ⟨Same.refl _, d, h1, h2.mono kp⟩
/-- for x in a list or a tuple -/
def iSeq (K : PySem.W.Frag) (tl : TE) : TI := fun σ H R => tl σ H fun x H1 => ∃ a, x = .ref a ∧ (((∃ xs, SqL K H1 a xs) ∧ R (Itl K a) H1) ∨ ((∃ xs, SqT K H1 a xs) ∧ R (Itt K a) H1))
theorem pi_seq {X : Cx} (K : PySem.W.Frag) {tg l : Expr} {tl : TE} (hl : PE X l tl) (hK : X.K = K := by rfl) : PI X tg l (iSeq K tl) := by
  subst hK
  refine ⟨fun pins s σ H R I h => ?_⟩
  refine thn (hl.run pins s σ H _ I h) fun v s1 ⟨x, H1, I1, r1, q1⟩ => ?_
  obtain ⟨a, e, ⟨⟨xs, hq⟩, q⟩ | ⟨⟨xs, hq⟩, q⟩⟩ := q1
  · subst e
    cases r1
    obtain ⟨its, rv, p, hz⟩ := I1.list hq
    refine wpAny_pyIter_list p.isList ?_
    refine ⟨s1.heap.objs.size, [s1.heap.objs.size], _, _, H1, rfl, I1.kept (t' := s1.toks) fun b o e => Heap.get?_push_of_some _ e, turn_list a _, ⟨_, Heap.get?_push_size _ rfl, rfl, rfl⟩, fun b hb => ?_, q⟩
    have e : b = s1.heap.objs.size := by simpa using hb
    subst e
    exact I1.fpOk (Nat.le_refl _) (I1.hok.fresh (Nat.le_refl _))
  · subst e
    cases r1
    obtain ⟨its, rv, p, hz⟩ := I1.tuple hq
    refine wpAny_pyIter_tuple (show s1.heap.IsTuple a its.toArray from p) ?_
    refine ⟨s1.heap.objs.size, [s1.heap.objs.size], _, _, H1, rfl, I1.kept (t' := s1.toks) fun b o e => Heap.get?_push_of_some _ e, turn_tuple a _, ⟨_, Heap.get?_push_size _ rfl, rfl, rfl⟩, fun b hb => ?_, q⟩
    have e : b = s1.heap.objs.size := by simpa using hb
    subst e
    exact I1.fpOk (Nat.le_refl _) (I1.hok.fresh (Nat.le_refl _))
def wIt (we : WE) : WI := fun ε N R => we ε N fun d N1 => match seqOf d with
  | some ds => R ds N1
  | none => False
theorem sim_it {K : PySem.W.Frag} (h : SimE te we) : SimI (iSeq K te) (wIt we) := fun {c bs F σ H ε N R Q} r w q => h r w fun v d N1 H1 w1 o1 hd => by
  cases hd <;> first | exact False.elim w1 | skip
  · rename_i a xs ds e1 h1
    exact ⟨a, rfl, .inl ⟨⟨xs, SqL.of (hid_some e1).2⟩, q _ _ N1 H1 w1 o1 (yl_list e1 h1)⟩⟩
  · rename_i a xs ds e1 h1
    exact ⟨a, rfl, .inr ⟨⟨xs, SqT.of (hid_some e1).2⟩, q _ _ N1 H1 w1 o1 (yl_tup e1 h1)⟩⟩
def rngD (lo : Int) (n : Nat) : List PyData := (List.range n).map fun (k : Nat) => PyData.int (lo + (k : Int))
theorem rngD_len (lo : Int) (n : Nat) : (rngD lo n).length = n := by unfold rngD; rw [List.length_map, List.length_range]
theorem rngD_at {lo : Int} {n k : Nat} (h : k < n) : (rngD lo n)[k]? = some (.int (lo + (k : Int))) := by
  unfold rngD
  rw [List.getElem?_map, List.getElem?_range h]
  rfl
theorem rng_get {lo : Int} {n k : Nat} {d : PyData} (h : (rngD lo n)[k]? = some d) : k < n ∧ d = .int (lo + (k : Int)) := by
  have hk : k < n := by
    have := (List.getElem?_eq_some_iff.mp h).1
    rw [rngD_len] at this
    exact this
  rw [rngD_at hk] at h
  exact ⟨hk, (Option.some.inj h).symm⟩
theorem yl_rng (lo : Int) (n : Nat) : Yl hs (Itr lo n) (rngD lo n) H := by
  refine ⟨fun k H' _ hk _ => by rw [rngD_len] at hk; exact hk, fun H' _ _ => by rw [rngD_len]; exact Nat.le_refl _, fun k x H' H'' _ hk _ _ y => ?_⟩
  rw [rngD_len] at hk
  obtain ⟨rfl, rfl⟩ := y
  exact ⟨Same.refl _, _, rngD_at hk, .int _⟩
theorem sim_rng1 (h : SimE te we) : SimI (iRng1 (tCons te tNil)) (fun ε N R => we ε N fun d N1 => match d with
    | .int n => (-1000000 ≤ n ∧ n ≤ 1000000) ∧ R (rngD 0 n.toNat) N1
    | _ => False) := fun {c bs F σ H ε N R Q} r w q => h r w fun v d N1 H1 w1 o1 hd => by
  cases hd <;> first | exact False.elim w1 | skip
  obtain ⟨⟨h1, h2⟩, w2⟩ := w1
  exact ⟨_, rfl, by omega, by omega, q _ _ N1 H1 w2 o1 (yl_rng 0 _)⟩
def wRng1 (we : WE) : WI := fun ε N R => we ε N fun d N1 => match d with
  | .int n => (-1000000 ≤ n ∧ n ≤ 1000000) ∧ R (rngD 0 n.toNat) N1
  | _ => False
theorem sim_r1 (h : SimE te we) : SimI (iRng1 (tCons te tNil)) (wRng1 we) := sim_rng1 h
/-- enumerate(xs) -/
def enumD (ds : List PyData) : List PyData := ds.mapIdx fun k d => .tuple [.int (k : Nat), d]
theorem enumD_len (ds : List PyData) : (enumD ds).length = ds.length := List.length_mapIdx
theorem enumD_at {ds : List PyData} {k : Nat} {d : PyData} (h : ds[k]? = some d) : (enumD ds)[k]? = some (.tuple [.int (k : Nat), d]) := by
  unfold enumD
  rw [List.getElem?_mapIdx, h]
  rfl
def wEnum (we : WE) : WI := fun ε N R => we ε N fun d N1 => match seqOf d with
  | some ds => R (enumD ds) N1
  | none => False
theorem yl_enum {K : PySem.W.Frag} {kd : Bool} {a : Addr} {xs : List V} {ds : List PyData} (hq : ∀ H' gs, Same (hid hs H) (hid gs H') → SqK kd K H' a xs) (h : DqAll (hid hs H) xs ds) : Yl hs (ItE K kd a xs) (enumD ds) H := by
  have hl := h.len
  refine ⟨fun k H' gs hk kp => ⟨hq H' gs kp, by rw [enumD_len] at hk; rw [hl]; exact hk⟩, fun H' gs kp => ⟨hq H' gs kp, by rw [enumD_len, hl]; exact Nat.le_refl _⟩, fun k x H' H'' gs hk kp lv y => ?_⟩
  obtain ⟨T, rfl, hT, rfl⟩ := y
  rw [enumD_len] at hk
  have hx : xs[k]? = some (xs.getD k .non) := by rw [List.getD_eq_getElem?_getD, List.getElem?_eq_getElem (by rw [hl]; exact hk)]; rfl
  obtain ⟨d, h1, h2⟩ := h.get hx
  refine ⟨Ex.new hT, _, enumD_at h1, .tup (by rw [hid_out (lv.out hT), upd_same]) (.cons (.int _) (.cons ?_ .nil))⟩
  exact (h2.mono kp).mono (same_hid (Ex.new hT))
theorem sim_enum {K : PySem.W.Frag} (h : SimE te we) : SimI (iEnumK K (tCons te tNil)) (wEnum we) := fun {c bs F σ H ε N R Q} r w q => h r w fun v d N1 H1 w1 o1 hd => by
  cases hd <;> first | exact False.elim w1 | skip
  · rename_i a xs ds e1 h1
    exact ⟨true, a, xs, rfl, SqL.of (hid_some e1).2, q _ _ N1 H1 w1 o1 (yl_enum (fun H' gs kp => SqL.of (hid_some (kp _ _ e1)).2) h1)⟩
  · rename_i a xs ds e1 h1
    exact ⟨false, a, xs, rfl, SqT.of (hid_some e1).2, q _ _ N1 H1 w1 o1 (yl_enum (fun H' gs kp => SqT.of (hid_some (kp _ _ e1)).2) h1)⟩
/-- zip of two lists, of two tuples -/
def zipD (ds es : List PyData) : List PyData := (ds.zip es).map fun p => .tuple [p.1, p.2]
theorem zipD_len (ds es : List PyData) : (zipD ds es).length = min ds.length es.length := by unfold zipD; rw [List.length_map, List.length_zip]
def sameKind : PyData → PyData → Option (List PyData × List PyData)
  | .list a, .list b => some (a, b)
  | .tuple a, .tuple b => some (a, b)
  | _, _ => none
def wZip (wa wb : WE) : WI := fun ε N R => wa ε N fun d N1 => wb ε N1 fun e N2 => match sameKind d e with
  | some (ds, es) => R (zipD ds es) N2
  | none => False
theorem yl_zip {K : PySem.W.Frag} {J : It} {xs ys : List V} {ds es : List PyData} (h : DqAll (hid hs H) xs ds) (h' : DqAll (hid hs H) ys es)
    (hgo : ∀ k H' gs x y, xs[k]? = some x → ys[k]? = some y → Same (hid hs H) (hid gs H') → J.go k H') (hst : ∀ k H' gs, (xs.length ≤ k ∨ ys.length ≤ k) → Same (hid hs H) (hid gs H') → J.stop k H')
    (hy : ∀ k H' z H'' gs, Same (hid hs H) (hid gs H') → J.yld k H' z H'' → ∃ T x y, z = .ref T ∧ H' T = none ∧ H'' = upd H' T (.tup [x, y]) ∧ xs[k]? = some x ∧ ys[k]? = some y) : Yl hs J (zipD ds es) H := by
  have hl := h.len
  have hl' := h'.len
  refine ⟨fun k H' gs hk kp => ?_, fun H' gs kp => ?_, fun k x H' H'' gs hk kp lv y => ?_⟩
  · rw [zipD_len] at hk
    exact hgo k H' gs _ _ (List.getElem?_eq_getElem (by omega)) (List.getElem?_eq_getElem (by omega)) kp
  · rw [zipD_len]
    exact hst _ H' gs (by omega) kp
  · obtain ⟨T, x1, y1, rfl, hT, rfl, gx, gy⟩ := hy k H' x H'' gs kp y
    obtain ⟨d, h1, h2⟩ := h.get gx
    obtain ⟨e, h3, h4⟩ := h'.get gy
    refine ⟨Ex.new hT, .tuple [d, e], ?_, .tup (by rw [hid_out (lv.out hT), upd_same]) (.cons ((h2.mono kp).mono (same_hid (Ex.new hT))) (.cons ((h4.mono kp).mono (same_hid (Ex.new hT))) .nil))⟩
    unfold zipD
    rw [List.getElem?_map, (List.getElem?_zip_eq_some (z := (d, e))).mpr ⟨h1, h3⟩]
    rfl
theorem sim_zip {K : PySem.W.Frag} (ha : SimE ta wa) (hb : SimE tb wb) : SimI (RZ.iZipA K (tCons ta (tCons tb tNil))) (wZip wa wb) := fun {c bs F σ H ε N R Q} r w q => ha r w fun v d N1 H1 w1 o1 hd => hb (r.out o1) w1 fun u e N2 H2 w2 o2 he => by
  have hd2 := out_dq o2 r.bin hd
  cases hd2 <;> first | (cases he <;> exact False.elim w2) | skip
  · cases he <;> first | exact False.elim w2 | skip
    rename_i a xs ds e1 h1 a2 ys es e2 h2
    refine ⟨a, a2, xs, ys, rfl, .inl ⟨SqL.of (hid_some e1).2, SqL.of (hid_some e2).2, q _ _ N2 H2 w2 (o1.trans o2) (yl_zip (K := K) h1 h2 (fun k H' gs x y gx gy kp => ?_) (fun k H' gs hh kp => ?_) fun k H' z H'' gs kp y => ?_)⟩⟩
    · exact ⟨xs, ys, x, y, SqL.of (hid_some (kp _ _ e1)).2, SqL.of (hid_some (kp _ _ e2)).2, gx, gy⟩
    · exact ⟨xs, ys, SqL.of (hid_some (kp _ _ e1)).2, SqL.of (hid_some (kp _ _ e2)).2, hh⟩
    · obtain ⟨T, x, y, q1, q2, q3, q4, q5⟩ := y
      exact ⟨T, x, y, q1, q2, q3, q4 xs (SqL.of (hid_some (kp _ _ e1)).2), q5 ys (SqL.of (hid_some (kp _ _ e2)).2)⟩
  · cases he <;> first | exact False.elim w2 | skip
    rename_i a xs ds e1 h1 a2 ys es e2 h2
    refine ⟨a, a2, xs, ys, rfl, .inr ⟨SqT.of (hid_some e1).2, SqT.of (hid_some e2).2, q _ _ N2 H2 w2 (o1.trans o2) (yl_zip (K := K) h1 h2 (fun k H' gs x y gx gy kp => ?_) (fun k H' gs hh kp => ?_) fun k H' z H'' gs kp y => ?_)⟩⟩
    · exact ⟨xs, ys, x, y, SqT.of (hid_some (kp _ _ e1)).2, SqT.of (hid_some (kp _ _ e2)).2, gx, gy⟩
    · exact ⟨xs, ys, SqT.of (hid_some (kp _ _ e1)).2, SqT.of (hid_some (kp _ _ e2)).2, hh⟩
    · obtain ⟨T, x, y, q1, q2, q3, q4, q5⟩ := y
      exact ⟨T, x, y, q1, q2, q3, q4 xs (SqT.of (hid_some (kp _ _ e1)).2), q5 ys (SqT.of (hid_some (kp _ _ e2)).2)⟩
theorem wipe_get (σ : L2.St) (i : Nat) : ∀ vs : List Nat, (L2.wipe σ vs)[i]? = if i ∈ vs then σ[i]?.map (fun _ => none) else σ[i]?
  | [] => by simp [L2.wipe]
  | v :: vs => by
    show ((L2.wipe σ vs).set v none)[i]? = _
    rw [List.getElem?_set]
    have ih := wipe_get σ i vs
    by_cases h : v = i
    · subst h
      rw [if_pos rfl, if_pos (List.mem_cons_self ..), wipe_length]
      cases e : σ[v]? with
      | none => rw [if_neg (by have := List.getElem?_eq_none_iff.mp e; omega)]; rfl
      | some x => rw [if_pos (List.getElem?_eq_some_iff.mp e).1]; rfl
    · rw [if_neg h, ih]
      by_cases h2 : i ∈ vs
      · rw [if_pos h2, if_pos (List.mem_cons_of_mem _ h2)]
      · rw [if_neg h2, if_neg (fun z => (List.mem_cons.mp z).elim (fun e => h e.symm) h2)]
theorem wipe_set {σ : L2.St} {j : Nat} {x : Option V} {vs : List Nat} (h : j ∈ vs) : L2.wipe (σ.set j x) vs = L2.wipe σ vs := by
  apply List.ext_getElem?
  intro i
  rw [wipe_get, wipe_get]
  by_cases hi : i ∈ vs
  · rw [if_pos hi, if_pos hi]
    rw [List.getElem?_set]
    by_cases h2 : j = i
    · subst h2
      rw [if_pos rfl]
      cases e : σ[j]? with
      | none => rw [if_neg (by have := List.getElem?_eq_none_iff.mp e; omega)]
      | some y => rw [if_pos (List.getElem?_eq_some_iff.mp e).1]; rfl
    · rw [if_neg h2]
  · rw [if_neg hi, if_neg hi, List.getElem?_set, if_neg (fun (z : j = i) => hi (z ▸ h))]
theorem wipe_wipe (σ : L2.St) (vs : List Nat) : L2.wipe (L2.wipe σ vs) vs = L2.wipe σ vs := by
  apply List.ext_getElem?
  intro i
  rw [wipe_get, wipe_get]
  by_cases hi : i ∈ vs
  · rw [if_pos hi, if_pos hi]
    cases σ[i]? <;> rfl
  · rw [if_neg hi, if_neg hi]
/-! ### targets, given what is shared; their names are among vs -/
abbrev WG := PyData → Env → (Env → Prop) → Prop
abbrev WGs := List PyData → Env → (Env → Prop) → Prop
def SimG (vs : List Nat) (g : TG) (wg : WG) : Prop := ∀ {c : Base} {bs F : List Addr} {σ : L2.St} {H : Hp} {ε : Env} {N : Nat} {v : V} {d : PyData} {R : Env → Prop} {Q : L2.St → Hp → Prop}, Rel c bs F σ H ε N → Dq (hid bs H) v d → wg d ε R → (∀ F' σ' ε', Rel c bs F' σ' H ε' N → L2.wipe σ' vs = L2.wipe σ vs → R ε' → Q σ' H) → g v σ H Q
def SimGs (vs : List Nat) (g : TGs) (wg : WGs) : Prop := ∀ {c : Base} {bs F : List Addr} {σ : L2.St} {H : Hp} {ε : Env} {N : Nat} {us : List V} {ds : List PyData} {R : Env → Prop} {Q : L2.St → Hp → Prop}, Rel c bs F σ H ε N → DqAll (hid bs H) us ds → wg ds ε R → (∀ F' σ' ε', Rel c bs F' σ' H ε' N → L2.wipe σ' vs = L2.wipe σ vs → R ε' → Q σ' H) → g us σ H Q
def wName (i : Nat) : WG := fun d ε R => R (ε.set i (.is (.sh d)))
def wGNil : WGs := fun ds ε R => ds = [] ∧ R ε
def wGCons (g : WG) (gs : WGs) : WGs := fun ds ε R => match ds with
  | d :: r => g d ε fun ε' => gs r ε' R
  | [] => False
def wGTup (n : Nat) (gs : WGs) : WG := fun d ε R => match d with
  | .tuple ds => ds.length = n ∧ gs ds ε R
  | _ => False
variable {vs : List Nat}
theorem sim_name {i : Nat} (hi : i ∈ vs) : SimG vs (gName i) (wName i) := fun {c bs F σ H ε N v d R Q} r hd w q => by
  obtain ⟨F', r'⟩ := r.set (i := i) r.self (Nw.sh (H := H) hd)
  exact q F' _ _ r' (wipe_set hi) w
theorem sim_gnil : SimGs vs gNil wGNil := fun {c bs F σ H ε N us ds R Q} r hd w q => by
  obtain ⟨rfl, w⟩ := w
  cases hd
  exact ⟨rfl, q _ _ _ r rfl w⟩
theorem sim_gcons {g : TG} {gs : TGs} {wg : WG} {wgs : WGs} (h : SimG vs g wg) (k : SimGs vs gs wgs) : SimGs vs (gCons g gs) (wGCons wg wgs) := fun {c bs F σ H ε N us ds R Q} r hd w q => by
  cases hd with
  | nil => exact w.elim
  | cons h1 t1 => exact ⟨_, _, rfl, h r h1 w fun F' σ' ε' r' e' w' => k r' t1 w' fun F2 σ2 ε2 r2 e2 w2 => q F2 σ2 ε2 r2 (e2.trans e') w2⟩
theorem sim_gtup {K : PySem.W.Frag} {n : Nat} {gs : TGs} {wgs : WGs} (k : SimGs vs gs wgs) : SimG vs (gTup K n gs) (wGTup n wgs) := fun {c bs F σ H ε N v d R Q} r hd w q => by
  cases hd <;> first | exact False.elim w | skip
  rename_i a xs ds e1 h1
  exact ⟨a, xs, rfl, SqT.of (hid_some e1).2, by rw [h1.len]; exact w.1, k r h1 w.2 q⟩
/-! ### comprehensions -/
def wipeE (ε : Env) : List Nat → Env
  | [] => ε
  | v :: vs => (wipeE ε vs).set v .no
theorem set_no (r : Rel c bs F σ H ε N) (i : Nat) (x : Option V) : ∃ F', Rel c bs F' (σ.set i x) H (ε.set i .no) N := by
  cases hl : ε[i]? with
  | none =>
    have hs : σ[i]? = none := by
      rw [List.getElem?_eq_none_iff] at hl ⊢
      rw [r.env.len]
      exact hl
    rw [set_beyond hl, set_beyond hs]
    exact ⟨F, r⟩
  | some l =>
    obtain ⟨y, A0, F1, F2, q1, q2, rfl, q4⟩ := r.env.at hl
    have hm : ∀ a ∈ F1 ++ ([] ++ F2), a ∈ F1 ++ (A0 ++ F2) := fun a ha => by
      rcases List.mem_append.mp ha with h | h
      · exact List.mem_append_left _ h
      · exact List.mem_append_right _ (List.mem_append_right _ h)
    exact ⟨F1 ++ ([] ++ F2), q4 r.nt (Same.refl _) (fun _ _ _ e => e) .no, nodup_mid r.nd List.nodup_nil (fun _ z => nomatch z), fun a ha => r.sub a (hm a ha), fun a ha => r.off a (hm a ha), fun a ha => r.nb a (hm a ha), r.up, r.bb, r.offb, r.live, r.nt, r.box, r.pin, r.vis⟩
theorem rel_wipe (r : Rel c bs F σ H ε N) (vs : List Nat) : ∃ F', Rel c bs F' (L2.wipe σ vs) H (wipeE ε vs) N := by
  induction vs with
  | nil => exact ⟨F, r⟩
  | cons v vs ih =>
    obtain ⟨F', r'⟩ := ih
    exact set_no r' v none
theorem RepL.snoc' {us : List V} {ts : List T} {v : V} {t : T} {cs : List Addr} (rw1 : Rel c (A ++ cs) F σ H1 ε N1) (ra : RepL (A ++ cs) H1 us ts A) (nd : A.Nodup) (nb : ∀ a ∈ A, a ∉ c.b) (k : Out c H1 H2 N2) (q : Nw (A ++ cs) B H1 H2 v t) : RepL (A ++ B ++ cs) H2 (us ++ [v]) (ts ++ [t]) (A ++ B) ∧ (A ++ B).Nodup := by
  have hAB := side (own_some ra.own) q.new
  have e1 : Same (hid (A ++ cs) H1) (hid (A ++ B ++ cs) H2) := fun a o e => by
    have := vis_step (bs := A ++ cs) k rw1.bin q.new a o e
    obtain ⟨h1, h2⟩ := hid_some this
    rw [hid_out fun z => h1 (mem3 z)]
    exact h2
  have ra' : RepL (A ++ B ++ cs) H2 us ts A := RepL.chg rw1.nt e1 (fun a ha o e => out_get k (nb a ha) e) ra
  have r2 := rw1.hide k q.new q.rep.own
  have rb : Rep (A ++ B ++ cs) H2 v t B := Rep.perm r2.nt (fun a z => mem3 z) q.rep
  exact ⟨ra'.append (RepL.one rb), nodup_app nd q.nd hAB⟩
theorem out_none {a : Addr} (o : Out c H H1 N1) (e : H1 a = none) : H a = none := by
  by_cases hb : a ∈ c.b
  · exact absurd e (o.box a hb).is
  · cases e2 : H a with
    | none => rfl
    | some x => rw [out_get o hb e2] at e; cases e
/-- [e for x in .. if ..], each one its own -/
def wLcT (wi : WI) (wg : WG) (wt : WB) (w : WT) (vs : List Nat) : WT := fun ε N R => wi ε N fun ds N1 => ds.length ≤ 40000 ∧ ∃ I : Nat → List T → Nat → Prop, I 0 [] N1 ∧
  (∀ k d ts M, ds[k]? = some d → I k ts M → wg d (wipeE ε vs) fun ε2 => wt ε2 M fun b M2 => match b with
    | true => w ε2 M2 fun t M3 => I (k + 1) (ts ++ [t]) M3
    | false => I (k + 1) ts M2) ∧ ∀ ts M, I ds.length ts M → R (.lst ts) M
theorem sim_lcT {ti : TI} {wi : WI} {g : TG} {wg : WG} {tt : TT} {wt : WB} {te : TE} {w : WT} (hi : SimI ti wi) (hg : SimG vs g wg) (ht : SimB tt wt) (he : SimT te w) : SimT (tLc ti g tt te vs) (wLcT wi wg wt w vs) := fun {c bs F σ H ε N R Q} r ww q => hi r ww fun J ds N1 H1 w1 o1 Y D nD => by
  obtain ⟨hz, I, i0, step, fin⟩ := w1
  have r1 := r.out o1
  have Dbs : D ∉ bs := r1.live.out nD
  have Db : D ∉ c.b := fun z => Dbs (r.bin D z)
  -- what stands at each turn
  let Pv : Nat → Hp → Prop := fun k H' => ∃ (acc : List V) (ts : List T) (A : List Addr) (M : Nat), H' D = some (.lst acc) ∧ I k ts M ∧ ts.length ≤ k ∧ Out c H1 H' M ∧ RepL (A ++ (D :: bs)) H' acc ts A ∧ A.Nodup ∧ (∀ a ∈ A, H1 a = none) ∧ D ∉ A
  have world : ∀ {k : Nat} {H' : Hp} {acc : List V} {ts : List T} {A : List Addr} {M : Nat}, H' D = some (.lst acc) → Out c H1 H' M → RepL (A ++ (D :: bs)) H' acc ts A → (∀ a ∈ A, H1 a = none) → Rel c (A ++ (D :: bs)) F σ H' ε M := fun {k H' acc ts A M} hD o ra hn => by
    have := r1.hide (A := A ++ [D]) o (fun a ha => (List.mem_append.mp ha).elim (hn a) fun h => by rw [List.mem_singleton.mp h]; exact nD) (fun a ha => (List.mem_append.mp ha).elim (ra.own a) fun h => by rw [List.mem_singleton.mp h]; exact own_lst hD)
    rw [List.append_assoc] at this
    exact this
  have vis : ∀ {H' : Hp} {A : List Addr} {M : Nat}, Out c H1 H' M → (∀ a ∈ A, H1 a = none) → Same (hid bs H1) (hid (A ++ (D :: bs)) H') := fun {H' A M} o hn => by
    have := vis_step (bs := bs) (B := A ++ [D]) o r.bin (fun a ha => (List.mem_append.mp ha).elim (hn a) fun h => by rw [List.mem_singleton.mp h]; exact nD)
    rw [List.append_assoc] at this
    exact this
  refine it_by (J := J) (n := ds.length) (Body := fun x H' Nx => g x (L2.wipe σ vs) H' fun σ2 H2 => L2.wipe σ2 vs = L2.wipe σ vs ∧ tt σ2 H2 fun b H3 => if b = true then te σ2 H3 fun y H4 => ∃ acc, H4 D = some (.lst acc) ∧ acc.length < sizeLine ∧ Nx (upd H4 D (.lst (acc ++ [y]))) else Nx H3)
    Pv ⟨[], [], [], N1, upd_same, i0, Nat.le_refl _, ⟨(Keep.refl _ _).new nD, fun a ha => (r1.box a ha).upd nD⟩, .nil, List.nodup_nil, (fun _ z => nomatch z), List.not_mem_nil⟩
    (fun k H' hk hP => ?_) (fun H' hP => ?_) (fun k x H' H'' hk hP hy => ?_) (fun H' hP => ?_)
  · obtain ⟨acc, ts, A, M, hD, hI, hl, o, ra, nd, hn, dA⟩ := hP
    exact Y.go k H' _ hk (vis o hn)
  · obtain ⟨acc, ts, A, M, hD, hI, hl, o, ra, nd, hn, dA⟩ := hP
    exact Y.stop H' _ (vis o hn)
  · obtain ⟨acc, ts, A, M, hD, hI, hl, o, ra, nd, hn, dA⟩ := hP
    have rw0 := world (k := k) hD o ra hn
    obtain ⟨sm, d, gd, dx⟩ := Y.yld k x H' H'' _ hk (vis o hn) rw0.live hy
    have rw1 := rw0.ext sm
    obtain ⟨Fw, rw2⟩ := rel_wipe rw1 vs
    refine hg rw2 dx (step k d ts M gd hI) fun F3 σ3 ε3 r3 e3 w3 => ⟨e3.trans (wipe_wipe σ vs), ?_⟩
    refine ht r3 w3 fun b M2 H3 w4 o3 => ?_
    have oo : Out c H1 H3 M2 := (o.ext sm).trans o3
    have nb : ∀ a ∈ A, a ∉ c.b := fun a ha z => r1.live a (r.bin a z) (hn a ha)
    have ra3 : RepL (A ++ (D :: bs)) H3 acc ts A := RepL.chg rw0.nt (out_keep ((rw0.ofSame sm).trans o3) rw0.bin) (fun a ha x e => out_get o3 (nb a ha) (sm _ _ e)) ra
    have hD3 : H3 D = some (.lst acc) := out_get o3 Db (sm _ _ hD)
    cases b with
    | false => exact iteF ⟨acc, ts, A, M2, hD3, w4, by omega, oo, ra3, nd, hn, dA⟩
    | true =>
      refine iteT ?_
      have r4 := r3.out o3
      refine he r4 w4 fun v t B M3 H4 w5 o4 n => ?_
      have hD4 : H4 D = some (.lst acc) := out_get o4 Db hD3
      refine ⟨acc, hD4, ?_, acc ++ [v], ts ++ [t], A ++ B, M3, upd_same, w5, ?_, ?_, ?_, ?_, ?_, ?_⟩
      · have := ra.len
        exact Nat.lt_of_le_of_lt (show acc.length ≤ 40000 by omega) (by decide)
      · rw [List.length_append]
        exact Nat.add_le_add_right hl 1
      · exact ⟨(oo.trans o4).keep.putNew nD, fun a ha => ((oo.trans o4).box a ha).put (fun z => Db (z ▸ ha))⟩
      · obtain ⟨rr, nn⟩ := RepL.snoc' r4 ra3 nd nb o4 n
        have dB : D ∉ A ++ B := fun z => (List.mem_append.mp z).elim dA fun h => by
          have := n.new D h
          rw [hD3] at this
          cases this
        have r5 := r4.hide o4 n.new n.rep.own
        have nt5 : NoTup (A ++ B ++ (D :: bs)) H4 := fun a ha => r5.nt a (mem3 ha)
        refine RepL.chg nt5 ?_ (fun a ha x e => by rw [upd_ne (fun (z : a = D) => dB (by rw [← z]; exact ha))]; exact e) rr
        exact (Keep.refl _ _).put (List.mem_append_right _ (List.mem_cons_self ..))
      · exact (RepL.snoc' r4 ra3 nd nb o4 n).2
      · intro a ha
        rcases List.mem_append.mp ha with h | h
        · exact hn a h
        · exact out_none oo (n.new a h)
      · intro z
        rcases List.mem_append.mp z with h | h
        · exact dA h
        · have := n.new D h
          rw [hD3] at this
          cases this
  · obtain ⟨acc, ts, A, M, hD, hI, hl, o, ra, nd, hn, dA⟩ := hP
    have rw0 := world (k := 0) hD o ra hn
    refine q (.ref D) (.lst ts) (D :: A) M H' (fin ts M hI) (o1.trans o) ⟨.lst hD (RepL.perm rw0.nt (fun a ha => ?_) ra), List.nodup_cons.mpr ⟨dA, nd⟩, fun a ha => ?_⟩
    · rcases List.mem_cons.mp ha with rfl | ha
      · exact List.mem_append_right _ (List.mem_cons_self ..)
      · rcases List.mem_append.mp ha with h | h
        · exact List.mem_append_left _ h
        · exact List.mem_append_right _ (List.mem_cons_of_mem _ h)
    · rcases List.mem_cons.mp ha with rfl | ha
      · exact out_none o1 nD
      · exact out_none o1 (hn a ha)
/-- .. each one shared -/
def wLc (wi : WI) (wg : WG) (wt : WB) (w : WE) (vs : List Nat) : WE := fun ε N R => wi ε N fun ds N1 => ds.length ≤ 40000 ∧ ∃ I : Nat → List PyData → Nat → Prop, I 0 [] N1 ∧
  (∀ k d es M, ds[k]? = some d → I k es M → wg d (wipeE ε vs) fun ε2 => wt ε2 M fun b M2 => match b with
    | true => w ε2 M2 fun e M3 => I (k + 1) (es ++ [e]) M3
    | false => I (k + 1) es M2) ∧ ∀ es M, I ds.length es M → R (.list es) M
theorem sim_lc {ti : TI} {wi : WI} {g : TG} {wg : WG} {tt : TT} {wt : WB} {te : TE} {w : WE} (hi : SimI ti wi) (hg : SimG vs g wg) (ht : SimB tt wt) (he : SimE te w) : SimE (tLc ti g tt te vs) (wLc wi wg wt w vs) := fun {c bs F σ H ε N R Q} r ww q => hi r ww fun J ds N1 H1 w1 o1 Y D nD => by
  obtain ⟨hz, I, i0, step, fin⟩ := w1
  have r1 := r.out o1
  have Dbs : D ∉ bs := r1.live.out nD
  have Db : D ∉ c.b := fun z => Dbs (r.bin D z)
  have world : ∀ {H' : Hp} {acc : List V} {M : Nat}, H' D = some (.lst acc) → Out c H1 H' M → Rel c (D :: bs) F σ H' ε M := fun {H' acc M} hD o =>
    r1.hide (A := [D]) o (fun a ha => by rw [List.mem_singleton.mp ha]; exact nD) (fun a ha => by rw [List.mem_singleton.mp ha]; exact own_lst hD)
  have vis : ∀ {H' : Hp} {M : Nat}, Out c H1 H' M → Same (hid bs H1) (hid (D :: bs) H') := fun {H' M} o => vis_step (bs := bs) (B := [D]) o r.bin (fun a ha => by rw [List.mem_singleton.mp ha]; exact nD)
  refine it_by (J := J) (n := ds.length) (Body := fun x H' Nx => g x (L2.wipe σ vs) H' fun σ2 H2 => L2.wipe σ2 vs = L2.wipe σ vs ∧ tt σ2 H2 fun b H3 => if b = true then te σ2 H3 fun y H4 => ∃ acc, H4 D = some (.lst acc) ∧ acc.length < sizeLine ∧ Nx (upd H4 D (.lst (acc ++ [y]))) else Nx H3)
    (fun k H' => ∃ (acc : List V) (es : List PyData) (M : Nat), H' D = some (.lst acc) ∧ I k es M ∧ es.length ≤ k ∧ Out c H1 H' M ∧ DqAll (hid (D :: bs) H') acc es) ⟨[], [], N1, upd_same, i0, Nat.le_refl _, ⟨(Keep.refl _ _).new nD, fun a ha => (r1.box a ha).upd nD⟩, .nil⟩
    (fun k H' hk hP => ?_) (fun H' hP => ?_) (fun k x H' H'' hk hP hy => ?_) (fun H' hP => ?_)
  · obtain ⟨acc, es, M, hD, hI, hl, o, da⟩ := hP
    exact Y.go k H' _ hk (vis o)
  · obtain ⟨acc, es, M, hD, hI, hl, o, da⟩ := hP
    exact Y.stop H' _ (vis o)
  · obtain ⟨acc, es, M, hD, hI, hl, o, da⟩ := hP
    have rw0 := world hD o
    obtain ⟨sm, d, gd, dx⟩ := Y.yld k x H' H'' _ hk (vis o) rw0.live hy
    have rw1 := rw0.ext sm
    obtain ⟨Fw, rw2⟩ := rel_wipe rw1 vs
    refine hg rw2 dx (step k d es M gd hI) fun F3 σ3 ε3 r3 e3 w3 => ⟨e3.trans (wipe_wipe σ vs), ?_⟩
    refine ht r3 w3 fun b M2 H3 w4 o3 => ?_
    have oo : Out c H1 H3 M2 := (o.ext sm).trans o3
    have da3 : DqAll (hid (D :: bs) H3) acc es := da.mono (out_keep ((rw0.ofSame sm).trans o3) rw0.bin)
    have hD3 : H3 D = some (.lst acc) := out_get o3 Db (sm _ _ hD)
    cases b with
    | false => exact iteF ⟨acc, es, M2, hD3, w4, by omega, oo, da3⟩
    | true =>
      refine iteT ?_
      have r4 := r3.out o3
      refine he r4 w4 fun v f M3 H4 w5 o4 hv => ?_
      have hD4 : H4 D = some (.lst acc) := out_get o4 Db hD3
      have kk : Keep (D :: bs) H4 (upd H4 D (.lst (acc ++ [v]))) := (Keep.refl _ _).put (List.mem_cons_self ..)
      refine ⟨acc, hD4, ?_, acc ++ [v], es ++ [f], M3, upd_same, w5, ?_, ?_, ?_⟩
      · have := da.len
        exact Nat.lt_of_le_of_lt (show acc.length ≤ 40000 by omega) (by decide)
      · rw [List.length_append]
        exact Nat.add_le_add_right hl 1
      · exact ⟨(oo.trans o4).keep.putNew nD, fun a ha => ((oo.trans o4).box a ha).put (fun z => Db (z ▸ ha))⟩
      · exact ((da3.mono (out_keep o4 r4.bin)).append (.cons hv .nil)).mono kk
  · obtain ⟨acc, es, M, hD, hI, hl, o, da⟩ := hP
    exact q (.ref D) (.list es) M H' (fin es M hI) (o1.trans o) (.lst (by rw [hid_out Dbs]; exact hD) (da.mono (hid_less fun a ha => List.mem_cons_of_mem _ ha)))
end
/-! ### statements -/
structure EW where
  nx : Env → Nat → Prop
  rt : T → Nat → Prop
  bk : Env → Nat → Prop
  ct : Env → Nat → Prop
  /-- told, with what the slots hold then -/
  rx : T → Env → Nat → Prop
  /-- raised: the exception in the air; what is wished of it upon the heap -/
  xe : PyData → Env → Nat → Prop
  w : L2.WX
abbrev WS := EW → Env → Nat → Prop
def EW.seq (D : EW) (k : Env → Nat → Prop) : EW := { D with nx := k }
def EW.loop (D : EW) (i : Env → Nat → Prop) : EW := { D with nx := i, ct := i, bk := D.nx }
def EW.fn (R : T → Nat → Prop) : EW := ⟨fun _ M => R (.sh .none) M, R, fun _ _ => False, fun _ _ => False, fun _ _ _ => False, fun _ _ _ => False, fun _ _ _ _ => False⟩
structure Ret (c : Base) (v : V) (t : T) (A : List Addr) (H : Hp) (N : Nat) : Prop where
  rep : Rep (A ++ c.bs0) H v t A
  nd : A.Nodup
  off : ∀ a ∈ A, c.P a = none
  nb : ∀ a ∈ A, a ∉ c.bs0
  box : ∀ a ∈ c.b, Box H a N
  pin : Same c.P H
structure Mt (c : Base) (DW : EW) (D : Ends) : Prop where
  nx : ∀ {bs F : List Addr} {σ : L2.St} {H : Hp} {ε : Env} {N : Nat}, Rel c bs F σ H ε N → DW.nx ε N → D.nx σ H
  rt : ∀ {v : V} {t : T} {A : List Addr} {H : Hp} {N : Nat}, Ret c v t A H N → DW.rt t N → D.rt v H
  bk : ∀ {bs F : List Addr} {σ : L2.St} {H : Hp} {ε : Env} {N : Nat}, Rel c bs F σ H ε N → DW.bk ε N → D.bk σ H
  ct : ∀ {bs F : List Addr} {σ : L2.St} {H : Hp} {ε : Env} {N : Nat}, Rel c bs F σ H ε N → DW.ct ε N → D.ct σ H
  rx : ∀ {bs F A : List Addr} {σ : L2.St} {H : Hp} {ε : Env} {N : Nat} {v : V} {t : T}, Rel c bs F σ H ε N → Rep bs H v t A → A.Nodup → (∀ a ∈ A, a ∈ bs ∧ a ∉ F ∧ c.P a = none ∧ a ∉ c.bs0) → DW.rx t ε N → D.rt v H
  xe : ∀ {bs F : List Addr} {σ : L2.St} {H : Hp} {ε : Env} {N : Nat} {C dx : Addr} {d : PyData}, Rel c bs F (σ ++ [some (.ref dx)]) H (ε ++ [.is (.sh (flyD C d))]) N → σ.length = ε.length → DW.xe (flyD C d) ε N → DW.w (.ref C) (some dx) σ H
def SimS (ts : TS) (ws : WS) : Prop := ∀ {c : Base} {bs F : List Addr} {σ : L2.St} {H : Hp} {ε : Env} {N : Nat} {DW : EW} {D : Ends}, Rel c bs F σ H ε N → ws DW ε N → Mt c DW D → ts D σ H
section
variable {ta tb te : TE} {wa wb we : WE} {wt : WT} {t : TT} {w : WB} {ts us : TS} {ws wu : WS} {tas : TA} {was : WA} {c : Base} {bs F A B : List Addr} {σ : L2.St} {H H1 : Hp} {ε : Env} {N N1 : Nat} {v : V} {x : T}
/-- told at the end: something new, or shared -/
theorem Rel.ret (r : Rel c bs F σ H ε N) (o : Out c H H1 N1) (n : Nw bs A H H1 v x) : Ret c v x A H1 N1 := by
  have r1 := r.hide o n.new n.rep.own
  refine ⟨Rep.perm r1.nt (fun a ha => (List.mem_append.mp ha).elim (List.mem_append_left _) fun h => List.mem_append_right _ (r.up a h)) n.rep, n.nd, fun a ha => ?_, fun a ha z => r.live a (r.up a z) (n.new a ha), o.box, r1.pin⟩
  cases e : c.P a with
  | none => rfl
  | some y =>
    have := r.pin a y e
    rw [n.new a ha] at this
    cases this
def wSkip : WS := fun D ε N => D.nx ε N
def wSeq (ws wu : WS) : WS := fun D ε N => ws { D with nx := wu D } ε N
def wBreak : WS := fun D ε N => D.bk ε N
def wCont : WS := fun D ε N => D.ct ε N
theorem sim_skip : SimS tNext wSkip := fun r h m => m.nx r h
theorem sim_seq (h : SimS ts ws) (k : SimS us wu) : SimS (tSeq ts us) (wSeq ws wu) := fun {c bs F σ H ε N DW D} r w m => h (DW := { DW with nx := wu DW }) (D := { D with nx := us D }) r w ⟨fun r2 w2 => k r2 w2 m, m.rt, m.bk, m.ct, m.rx, m.xe⟩
def wRet (wt : WT) : WS := fun D ε N => wt ε N fun t N' => D.rt t N'
theorem sim_ret (h : SimT te wt) : SimS (tRet te) (wRet wt) := fun r w m => h r w fun v t A N' H' hR o n => m.rt (r.ret o n) hR
def wRetN : WS := fun D ε N => D.rt (.sh .none) N
/-- return x, x its own -/
def wRetV (i : Nat) : WS := fun D ε N => match ε[i]? with
  | some (.is t) => D.rt t N
  | _ => False
theorem sim_retV {i : Nat} : SimS (tRet (tVar i)) (wRetV i) := fun {c bs F σ H ε N DW D} r w m => by
  have w' : (match ε[i]? with | some (.is t) => DW.rt t N | _ => False) := w
  split at w'
  · rename_i t e
    obtain ⟨y, A, F1, F2, hx, hr, rfl, _⟩ := r.env.at e
    cases hr with
    | is hr =>
      have hA : ∀ a ∈ A, a ∈ F1 ++ (A ++ F2) := fun a ha => List.mem_append_right _ (List.mem_append_left _ ha)
      refine ⟨_, hx, m.rt ⟨Rep.perm r.nt (fun a ha => (List.mem_append.mp ha).elim (fun h => r.sub a (hA a h)) (r.up a)) hr, ?_, fun a ha => r.off a (hA a ha), fun a ha => r.nb a (hA a ha), r.box, r.pin⟩ w'⟩
      exact (List.nodup_append.mp (List.nodup_append.mp r.nd).2.1).1
  · exact w'.elim
def wIfS (w : WB) (ws wu : WS) : WS := fun D ε N => w ε N fun b N1 => match b with
  | true => ws D ε N1
  | false => wu D ε N1
theorem sim_ifS (h : SimB t w) (ha : SimS ts ws) (hb : SimS us wu) : SimS (tIfS t ts us) (wIfS w ws wu) := fun {c bs F σ H ε N DW D} r ww m => h r ww fun b N1 H1 w1 o1 => by
  cases b with
  | true => exact iteT (ha (r.out o1) w1 m)
  | false => exact iteF (hb (r.out o1) w1 m)
/-- x = e, what e tells its own -/
def wAsgT (i : Nat) (wt : WT) : WS := fun D ε N => wt ε N fun t N' => D.nx (ε.set i (.is t)) N'
theorem sim_asgT {i : Nat} (h : SimT te wt) : SimS (tAsg te (gName i)) (wAsgT i wt) := fun {c bs F σ H ε N DW D} r w m => h r w fun v t A N' H' hR o n => by
  obtain ⟨F', r'⟩ := r.set (i := i) o n
  exact m.nx r' hR
/-- x = e, shared; a, b = e -/
def wAsg (we : WE) (wg : WG) : WS := fun D ε N => we ε N fun d N' => wg d ε fun ε' => D.nx ε' N'
theorem sim_asg {vs : List Nat} {g : TG} {wg : WG} (h : SimE te we) (hg : SimG vs g wg) : SimS (tAsg te g) (wAsg we wg) := fun {c bs F σ H ε N DW D} r w m => h r w fun v d N' H' hR o hd => hg (r.out o) hd hR fun F' σ' ε' r' _ w' => m.nx r' w'
theorem RepL.two {us : List V} {t u : T} {A : List Addr} (h : RepL bs H us [t, u] A) : ∃ v w A1 A2, us = [v, w] ∧ Rep bs H v t A1 ∧ Rep bs H w u A2 ∧ A = A1 ++ A2 := by
  cases h with
  | cons h1 k1 => cases k1 with
    | cons h2 k2 => cases k2 with
      | nil => exact ⟨_, _, _, _, rfl, h1, h2, by rw [List.append_nil]⟩
theorem pin_none {a : Addr} (r : Rel c bs F σ H ε N) (e : H a = none) : c.P a = none := by
  cases h : c.P a with
  | none => rfl
  | some y =>
    rw [r.pin a y h] at e
    cases e
/-- a slot set to what is hidden already, and nobody else's -/
theorem Rel.put {i : Nat} (r : Rel c bs F σ H ε N) (h : Rep bs H v x A) (nd : A.Nodup) (hA : ∀ a ∈ A, a ∈ bs ∧ a ∉ F ∧ c.P a = none ∧ a ∉ c.bs0) : ∃ F', Rel c bs F' (σ.set i (some v)) H (ε.set i (.is x)) N ∧ ∀ a ∈ F', a ∈ F ∨ a ∈ A := by
  cases hl : ε[i]? with
  | none =>
    have hs : σ[i]? = none := by
      rw [List.getElem?_eq_none_iff] at hl ⊢
      rw [r.env.len]
      exact hl
    rw [set_beyond hl, set_beyond hs]
    exact ⟨F, r, fun a ha => .inl ha⟩
  | some l =>
    obtain ⟨y, A0, F1, F2, q1, q2, rfl, q4⟩ := r.env.at hl
    have hm : ∀ a ∈ F1 ++ (A ++ F2), a ∈ F1 ++ (A0 ++ F2) ∨ a ∈ A := fun a ha => by
      rcases List.mem_append.mp ha with h | h
      · exact .inl (List.mem_append_left _ h)
      · rcases List.mem_append.mp h with h | h
        · exact .inr h
        · exact .inl (List.mem_append_right _ (List.mem_append_right _ h))
    refine ⟨F1 ++ (A ++ F2), ⟨q4 r.nt (Same.refl _) (fun _ _ _ e => e) (.is h), nodup_mid r.nd nd fun a ha => ⟨fun z => (hA a ha).2.1 (List.mem_append_left _ z), fun z => (hA a ha).2.1 (List.mem_append_right _ (List.mem_append_right _ z))⟩, fun a ha => (hm a ha).elim (r.sub a) fun z => (hA a z).1, fun a ha => (hm a ha).elim (r.off a) fun z => (hA a z).2.2.1, fun a ha => (hm a ha).elim (r.nb a) fun z => (hA a z).2.2.2, r.up, r.bb, r.offb, r.live, r.nt, r.box, r.pin, r.vis⟩, hm⟩
def wDrop (we : WE) : WS := fun D ε N => we ε N fun _ N' => D.nx ε N'
/-! ### what is its own, changed in place -/
theorem set_same {α : Type} : ∀ {xs : List α} {i : Nat} {x : α}, xs[i]? = some x → xs.set i x = xs
  | [], _, _, h => by cases h
  | y :: ys, 0, x, h => by
    have e : y = x := Option.some.inj h
    rw [e]
    rfl
  | y :: ys, i + 1, x, h => by
    show y :: ys.set i x = y :: ys
    rw [set_same (xs := ys) h]
theorem mem_mid {F1 A0 F2 : List Addr} {a x : Addr} (h : x ∈ F1 ++ (a :: A0 ++ F2)) : x ∈ F1 ∨ x = a ∨ x ∈ A0 ∨ x ∈ F2 := by
  rcases List.mem_append.mp h with h | h
  · exact .inl h
  · rcases List.mem_append.mp h with h | h
    · rcases List.mem_cons.mp h with h | h
      · exact .inr (.inl h)
      · exact .inr (.inr (.inl h))
    · exact .inr (.inr (.inr h))
/-- the list of slot i, and what comes of it when it stands otherwise -/
theorem Rel.mutate {i : Nat} {ts : List T} (r : Rel c bs F σ H ε N) (hl : ε[i]? = some (.is (.lst ts))) : ∃ a vs A0, σ[i]? = some (some (.ref a)) ∧ H a = some (.lst vs) ∧ RepL bs H vs ts A0 ∧ A0.Nodup ∧ a ∉ A0 ∧ a ∈ bs ∧ a ∉ c.b ∧ (∀ x ∈ A0, x ∈ bs) ∧ a ∈ F ∧ (∀ x ∈ A0, x ∈ F) ∧
    ∀ {vs' : List V} {ts' : List T} {A' : List Addr}, RepL bs H vs' ts' A' → A'.Nodup → a ∉ A' → (∀ x ∈ A', x ∈ A0 ∨ (x ∈ bs ∧ x ∉ F ∧ c.P x = none ∧ x ∉ c.bs0)) → ∃ F', Rel c bs F' σ (upd H a (.lst vs')) (ε.set i (.is (.lst ts'))) N := by
  obtain ⟨y, A, F1, F2, q1, q2, rfl, q4⟩ := r.env.at hl
  cases q2 with
  | is q2 => cases q2 with
    | lst e h =>
      rename_i a vs A0
      have nd2 := (List.nodup_append.mp (List.nodup_append.mp r.nd).2.1).1
      have hnd := List.nodup_cons.mp nd2
      have hmem : ∀ x ∈ a :: A0, x ∈ F1 ++ (a :: A0 ++ F2) := fun x hx => List.mem_append_right _ (List.mem_append_left _ hx)
      have ain := hmem a (List.mem_cons_self ..)
      have abs := r.sub a ain
      refine ⟨a, vs, A0, q1, e, h, hnd.2, hnd.1, abs, r.fb a ain, fun x hx => r.sub x (hmem x (List.mem_cons_of_mem _ hx)), ain, fun x hx => hmem x (List.mem_cons_of_mem _ hx), fun {vs' ts' A'} h' nd' ha' hx' => ?_⟩
      have aout : ∀ x ∈ F1 ++ F2, x ≠ a := fun x hx z => by
        subst z
        obtain ⟨_, p2, p3⟩ := List.nodup_append.mp r.nd
        rcases List.mem_append.mp hx with h | h
        · exact p3 x h x (List.mem_append_left _ (List.mem_cons_self ..)) rfl
        · exact (List.nodup_append.mp p2).2.2 x (List.mem_cons_self ..) x h rfl
      have A0out : ∀ x ∈ A0, x ∉ F1 ∧ x ∉ F2 := fun x hx => by
        obtain ⟨_, p2, p3⟩ := List.nodup_append.mp r.nd
        exact ⟨fun z => p3 x z x (List.mem_append_left _ (List.mem_cons_of_mem _ hx)) rfl, fun z => (List.nodup_append.mp p2).2.2 x (List.mem_cons_of_mem _ hx) x z rfl⟩
      have kk : Keep bs H (upd H a (.lst vs')) := (Keep.refl _ _).put abs
      have rr : RepL bs (upd H a (.lst vs')) vs' ts' A' := RepL.chg r.nt kk (fun x hx o e => by rw [upd_ne (fun (z : x = a) => ha' (z ▸ hx))]; exact e) h'
      have env := q4 (cs := bs) (H' := upd H a (.lst vs')) (y := some (.ref a)) (m := .is (.lst ts')) r.nt kk (fun x hx o e => by rw [upd_ne (aout x hx)]; exact e) (.is (.lst upd_same rr))
      rw [set_same q1] at env
      have hm : ∀ x ∈ F1 ++ (a :: A' ++ F2), x ∈ F1 ++ (a :: A0 ++ F2) ∨ (x ∈ A' ∧ x ∉ A0) := fun x hx => by
        rcases mem_mid hx with h | h | h | h
        · exact .inl (List.mem_append_left _ h)
        · rw [h]; exact .inl ain
        · by_cases hA : x ∈ A0
          · exact .inl (hmem x (List.mem_cons_of_mem _ hA))
          · exact .inr ⟨h, hA⟩
        · exact .inl (List.mem_append_right _ (List.mem_append_right _ h))
      have hnew : ∀ x, x ∈ A' ∧ x ∉ A0 → x ∈ bs ∧ x ∉ F1 ++ (a :: A0 ++ F2) ∧ c.P x = none ∧ x ∉ c.bs0 := fun x hx => (hx' x hx.1).elim (fun z => absurd z hx.2) id
      refine ⟨F1 ++ (a :: A' ++ F2), env, nodup_mid r.nd (List.nodup_cons.mpr ⟨ha', nd'⟩) fun x hx => ?_, fun x hx => (hm x hx).elim (r.sub x) fun z => (hnew x z).1, fun x hx => (hm x hx).elim (r.off x) fun z => (hnew x z).2.2.1, fun x hx => (hm x hx).elim (r.nb x) fun z => (hnew x z).2.2.2, r.up, r.bb, r.offb, fun x hx => ?_, fun x hx xs z => ?_, fun x hx => ?_, fun x o e => ?_, r.vis.trans kk⟩
      · rcases List.mem_cons.mp hx with h | h
        · subst h
          exact ⟨fun z => aout x (List.mem_append_left _ z) rfl, fun z => aout x (List.mem_append_right _ z) rfl⟩
        · by_cases hA : x ∈ A0
          · exact A0out x hA
          · have := (hnew x ⟨h, hA⟩).2.1
            exact ⟨fun z => this (List.mem_append_left _ z), fun z => this (List.mem_append_right _ (List.mem_append_right _ z))⟩
      · by_cases hxa : x = a
        · subst hxa; rw [upd_same]; exact fun z => nomatch z
        · rw [upd_ne hxa]; exact r.live x hx
      · by_cases hxa : x = a
        · subst hxa; rw [upd_same] at z; cases z; trivial
        · rw [upd_ne hxa] at z; exact r.nt x hx xs z
      · exact (r.box x hx).put (fun z => r.fb a ain (z ▸ hx))
      · rw [upd_ne (fun (z : x = a) => by rw [z, r.off a ain] at e; cases e)]
        exact r.pin x o e
/-- what is new, hidden and nobody's -/
theorem nw_fact {a : Addr} (r : Rel c bs F σ H ε N) (hn : H a = none) (ha : a ∈ A) : a ∈ A ++ bs ∧ a ∉ F ∧ c.P a = none ∧ a ∉ c.bs0 := ⟨List.mem_append_left _ ha, fun z => r.live a (r.sub a z) hn, pin_none r hn, fun z => r.live a (r.up a z) hn⟩
theorem slot_own {i : Nat} {ts : List T} (r : Rel c bs F σ H ε N) (hl : ε[i]? = some (.is (.lst ts))) : ∃ a, σ[i]? = some (some (.ref a)) ∧ a ∉ c.b ∧ ∃ vs, H a = some (.lst vs) := by
  obtain ⟨a, vs, A0, h1, h2, _, _, _, _, hb, _⟩ := r.mutate hl
  exact ⟨a, h1, hb, vs, h2⟩
/-- a list of one's own in slot i -/
def ownL (ε : Env) (i : Nat) : Option (List T) := match ε[i]? with
  | some (.is (.lst ts)) => some ts
  | _ => none
theorem ownL_some {i : Nat} {ts : List T} (h : ownL ε i = some ts) : ε[i]? = some (.is (.lst ts)) := by
  unfold ownL at h
  split at h
  · rename_i us e
    rw [e, Option.some.inj h]
  · cases h
def onOwn (i : Nat) (k : List T → Env → Nat → Prop) (ε : Env) (N : Nat) : Prop := match ownL ε i with
  | some ts => k ts ε N
  | none => False
theorem onOwn_some {i : Nat} {k : List T → Env → Nat → Prop} (h : onOwn i k ε N) : ∃ ts, ε[i]? = some (.is (.lst ts)) ∧ k ts ε N := by
  unfold onOwn at h
  split at h
  · rename_i ts e
    exact ⟨ts, ownL_some e, h⟩
  · exact h.elim
/-- x.append(e) -/
def wApp (i : Nat) (wt : WT) : WS := fun D => onOwn i fun ts ε N => wt ε N fun t N' => ts.length ≤ 100000 ∧ D.nx (ε.set i (.is (.lst (ts ++ [t])))) N'
theorem sim_app {K : PySem.W.Frag} {i : Nat} (h : SimT te wt) : SimS (tDrop (tBM K "list" rAppend (tVar i) (tCons te tNil))) (wApp i wt) := fun {c bs F σ H ε N DW D} r w m => by
  obtain ⟨ts, hl, w⟩ := onOwn_some w
  obtain ⟨a, hs, hab, vs, hH⟩ := slot_own r hl
  refine ⟨.ref a, hs, .inl ⟨rfl, vs, SqL.of hH⟩, h r w fun v t B N' H' hR o n => ?_⟩
  have r1 := r.hide o n.new n.rep.own
  obtain ⟨a2, vs2, A0, g1, g2, g3, g4, g5, g6, g7, g8, g9, g10, g11⟩ := r1.mutate hl
  have ea : a2 = a := by
    have := g1.symm.trans hs
    cases this
    rfl
  subst ea
  have dis : ∀ x ∈ A0, x ∉ B := fun x hx z => r.live x (r.sub x (g10 x hx)) (n.new x z)
  obtain ⟨F', r2⟩ := g11 (g3.append (RepL.one n.rep)) (nodup_app g4 n.nd dis) (fun z => (List.mem_append.mp z).elim g5 fun h => r.live a2 (r.sub a2 g9) (n.new a2 h)) (fun x hx => (List.mem_append.mp hx).elim .inl fun h => .inr (nw_fact r (n.new x h) h))
  exact ⟨a2, vs2, v, rfl, rfl, g2, by rw [g3.len]; exact Nat.lt_of_le_of_lt hR.1 (by decide), m.nx r2 hR.2⟩
/-! parts of a row of things -/
theorem RepL.split : ∀ {vs : List V} {ts : List T} {A : List Addr}, RepL bs H vs ts A → ∀ {k : Nat} {t : T}, ts[k]? = some t → ∃ v A1 Av A2, vs[k]? = some v ∧ Rep bs H v t Av ∧ A = A1 ++ (Av ++ A2) ∧ RepL bs H (vs.eraseIdx k) (ts.eraseIdx k) (A1 ++ A2) ∧
    ∀ {v' : V} {t' : T} {B : List Addr}, Rep bs H v' t' B → RepL bs H (vs.set k v') (ts.set k t') (A1 ++ (B ++ A2))
  | _, _, _, .nil, k, t, e => by cases e
  | _, _, _, .cons (v := v) (A := A) (B := B) h q, 0, t, e => by
    have e' := Option.some.inj e
    subst e'
    refine ⟨v, [], A, B, rfl, h, rfl, q, fun {v' t' B'} h' => ?_⟩
    exact RepL.cons (A := B') (B := B) h' q
  | _, _, _, .cons (v := v) (A := A) (B := B) h q, k + 1, t, e => by
    obtain ⟨v2, A1, Av, A2, p1, p2, p3, p4, p5⟩ := q.split (k := k) (t := t) e
    refine ⟨v2, A ++ A1, Av, A2, p1, p2, by rw [p3, List.append_assoc], ?_, fun {v' t' B'} h' => ?_⟩
    · rw [List.append_assoc]
      exact .cons h p4
    · rw [List.append_assoc]
      exact .cons h (p5 h')
/-- x.reverse(), x.clear() -/
def wRev (i : Nat) : WS := fun D => onOwn i fun ts ε N => D.nx (ε.set i (.is (.lst ts.reverse))) N
def wClr (i : Nat) : WS := fun D => onOwn i fun ts ε N => D.nx (ε.set i (.is (.lst []))) N
/-- x.extend(e), what e has being shared -/
def wExt (i : Nat) (we : WE) : WS := fun D => onOwn i fun ts ε N => we ε N fun d N' => match d with
  | .list ds => ts.length + ds.length ≤ 100000 ∧ D.nx (ε.set i (.is (.lst (ts ++ ds.map T.sh)))) N'
  | _ => False
/-- x[k] = e -/
def wSet (i : Nat) (wk : WE) (wt : WT) : WS := fun D => onOwn i fun ts ε N => wt ε N fun t N1 => wk ε N1 fun d N2 => match d with
  | .int k => ∃ j, ixN ts.length k = some j ∧ D.nx (ε.set i (.is (.lst (ts.set j t)))) N2
  | _ => False
/-- y = x.pop(k), what is popped being shared -/
def wPop (i : Nat) (wk : WE) (wg : WG) : WS := fun D => onOwn i fun ts ε N => wk ε N fun d N1 => match d with
  | .int k => (0 ≤ k ∧ k < ts.length ∧ k ≤ 1000000) ∧ ∃ d, ts[k.toNat]? = some (.sh d) ∧ wg d (ε.set i (.is (.lst (ts.eraseIdx k.toNat)))) fun ε' => D.nx ε' N1
  | _ => False
theorem seqIx' {j n : Nat} (h : j < n) : seqIndex? (j : Int) n = some j := by
  unfold seqIndex?
  have h1 : ¬ (j : Int) < 0 := by omega
  simp only [h1, if_false]
  rw [if_pos (by simp; omega)]
  simp
end
end Cg

set_option Elab.async false
set_option linter.all false
set_option maxRecDepth 100000
set_option maxHeartbeats 1000000
namespace Cg
open PySem PySem.Spec PyProof.Rows L2 Evl
section
variable {ta tb te : TE} {wa wb we : WE} {wt : WT} {t : TT} {w : WB} {ts us : TS} {ws wu : WS} {tas : TA} {was : WA} {c : Base} {bs F A B : List Addr} {σ : L2.St} {H H1 : Hp} {ε : Env} {N N1 : Nat} {v : V} {x : T} {vs : List Nat}
/-! ### loops -/
def pinB (c : Base) (bs F : List Addr) (H : Hp) : Base := { c with P := hid (F ++ c.b) H, V := hid bs H }
theorem Rel.pinned (r : Rel c bs F σ H ε N) : Rel (pinB c bs F H) bs F σ H ε N where
  env := r.env
  nd := r.nd
  sub := r.sub
  off := fun a ha => hid_in (List.mem_append_left _ ha)
  nb := r.nb
  up := r.up
  bb := r.bb
  offb := fun a ha => hid_in (List.mem_append_right _ ha)
  live := r.live
  nt := r.nt
  box := r.box
  pin := hid_same
  vis := Same.refl _
theorem Rel.pins (r : Rel c bs F σ H ε N) : Same c.P (hid (F ++ c.b) H) := fun a o e => by
  rw [hid_out]
  · exact r.pin a o e
  · intro z
    rcases List.mem_append.mp z with z | z
    · rw [r.off a z] at e; cases e
    · rw [r.offb a z] at e; cases e
theorem same_none {P Q : Hp} {a : Addr} (s : Same P Q) (e : Q a = none) : P a = none := by
  cases h : P a with
  | none => rfl
  | some o => rw [s a o h] at e; cases e
theorem Rel.unpin {bs' F' : List Addr} {σ' : L2.St} {H' : Hp} {ε' : Env} {M : Nat} (r : Rel c bs F σ H ε N) (q : Rel (pinB c bs F H) bs' F' σ' H' ε' M) : Rel c bs' F' σ' H' ε' M where
  env := q.env
  nd := q.nd
  sub := q.sub
  off := fun a ha => same_none r.pins (q.off a ha)
  nb := q.nb
  up := q.up
  bb := q.bb
  offb := r.offb
  live := q.live
  nt := q.nt
  box := q.box
  pin := r.pins.trans q.pin
  vis := r.vis.trans q.vis
theorem Ret.unpin {M : Nat} {H' : Hp} (r : Rel c bs F σ H ε N) (q : Ret (pinB c bs F H) v x A H' M) : Ret c v x A H' M := ⟨q.rep, q.nd, fun a ha => same_none r.pins (q.off a ha), q.nb, q.box, r.pins.trans q.pin⟩
/-- for .. in ..: I is what holds ahead of each turn -/
def wFor (wi : WI) (wg : WG) (wb : WS) : WS := fun D ε N => wi ε N fun ds N1 => ∃ I : Nat → Env → Nat → Prop, I 0 ε N1 ∧ (∀ k d ε M, ds[k]? = some d → I k ε M → wg d ε fun ε2 => wb { D with nx := I (k + 1), ct := I (k + 1), bk := D.nx } ε2 M) ∧ ∀ ε M, I ds.length ε M → D.nx ε M
theorem sim_for {ti : TI} {wi : WI} {g : TG} {wg : WG} (hi : SimI ti wi) (hg : SimG vs g wg) (hb : SimS ts ws) : SimS (tFor ti g ts) (wFor wi wg ws) := fun {c bs F σ H ε N DW D} r w m => hi r w fun J ds N1 H1 w1 o1 Y => by
  obtain ⟨I, i0, step, fin⟩ := w1
  have r1 := r.out o1
  refine ⟨fun i k σ' H' => i + k = ds.length ∧ ∃ bs' F' ε' M, Rel (pinB c bs F H1) bs' F' σ' H' ε' M ∧ I i ε' M, ⟨ds.length, by omega, bs, F, ε, N1, r1.pinned, i0⟩, fun i k σ' H' hw => ?_⟩
  obtain ⟨e, bs', F', ε', M, q, hI⟩ := hw
  cases k with
  | zero =>
    obtain rfl : i = ds.length := by omega
    exact .inl ⟨Y.stop H' bs' q.vis, m.nx (r1.unpin q) (fin ε' M hI)⟩
  | succ k =>
    refine .inr ⟨Y.go i H' bs' (by omega) q.vis, fun σ2 H2 => ∃ bs2 F2 ε2 M2, Rel (pinB c bs F H1) bs2 F2 σ2 H2 ε2 M2 ∧ I (i + 1) ε2 M2, fun σ2 H2 h2 => ⟨k, by omega, by omega, h2⟩, fun y H2 hy => ?_⟩
    obtain ⟨sm, d, gd, dx⟩ := Y.yld i y H' H2 bs' (by omega) q.vis q.live hy
    refine hg (q.ext sm) dx (step i d ε' M gd hI) fun F3 σ3 ε3 r3 _ w3 => hb r3 w3 ⟨fun r4 w4 => ⟨_, _, _, _, r4, w4⟩, fun r4 w4 => m.rt (r4.unpin r1) w4, fun r4 w4 => m.nx (r1.unpin r4) w4, fun r4 w4 => ⟨_, _, _, _, r4, w4⟩, fun r4 p4 n4 a4 w4 => m.rx (r1.unpin r4) p4 n4 (fun a ha => ⟨(a4 a ha).1, (a4 a ha).2.1, same_none r1.pins (a4 a ha).2.2.1, (a4 a ha).2.2.2⟩) w4, fun r4 l4 w4 => m.xe (r1.unpin r4) l4 w4⟩
def wWhile (w : WB) (ws : WS) : WS := fun D ε N => ∃ I : Nat → Env → Nat → Prop, (∃ m, I m ε N) ∧ ∀ m ε N, I m ε N → w ε N fun b N1 => match b with
  | true => ws { D with nx := fun ε N => ∃ m', m' < m ∧ I m' ε N, ct := fun ε N => ∃ m', m' < m ∧ I m' ε N, bk := D.nx } ε N1
  | false => D.nx ε N1
theorem sim_while (h : SimB t w) (hb : SimS ts ws) : SimS (tWhile t ts) (wWhile w ws) := fun {c bs F σ H ε N DW D} r ww m => by
  obtain ⟨I, ⟨m0, i0⟩, step⟩ := ww
  refine ⟨fun k σ' H' => ∃ bs' F' ε' M, Rel c bs' F' σ' H' ε' M ∧ I k ε' M, ⟨m0, bs, F, ε, N, r, i0⟩, fun k σ' H' hw => ?_⟩
  obtain ⟨bs', F', ε', M, q, hI⟩ := hw
  refine h q (step k ε' M hI) fun b N1 H1 w1 o1 => ?_
  cases b with
  | true =>
    refine iteT ⟨fun σ2 H2 => ∃ bs2 F2 ε2 M2, Rel c bs2 F2 σ2 H2 ε2 M2 ∧ ∃ m', m' < k ∧ I m' ε2 M2, fun σ2 H2 h2 => ?_, hb (q.out o1) w1 ⟨fun r4 w4 => ⟨_, _, _, _, r4, w4⟩, m.rt, fun r4 w4 => m.nx r4 w4, fun r4 w4 => ⟨_, _, _, _, r4, w4⟩, m.rx, m.xe⟩⟩
    obtain ⟨bs2, F2, ε2, M2, r2, m', hm, hI2⟩ := h2
    exact ⟨m', hm, bs2, F2, ε2, M2, r2, hI2⟩
  | false => exact iteF (m.nx (q.out o1) w1)
/-! ### what was its own is shared from now on -/
def wFrz (i : Nat) (ws : WS) : WS := fun D ε N => match ε[i]? with
  | some (.is y) => ws D (ε.set i (.is (.sh y.data))) N
  | _ => False
/-! ### defs -/
abbrev WF := List PyData → Nat → (T → Nat → Prop) → Prop
def env0 (bx : Bool) (ds : List PyData) (k : Nat) : Env := (if bx then [Sl.box] else []) ++ (ds.map (fun d => Sl.is (.sh d)) ++ List.replicate k Sl.no)
def wFn (bx : Bool) (n k : Nat) (ws : WS) : WF := fun ds N R => ds.length = n ∧ ws (EW.fn R) (env0 bx ds k) N
def spW (bx : Bool) (n : Nat) (w : WF) : Sp := fun vs H Q _ => ∃ (b bs : List Addr) (us : List V) (ds : List PyData) (N : Nat) (R : T → Nat → Prop), vs = b.map V.ref ++ us ∧ b.length = (if bx then 1 else 0) ∧ us.length = n ∧ (∀ a ∈ b, a ∈ bs) ∧ Live bs H ∧ NoTup bs H ∧ (∀ a ∈ b, Box H a N) ∧ DqAll (hid bs H) us ds ∧ w ds N R ∧
  ∀ v t A N' H', R t N' → Keep b H H' → (∀ a ∈ b, Box H' a N') → Nw bs A H H' v t → Q v H'
theorem spW_len {bx : Bool} {n : Nat} {w : WF} {vs : List V} {H : Hp} {Q : VK} {E : XK} (h : spW bx n w vs H Q E) : vs.length = (if bx then 1 else 0) + n := by
  obtain ⟨b, bs, us, ds, N, R, rfl, hb, hu, _⟩ := h
  rw [List.length_append, List.length_map, hb, hu]
theorem env_start {b bs : List Addr} {bx : Bool} (hb : b.length = (if bx then 1 else 0)) {us : List V} {ds : List PyData} (h : DqAll (hid bs H) us ds) (k : Nat) : RelE b bs H (((b.map V.ref ++ us).map some) ++ List.replicate k none) (env0 bx ds k) [] := by
  have tail : ∀ k : Nat, RelE b bs H (List.replicate k none) (List.replicate k Sl.no) [] := fun k => by
    induction k with
    | zero => exact .nil
    | succ k ih => exact .no ih
  have mid : ∀ {us : List V} {ds : List PyData}, DqAll (hid bs H) us ds → RelE b bs H (us.map some ++ List.replicate k none) (ds.map (fun d => Sl.is (.sh d)) ++ List.replicate k Sl.no) [] := fun {us ds} h => by
    induction us generalizing ds with
    | nil =>
      cases h
      exact tail k
    | cons u us ih =>
      cases h with
      | cons h1 t1 => exact RelE.is (A := []) (.sh h1) (ih t1)
  unfold env0
  cases bx with
  | false =>
    have e : b = [] := List.length_eq_zero_iff.mp hb
    subst e
    exact mid h
  | true =>
    match b, hb with
    | [a], _ => exact .box rfl (mid h)
/-- a def's body, from its promise -/
theorem run_w {bx : Bool} {n k : Nat} {Nm : List Str} {vs : List V} {Q : VK} {E : XK} (h : SimS ts ws) (hN : Nm.length = (if bx then 1 else 0) + n + k) (sp : spW bx n (wFn bx n k ws) vs H Q E) : ts { nx := fun _ H' => Q .non H', rt := Q } (L2.start Nm vs) H := by
  have hl := spW_len sp
  obtain ⟨b, bs, us, ds, N, R, rfl, hb, hu, hsub, lv, nt, bx', hd, ⟨_, hw⟩, q⟩ := sp
  have es : L2.start Nm (b.map V.ref ++ us) = ((b.map V.ref ++ us).map some) ++ List.replicate k none := by
    unfold L2.start
    rw [hl, hN]
    congr 2
    omega
  rw [es]
  let c : Base := ⟨b, bs, hid b H, hid bs H⟩
  have r : Rel c bs [] (((b.map V.ref ++ us).map some) ++ List.replicate k none) H (env0 bx ds k) N := ⟨env_start hb hd k, List.nodup_nil, (fun _ z => nomatch z), (fun _ z => nomatch z), (fun _ z => nomatch z), fun _ h => h, hsub, fun a ha => hid_in ha, lv, nt, bx', hid_same, Same.refl _⟩
  have ret : ∀ {v : V} {t : T} {A : List Addr} {H' : Hp} {M : Nat}, Ret c v t A H' M → R t M → Q v H' := fun {v t A H' M} rt hR => by
    have kp : Keep b H H' := fun a o e => by
      obtain ⟨h1, h2⟩ := hid_some e
      rw [hid_out h1]
      exact rt.pin a o e
    refine q v t A M H' hR kp rt.box ⟨rt.rep, rt.nd, fun a ha => ?_⟩
    have h1 : hid b H a = none := rt.off a ha
    rw [hid_out (fun z => rt.nb a ha (hsub a z))] at h1
    exact h1
  exact h r hw ⟨fun r2 w2 => ret (r2.ret r2.self (Nw.sh .non)) w2, fun rt w2 => ret rt w2, fun _ w2 => w2.elim, fun _ w2 => w2.elim, fun _ _ _ _ w2 => w2.elim, fun _ _ w2 => w2.elim⟩
/-! ### calls of defs -/
def wCallT (f : WF) (was : WA) : WT := fun ε N R => was ε N fun ds N1 => f ds 0 fun t _ => R t N1
def wCall (f : WF) (was : WA) : WE := fun ε N R => was ε N fun ds N1 => f ds 0 fun t _ => R t.data N1
theorem sim_callT {n : Nat} {f : WF} (hn : ∀ {ds N R}, f ds N R → ds.length = n) (h : SimA tas was) : SimT (tCall (spW false n f) [] E0 tas) (wCallT f was) := fun {c bs F σ H ε N R Q} r w q => h r w fun us ds N1 H1 w1 o1 hd => by
  show spW false n f (us ++ []) H1 Q E0
  rw [List.append_nil]
  refine ⟨[], bs, us, ds, 0, fun t _ => R t N1, rfl, rfl, hd.len.trans (hn w1), (fun _ z => nomatch z), out_live o1 r.live, out_notup o1 r.live r.nt, (fun _ z => nomatch z), hd, w1, fun v t A N' H' hR kp _ n => ?_⟩
  have sm : Same H1 H' := fun a o e => kp.get List.not_mem_nil e
  exact q v t A N1 H' hR (o1.ext sm) (n.back o1)
theorem sim_call {n : Nat} {f : WF} (hn : ∀ {ds N R}, f ds N R → ds.length = n) (h : SimA tas was) : SimE (tCall (spW false n f) [] E0 tas) (wCall f was) := by
  show SimE _ (wFz (wCallT f was))
  exact sim_fz (sim_callT hn h)
def isBox (ε : Env) (i : Nat) : Bool := match ε[i]? with
  | some .box => true
  | _ => false
theorem box_slot {i : Nat} (r : Rel c bs F σ H ε N) (h : isBox ε i = true) : ∃ a, c.b = [a] ∧ σ[i]? = some (some (.ref a)) := by
  unfold isBox at h
  split at h
  · rename_i e
    obtain ⟨x, A, F1, F2, hx, hr, _, _⟩ := r.env.at e
    cases hr with
    | box eb => exact ⟨_, eb, hx⟩
  · cases h
def wCallBT (i : Nat) (f : WF) (was : WA) : WT := fun ε N R => isBox ε i = true ∧ was ε N fun ds N1 => f ds N1 R
def wCallB (i : Nat) (f : WF) (was : WA) : WE := fun ε N R => isBox ε i = true ∧ was ε N fun ds N1 => f ds N1 fun t N2 => R t.data N2
theorem sim_callBT {n i : Nat} {f : WF} (hn : ∀ {ds N R}, f ds N R → ds.length = n) (h : SimA tas was) : SimT (tCall (spW true n f) [] E0 (tCons (tVar i) tas)) (wCallBT i f was) := fun {c bs F σ H ε N R Q} r w q => by
  obtain ⟨hb, w⟩ := w
  obtain ⟨a, eb, hs⟩ := box_slot r hb
  refine ⟨.ref a, hs, h r w fun us ds N1 H1 w1 o1 hd => ?_⟩
  show spW true n f (.ref a :: us ++ []) H1 Q E0
  rw [List.append_nil]
  have r1 := r.out o1
  refine ⟨c.b, bs, us, ds, N1, R, by rw [eb]; rfl, by rw [eb]; rfl, hd.len.trans (hn w1), r.bin, r1.live, r1.nt, r1.box, hd, w1, fun v t A N' H' hR kp bx n => ?_⟩
  exact q v t A N' H' hR (o1.trans ⟨kp, bx⟩) (n.back o1)
theorem sim_callB {n i : Nat} {f : WF} (hn : ∀ {ds N R}, f ds N R → ds.length = n) (h : SimA tas was) : SimE (tCall (spW true n f) [] E0 (tCons (tVar i) tas)) (wCallB i f was) := by
  show SimE _ (wFz (wCallBT i f was))
  exact sim_fz (sim_callBT hn h)
end
end Cg

set_option Elab.async false
set_option linter.all false
set_option maxRecDepth 100000
set_option maxHeartbeats 1000000
namespace Cg
open PySem PySem.Spec PyProof.Rows L2 Evl
section
variable {ta tb te : TE} {wa wb we : WE} {wt : WT} {t : TT} {w : WB} {ts us : TS} {ws wu : WS} {tas : TA} {was : WA} {c : Base} {bs F A B : List Addr} {σ : L2.St} {H H1 : Hp} {ε : Env} {N N1 : Nat} {v : V} {x : T}
/-! ### several names at once -/
def setsV : List Nat → List V → L2.St → L2.St
  | i :: is, v :: vs, σ => setsV is vs (σ.set i (some v))
  | _, _, σ => σ
def setsE : List Nat → List T → Env → Env
  | i :: is, t :: ts, ε => setsE is ts (ε.set i (.is t))
  | _, _, ε => ε
theorem Rel.puts : ∀ {is : List Nat} {vs : List V} {ts : List T} {A F : List Addr} {σ : L2.St} {ε : Env}, Rel c bs F σ H ε N → RepL bs H vs ts A → A.Nodup → (∀ a ∈ A, a ∈ bs ∧ a ∉ F ∧ c.P a = none ∧ a ∉ c.bs0) → ∃ F', Rel c bs F' (setsV is vs σ) H (setsE is ts ε) N
  | [], _, _, _, F, _, _, r, _, _, _ => by
    unfold setsV setsE
    exact ⟨F, r⟩
  | i :: is, _, _, _, F, _, _, r, .nil, _, _ => ⟨F, r⟩
  | i :: is, _, _, _, F, _, _, r, .cons (A := A1) (B := A2) h1 k1, nd, hA => by
    obtain ⟨n1, n2, n3⟩ := List.nodup_append.mp nd
    obtain ⟨F1, r2, m2⟩ := r.put (i := i) h1 n1 fun a ha => hA a (List.mem_append_left _ ha)
    have := Rel.puts (is := is) r2 k1 n2 fun a ha => by
      obtain ⟨f1, f2, f3⟩ := hA a (List.mem_append_right _ ha)
      refine ⟨f1, fun z => ?_, f3⟩
      cases m2 a z with
      | inl h => exact f2 h
      | inr h => exact n3 a h a ha rfl
    exact this
def wParN (is : List Nat) (wts : WTs) : WS := fun D ε N => wts ε N fun ts N' => ts.length = is.length ∧ D.nx (setsE is ts ε) N'
theorem par_core {is : List Nat} {vs : List V} {ts : List T} {H' : Hp} {N' : Nat} (r : Rel c bs F σ H ε N) (o : Out c H H' N') (n : NwL bs A H H' vs ts) : ∃ F', Rel c (A ++ bs) F' (setsV is vs σ) H' (setsE is ts ε) N' :=
  (r.hide o n.new n.rep.own).puts n.rep n.nd fun a ha => nw_fact r (n.new a ha) ha
theorem two_of {vs : List V} (h : vs.length = 2) : ∃ v u, vs = [v, u] := by
  match vs, h with
  | [v, u], _ => exact ⟨v, u, rfl⟩
theorem sim_par2 {i j : Nat} {wts : WTs} (h : SimTs tas wts) : SimS (tPar i j tas) (wParN [i, j] wts) := fun {c bs F σ H ε N DW D} r w m => h r w fun vs ts A N' H' hR o n => by
  obtain ⟨v, u, rfl⟩ := two_of (n.rep.len.trans hR.1)
  obtain ⟨F', r'⟩ := par_core (is := [i, j]) r o n
  exact ⟨v, u, rfl, m.nx r' hR.2⟩
/-- by a tuple that is laid and taken apart -/
theorem NwL.ext {vs : List V} {ts : List T} {H2 : Hp} (r : Rel c bs F σ H ε N) (o : Out c H H1 N1) (n : NwL bs A H H1 vs ts) (e : Same H1 H2) : NwL bs A H H2 vs ts := ⟨RepL.chg (r.hide o n.new n.rep.own).nt (same_hid e) (fun a _ x h => e a x h) n.rep, n.nd, n.new⟩
theorem sim_parG2 {K : PySem.W.Frag} {i j : Nat} {wts : WTs} (h : SimTs tas wts) : SimS (tAsg (tTup tas) (gTup K 2 (gCons (gName i) (gCons (gName j) gNil)))) (wParN [i, j] wts) := fun {c bs F σ H ε N DW D} r w m => h r w fun vs ts A N' H' hR o n => by
  obtain ⟨v, u, rfl⟩ := two_of (n.rep.len.trans hR.1)
  refine ⟨by show 2 ≤ _; decide, fun p np => ⟨p, _, rfl, SqT.of upd_same, rfl, v, _, rfl, u, _, rfl, rfl, ?_⟩⟩
  obtain ⟨F', r'⟩ := par_core (is := [i, j]) r (o.ext (Ex.new (o := .tup [v, u]) np)) (n.ext r o (Ex.new np))
  exact m.nx r' hR.2
/-! ### truth -/
def truD : PyData → Option Bool
  | .none => some false
  | .bool b => some b
  | .int i => some (i != 0)
  | .list a => some (!a.isEmpty)
  | .tuple a => some (!a.isEmpty)
  | _ => none
def wTru (we : WE) : WB := fun ε N R => we ε N fun d N1 => match truD d with
  | some b => R b N1
  | none => False
theorem isEmpty_dq {xs : List V} {ds : List PyData} (h : DqAll H xs ds) : xs.isEmpty = ds.isEmpty := by
  cases h <;> rfl
theorem sim_tru {K : PySem.W.Frag} (h : SimE te we) : SimB (fun σ H Q => te σ H fun x H' => ∃ k, TruV K x H' k ∧ Q k H') (wTru we) := fun r w q => h r w fun v d N1 H1 w1 o1 hd => by
  cases hd <;> first | exact False.elim w1 | skip
  · exact ⟨_, rfl, q _ N1 H1 w1 o1⟩
  · exact ⟨_, rfl, q _ N1 H1 w1 o1⟩
  · exact ⟨_, rfl, q _ N1 H1 w1 o1⟩
  · rename_i a xs ds e1 h1
    exact ⟨!xs.isEmpty, .inl ⟨xs, SqL.of (hid_some e1).2, rfl⟩, by rw [isEmpty_dq h1]; exact q _ N1 H1 w1 o1⟩
  · rename_i a xs ds e1 h1
    exact ⟨!xs.isEmpty, .inr (.inl ⟨xs, SqT.of (hid_some e1).2, rfl⟩), by rw [isEmpty_dq h1]; exact q _ N1 H1 w1 o1⟩
end
/-! ### draws -/
def w_take : WF := fun ds N R => match ds with
  | [.int m] => (1 ≤ m ∧ m ≤ 10000000 ∧ N ≤ 1000000000) ∧ ∀ k : Nat, (k : Int) < m → R (.sh (.int (k : Int))) (N + 1)
  | _ => False
theorem w_take_len {ds : List PyData} {N : Nat} {R : T → Nat → Prop} (h : w_take ds N R) : ds.length = 1 := by
  unfold w_take at h
  split at h
  · rfl
  · exact h.elim
theorem sp_take {vs : List V} {H : Hp} {Q : VK} {E : XK} (h : spW true 1 w_take vs H Q E) : spTake vs H Q E := by
  obtain ⟨b, bs, us, ds, N, R, rfl, hb, hu, hsub, lv, nt, bx, hd, hw, q⟩ := h
  match b, hb with
  | [a], _ =>
    unfold w_take at hw
    split at hw
    · rename_i m
      obtain ⟨v, rfl, hv⟩ := dq1 hd
      cases hv
      obtain ⟨⟨h1, h2, h3⟩, hk⟩ := hw
      refine ⟨a, m, N, rfl, bx a (List.mem_singleton.mpr rfl), h3, h1, h2, fun k H' k0 k1 hB kp => ?_⟩
      have e : k = ((k.toNat : Nat) : Int) := by omega
      rw [e]
      refine q _ _ [] (N + 1) H' (hk k.toNat (by omega)) kp (fun x hx => ?_) (Nw.sh (.int _))
      rw [List.mem_singleton.mp hx]
      exact hB
    · exact hw.elim
/-! ### alike, kind by kind -/
def w_same (n : Nat) : WF := fun ds N R => match ds with
  | [d, e] => d = e ∧ Okn n d ∧ R (.sh (.bool true)) N
  | _ => False
/-! ### the law's one turn, and the law -/
def spLaw (K : PySem.W.Frag) : Sp := fun vs H Q _ => ∃ (a : Addr) (ns : List Int), vs = [.ref a] ∧ SqL K H a (ns.map V.int) ∧ ns.length ≤ 63 ∧ ∀ H', Q (.bl true) H'
/-- the built-ins that the text asks are the built-ins still -/
structure Bm (mg : Str → Option Value) : Prop where
  int : mg "int" = none
  bool : mg "bool" = none
  list : mg "list" = none
  tuple : mg "tuple" = none
  str : mg "str" = none
  len : mg "len" = none
  all : mg "all" = none
  isinstance : mg "isinstance" = none
  range : mg "range" = none
  enumerate : mg "enumerate" = none
  zip : mg "zip" = none
  repr : mg "repr" = none
  abs : mg "abs" = none
  min : mg "min" = none
  max : mg "max" = none
  divmod : mg "divmod" = none
  sum : mg "sum" = none
  sorted : mg "sorted" = none
  any : mg "any" = none
  set : mg "set" = none
  reversed : mg "reversed" = none
  dict : mg "dict" = none
theorem Bm.bl {mg : Str → Option Value} (B : Bm mg) : Bl mg := ⟨B.int, B.bool, B.list, B.tuple, B.str, B.len, B.all, B.isinstance, B.range, B.enumerate, B.zip, B.repr, B.abs, B.min, B.max, B.divmod⟩
section
variable {X : Cx}
theorem ixSK (K : PySem.W.Frag) (hK : X.K = K := by rfl) : IxR X (rIx K) := by subst hK; exact ix_seq
theorem pt_truthK (K : PySem.W.Frag) {a : Expr} {ta : TE} (ha : PE X a ta) (he : ∀ whole, isTrue a X.env whole = (do let v ← whole; standAt a.pos; holding [v] (truthy v))) (hK : X.K = K := by rfl) : PT X a (fun σ H Q => ta σ H fun x H' => ∃ k, TruV K x H' k ∧ Q k H') := by subst hK; exact pt_truth ha he
end
end Cg

set_option Elab.async false
set_option linter.all false
set_option maxRecDepth 100000
set_option maxHeartbeats 1000000
namespace Cg
open PySem PySem.Spec PyProof.Rows L2 Evl
/-! ### equations for reckoning -/
section
variable {ε : Env} {N : Nat} {R : PyData → Nat → Prop} {S : PyData → Prop} {d e : PyData} {i : Nat} {t : T} {D : EW} {ts : List T} {a b : List PyData} {x y : Int} {p q : Bool} {kd : Bool}
def atSh (o : Option Sl) (k : PyData → Prop) : Prop := match o with
  | some (.is (.sh d)) => k d
  | some (.is (.shr _ d)) => k d
  | _ => False
def atIs (o : Option Sl) (k : T → Prop) : Prop := match o with
  | some (.is t) => k t
  | _ => False
def atOwn (o : Option Sl) (k : List T → Prop) : Prop := match o with
  | some (.is (.lst ts)) => k ts
  | _ => False
def atBox (o : Option Sl) : Prop := match o with
  | some .box => True
  | _ => False
def bIf (b : Bool) (A B : Prop) : Prop := match b with
  | true => A
  | false => B
def dBool (d : PyData) (k : Bool → Prop) : Prop := match d with
  | .bool b => k b
  | _ => False
def dInt (d : PyData) (k : Int → Prop) : Prop := match d with
  | .int b => k b
  | _ => False
def dTup (d : PyData) (k : List PyData → Prop) : Prop := match d with
  | .tuple b => k b
  | _ => False
def dList (d : PyData) (k : List PyData → Prop) : Prop := match d with
  | .list b => k b
  | _ => False
def dSeq (d : PyData) (k : List PyData → Prop) : Prop := match seqOf d with
  | some ds => k ds
  | none => False
def dTru (d : PyData) (k : Bool → Prop) : Prop := match truD d with
  | some b => k b
  | none => False
def dCons (ds : List PyData) (k : PyData → List PyData → Prop) : Prop := match ds with
  | d :: r => k d r
  | [] => False
section
variable {k : PyData → Prop} {kt : T → Prop} {kl : List T → Prop} {kb : Bool → Prop} {ki : Int → Prop} {kd' : List PyData → Prop} {A B : Prop}
theorem atSh_is : atSh (some (.is (.sh d))) k = k d := propext Iff.rfl
theorem atIs_is : atIs (some (.is t)) kt = kt t := propext Iff.rfl
theorem atOwn_is : atOwn (some (.is (.lst ts))) kl = kl ts := propext Iff.rfl
theorem atBox_is : atBox (some .box) = True := propext Iff.rfl
theorem bIf_t : bIf true A B = A := propext Iff.rfl
theorem bIf_f : bIf false A B = B := propext Iff.rfl
theorem bIf_not : bIf (!p) A B = bIf p B A := by cases p <;> exact propext Iff.rfl
theorem bIf_of (h : p = true → A) (h' : p = false → B) : bIf p A B := by cases p with | true => exact h rfl | false => exact h' rfl
theorem bIf_dec {Q : Prop} [Decidable Q] (h : Q → A) (h' : ¬ Q → B) : bIf (decide Q) A B := bIf_of (fun e => h (of_decide_eq_true e)) fun e => h' (of_decide_eq_false e)
theorem bIf_beq (h : x = y → A) (h' : x ≠ y → B) : bIf (x == y) A B := bIf_of (fun e => h (eq_of_beq e)) fun e => h' (fun z => by rw [z, beq_self_eq_true] at e; cases e)
theorem dBool_is : dBool (.bool p) kb = kb p := propext Iff.rfl
theorem dInt_is : dInt (.int x) ki = ki x := propext Iff.rfl
theorem dTup_is : dTup (.tuple a) kd' = kd' a := propext Iff.rfl
theorem dList_is : dList (.list a) kd' = kd' a := propext Iff.rfl
theorem dSeq_list : dSeq (.list a) kd' = kd' a := propext Iff.rfl
theorem dSeq_tup : dSeq (.tuple a) kd' = kd' a := propext Iff.rfl
theorem dSeq_seq : dSeq (seqD kd a) kd' = kd' a := by cases kd <;> exact propext Iff.rfl
theorem dTru_none : dTru .none kb = kb false := propext Iff.rfl
theorem dTru_bool : dTru (.bool p) kb = kb p := propext Iff.rfl
theorem dTru_int : dTru (.int x) kb = kb (x != 0) := propext Iff.rfl
theorem dTru_list : dTru (.list a) kb = kb (!a.isEmpty) := propext Iff.rfl
theorem dTru_tup : dTru (.tuple a) kb = kb (!a.isEmpty) := propext Iff.rfl
theorem dCons_is {kc : PyData → List PyData → Prop} : dCons (d :: a) kc = kc d a := propext Iff.rfl
end
section
variable {RT : T → Nat → Prop} {RA : List PyData → Nat → Prop} {RB : Bool → Nat → Prop} {RO : Option Int → Nat → Prop} {RTs : List T → Nat → Prop} {RG : Env → Prop} {we wa wb wc : WE} {wt wu : WT} {wts : WTs} {was : WA} {ws wv : WS} {w w' : WB} {wo wo' : WO} {wg : WG} {wgs : WGs} {o o' : O2} {o1 : O1} {oc : OC} {on : PyData → PyData → (List PyData → Prop) → Prop} {ocn : List PyData → (List PyData → Prop) → Prop} {f : WF} {is : List Nat} {j : Nat} {g : PyData → Bool}
theorem wVar_eq : wVar i ε N R = atSh ε[i]? fun d => R d N := propext Iff.rfl
theorem wC_eq : wC d ε N R = R d N := propext Iff.rfl
theorem wRetV_eq : wRetV i D ε N = atIs ε[i]? fun t => D.rt t N := propext Iff.rfl
theorem wFrz_eq : wFrz i ws D ε N = atIs ε[i]? fun t => ws D (ε.set i (.is (.sh t.data))) N := propext Iff.rfl
theorem isBox_eq : (isBox ε i = true) = atBox ε[i]? := by
  unfold isBox atBox
  cases ε[i]? with
  | none => exact propext ⟨(fun h => nomatch h), fun h => h.elim⟩
  | some l => cases l with
    | no => exact propext ⟨(fun h => nomatch h), fun h => h.elim⟩
    | box => exact propext ⟨fun _ => True.intro, fun _ => rfl⟩
    | is t => exact propext ⟨(fun h => nomatch h), fun h => h.elim⟩
    | dic _ => exact propext ⟨(fun h => nomatch h), fun h => h.elim⟩
    | dcF _ => exact propext ⟨(fun h => nomatch h), fun h => h.elim⟩
    | pin _ => exact propext ⟨(fun h => nomatch h), fun h => h.elim⟩
theorem onOwn_eq {k : List T → Env → Nat → Prop} : onOwn i k ε N = atOwn ε[i]? fun ts => k ts ε N := by
  unfold onOwn ownL atOwn
  cases ε[i]? with
  | none => rfl
  | some l => cases l with
    | no => rfl
    | box => rfl
    | is t => cases t <;> rfl
    | dic _ => rfl
    | dcF _ => rfl
    | pin _ => rfl
theorem wNil_eq : wNil ε N RA = RA [] N := propext Iff.rfl
theorem wCons_eq : wCons we was ε N RA = we ε N fun d N1 => was ε N1 fun ds N2 => RA (d :: ds) N2 := propext Iff.rfl
theorem wOp_eq : wOp o wa wb ε N R = wa ε N fun d N1 => wb ε N1 fun e N2 => o d e fun f => R f N2 := propext Iff.rfl
theorem wOpT_eq : wOpT on wa wb ε N RT = wa ε N fun d N1 => wb ε N1 fun e N2 => on d e fun ds => RT (.lst (ds.map T.sh)) N2 := propext Iff.rfl
theorem wUn_eq : wUn o1 wa ε N R = wa ε N fun d N1 => o1 d fun f => R f N1 := propext Iff.rfl
theorem wCb_eq : wCb oc was ε N R = was ε N fun ds N1 => oc ds fun f => R f N1 := propext Iff.rfl
theorem wCbT_eq : wCbT ocn was ε N RT = was ε N fun ds N1 => ocn ds fun es => RT (.lst (es.map T.sh)) N1 := propext Iff.rfl
theorem wTest_eq : wTest we ε N RB = we ε N fun d N1 => dBool d fun b => RB b N1 := propext Iff.rfl
theorem wTru_eq : wTru we ε N RB = we ε N fun d N1 => dTru d fun b => RB b N1 := propext Iff.rfl
theorem wYes_eq : wYes ε N RB = RB true N := propext Iff.rfl
theorem wNot_eq : wNot w ε N RB = w ε N fun b N1 => RB (!b) N1 := propext Iff.rfl
theorem wAnd_eq : wAnd w w' ε N RB = w ε N fun b N1 => bIf b (w' ε N1 RB) (RB false N1) := propext Iff.rfl
theorem wOr_eq : wOr w w' ε N RB = w ε N fun b N1 => bIf b (RB true N1) (w' ε N1 RB) := propext Iff.rfl
theorem wAndV_eq : wAndV wa wb ε N R = wa ε N fun d N1 => dBool d fun b => bIf b (wb ε N1 R) (R (.bool false) N1) := by
  refine congrArg (wa ε N) (funext fun d => funext fun N1 => ?_)
  cases d <;> first | rfl | skip
  rename_i b
  cases b <;> rfl
theorem wOrV_eq : wOrV wa wb ε N R = wa ε N fun d N1 => dBool d fun b => bIf b (R (.bool true) N1) (wb ε N1 R) := by
  refine congrArg (wa ε N) (funext fun d => funext fun N1 => ?_)
  cases d <;> first | rfl | skip
  rename_i b
  cases b <;> rfl
theorem wNotV_eq : wNotV wa ε N R = wa ε N fun d N1 => dBool d fun b => R (.bool !b) N1 := propext Iff.rfl
theorem wIf_eq : wIf w wa wb ε N R = w ε N fun b N1 => bIf b (wa ε N1 R) (wb ε N1 R) := propext Iff.rfl
theorem wIfT_eq : wIfT w wt wu ε N RT = w ε N fun b N1 => bIf b (wt ε N1 RT) (wu ε N1 RT) := propext Iff.rfl
theorem wChain_eq : wChain o o' wa wb wc ε N R = wa ε N fun d N1 => wb ε N1 fun e N2 => o d e fun f => dBool f fun b => bIf b (wc ε N2 fun g N3 => o' e g fun f => R f N3) (R (.bool false) N2) := by
  refine congrArg (wa ε N) (funext fun d => funext fun N1 => congrArg (wb ε N1) (funext fun e => funext fun N2 => congrArg (o d e) (funext fun f => ?_)))
  cases f <;> first | rfl | skip
  rename_i b
  cases b <;> rfl
theorem wLst_eq : wLst was ε N R = was ε N fun ds N1 => ds.length ≤ 100000 ∧ R (.list ds) N1 := propext Iff.rfl
theorem wTup_eq : wTup was ε N R = was ε N fun ds N1 => ds.length ≤ 100000 ∧ R (.tuple ds) N1 := propext Iff.rfl
theorem wNilT_eq : wNilT ε N RTs = RTs [] N := propext Iff.rfl
theorem wConsT_eq : wConsT wt wts ε N RTs = wt ε N fun t N1 => wts ε N1 fun ts N2 => RTs (t :: ts) N2 := propext Iff.rfl
theorem wLstT_eq : wLstT wts ε N RT = wts ε N fun ts N1 => ts.length ≤ 100000 ∧ RT (.lst ts) N1 := propext Iff.rfl
theorem wTupT_eq : wTupT wts ε N RT = wts ε N fun ts N1 => ts.length ≤ 100000 ∧ RT (.tup ts) N1 := propext Iff.rfl
theorem wSh_eq : wSh we ε N RT = we ε N fun d N' => RT (.sh d) N' := propext Iff.rfl
theorem wFz_eq : wFz wt ε N R = wt ε N fun t N' => R t.data N' := propext Iff.rfl
theorem wVw_eq : wVw we ε N R = we (viewE ε) N fun d N' => imm d = true ∧ R d N' := propext Iff.rfl
theorem wVb_eq : wVb w ε N RB = w (viewE ε) N RB := propext Iff.rfl
theorem wVt_eq : wVt wt ε N RT = wt (viewE ε) N fun t N' => t.clean = true ∧ RT t N' := propext Iff.rfl
theorem view_nil : viewE [] = [] := by rw [viewE, List.map_nil]
theorem view_cons {l : Sl} : viewE (l :: ε) = l.view :: viewE ε := by rw [viewE, List.map_cons, viewE]
theorem view_no : Sl.view .no = .no := by unfold Sl.view; rfl
theorem view_box : Sl.view .box = .box := by unfold Sl.view; rfl
theorem view_is : Sl.view (.is t) = .is (.sh t.data) := by unfold Sl.view; rfl
theorem wCall_eq : wCall f was ε N R = was ε N fun ds N1 => f ds 0 fun t _ => R t.data N1 := propext Iff.rfl
theorem wCallT_eq : wCallT f was ε N RT = was ε N fun ds N1 => f ds 0 fun t _ => RT t N1 := propext Iff.rfl
theorem wCallB_eq : wCallB i f was ε N R = (isBox ε i = true ∧ was ε N fun ds N1 => f ds N1 fun t N2 => R t.data N2) := propext Iff.rfl
theorem wCallBT_eq : wCallBT i f was ε N RT = (isBox ε i = true ∧ was ε N fun ds N1 => f ds N1 RT) := propext Iff.rfl
theorem wIs_eq : wIs g wa ε N R = wa ε N fun d N1 => notI d = true ∧ R (.bool (g d)) N1 := propext Iff.rfl
theorem notI_none : notI .none = true := rfl
theorem notI_bool {b : Bool} : notI (.bool b) = true := rfl
theorem notI_int {i : Int} : notI (.int i) = true := rfl
theorem notI_str {x : Str} : notI (.str x) = true := rfl
theorem notI_list {ds : List PyData} : notI (.list ds) = true := rfl
theorem notI_tup {ds : List PyData} : notI (.tuple ds) = true := rfl
theorem notI_seq {k : Bool} {ds : List PyData} : notI (seqD k ds) = true := by cases k <;> rfl
theorem wNoPart_eq : wNoPart ε N RO = RO none N := propext Iff.rfl
theorem wPart_eq : wPart we ε N RO = we ε N fun d N1 => dInt d fun i => RO (some i) N1 := propext Iff.rfl
theorem wSl_eq : wSl we wo wo' ε N R = we ε N fun d N1 => wo ε N1 fun lo N2 => wo' ε N2 fun hi N3 => dList d fun a => R (.list (cutG a lo hi)) N3 := propext Iff.rfl
theorem wSlT_eq : wSlT we wo wo' ε N RT = we ε N fun d N1 => wo ε N1 fun lo N2 => wo' ε N2 fun hi N3 => dList d fun a => RT (.lst ((cutG a lo hi).map T.sh)) N3 := propext Iff.rfl
theorem wRevT_eq : wRevT we ε N RT = we ε N fun d N1 => dList d fun a => RT (.lst (a.reverse.map T.sh)) N1 := propext Iff.rfl
theorem wRgL_eq : wRgL we ε N RT = we ε N fun d N1 => dInt d fun n => (0 ≤ n ∧ n ≤ 100000) ∧ RT (.lst ((List.range n.toNat).map fun (k : Nat) => T.sh (.int (k : Int)))) N1 := propext Iff.rfl
theorem wSkip_eq : wSkip D ε N = D.nx ε N := propext Iff.rfl
theorem wBreak_eq : wBreak D ε N = D.bk ε N := propext Iff.rfl
theorem wCont_eq : wCont D ε N = D.ct ε N := propext Iff.rfl
theorem wSeq_eq : wSeq ws wv D ε N = ws (D.seq (wv D)) ε N := propext Iff.rfl
theorem seq_nx {k : Env → Nat → Prop} : (D.seq k).nx ε N = k ε N := propext Iff.rfl
theorem seq_rt {k : Env → Nat → Prop} : (D.seq k).rt t N = D.rt t N := propext Iff.rfl
theorem seq_bk {k : Env → Nat → Prop} : (D.seq k).bk ε N = D.bk ε N := propext Iff.rfl
theorem seq_ct {k : Env → Nat → Prop} : (D.seq k).ct ε N = D.ct ε N := propext Iff.rfl
theorem loop_nx {k : Env → Nat → Prop} : (D.loop k).nx ε N = k ε N := propext Iff.rfl
theorem loop_rt {k : Env → Nat → Prop} : (D.loop k).rt t N = D.rt t N := propext Iff.rfl
theorem loop_bk {k : Env → Nat → Prop} : (D.loop k).bk ε N = D.nx ε N := propext Iff.rfl
theorem loop_ct {k : Env → Nat → Prop} : (D.loop k).ct ε N = k ε N := propext Iff.rfl
theorem fn_nx {R : T → Nat → Prop} : (EW.fn R).nx ε N = R (.sh .none) N := propext Iff.rfl
theorem fn_rt {R : T → Nat → Prop} : (EW.fn R).rt t N = R t N := propext Iff.rfl
theorem wRet_eq : wRet wt D ε N = wt ε N fun t N' => D.rt t N' := propext Iff.rfl
theorem wRetN_eq : wRetN D ε N = D.rt (.sh .none) N := propext Iff.rfl
theorem wIfS_eq : wIfS w ws wv D ε N = w ε N fun b N1 => bIf b (ws D ε N1) (wv D ε N1) := propext Iff.rfl
theorem wAsgT_eq : wAsgT i wt D ε N = wt ε N fun t N' => D.nx (ε.set i (.is t)) N' := propext Iff.rfl
theorem wAsg_eq : wAsg we wg D ε N = we ε N fun d N' => wg d ε fun ε' => D.nx ε' N' := propext Iff.rfl
theorem wParN_eq : wParN is wts D ε N = wts ε N fun ts N' => ts.length = is.length ∧ D.nx (setsE is ts ε) N' := propext Iff.rfl
theorem setsE_cons {i : Nat} {is : List Nat} {t : T} {ts : List T} : setsE (i :: is) (t :: ts) ε = setsE is ts (ε.set i (.is t)) := by rw [setsE]
theorem setsE_nil : setsE [] ts ε = ε := by cases ts <;> rfl
theorem wDrop_eq : wDrop we D ε N = we ε N fun _ N' => D.nx ε N' := propext Iff.rfl
theorem wName_eq : wName i d ε RG = RG (ε.set i (.is (.sh d))) := propext Iff.rfl
theorem wGNil_eq : wGNil a ε RG = (a = [] ∧ RG ε) := propext Iff.rfl
theorem wGCons_eq : wGCons wg wgs a ε RG = dCons a fun d r => wg d ε fun ε' => wgs r ε' RG := propext Iff.rfl
theorem wGTup_eq : wGTup j wgs d ε RG = dTup d fun ds => ds.length = j ∧ wgs ds ε RG := propext Iff.rfl
theorem wApp_eq : wApp i wt D ε N = atOwn ε[i]? fun ts => wt ε N fun t N' => ts.length ≤ 100000 ∧ D.nx (ε.set i (.is (.lst (ts ++ [t])))) N' := onOwn_eq
theorem wRev_eq : wRev i D ε N = atOwn ε[i]? fun ts => D.nx (ε.set i (.is (.lst ts.reverse))) N := onOwn_eq
theorem wClr_eq : wClr i D ε N = atOwn ε[i]? fun ts => D.nx (ε.set i (.is (.lst []))) N := onOwn_eq
theorem wExt_eq : wExt i we D ε N = atOwn ε[i]? fun ts => we ε N fun d N' => dList d fun ds => ts.length + ds.length ≤ 100000 ∧ D.nx (ε.set i (.is (.lst (ts ++ ds.map T.sh)))) N' := onOwn_eq
theorem wSet_eq : wSet i we wt D ε N = atOwn ε[i]? fun ts => wt ε N fun t N1 => we ε N1 fun d N2 => dInt d fun k => ∃ j, ixN ts.length k = some j ∧ D.nx (ε.set i (.is (.lst (ts.set j t)))) N2 := onOwn_eq
theorem wPop_eq : wPop i we wg D ε N = atOwn ε[i]? fun ts => we ε N fun d N1 => dInt d fun k => (0 ≤ k ∧ k < ts.length ∧ k ≤ 1000000) ∧ ∃ d, ts[k.toNat]? = some (.sh d) ∧ wg d (ε.set i (.is (.lst (ts.eraseIdx k.toNat)))) fun ε' => D.nx ε' N1 := onOwn_eq
theorem wipe_nil : wipeE ε [] = ε := by rw [wipeE]
theorem wipe_cons : wipeE ε (i :: is) = (wipeE ε is).set i .no := by rw [wipeE]
theorem env0_f : env0 false a j = a.map (fun d => Sl.is (.sh d)) ++ List.replicate j Sl.no := by
  unfold env0
  rw [if_neg (by decide), List.nil_append]
theorem env0_t : env0 true a j = Sl.box :: (a.map (fun d => Sl.is (.sh d)) ++ List.replicate j Sl.no) := by
  unfold env0
  rw [if_pos rfl]
  rfl
end
theorem oI_int {C : Int → Int → Prop} {g : Int → Int → PyData} : oI C g (.int x) (.int y) S = (C x y ∧ S (g x y)) := propext Iff.rfl
theorem oI0_int {g : Int → Int → PyData} : oI0 g (.int x) (.int y) S = S (g x y) := propext Iff.rfl
theorem oAdd_int : oAdd (.int x) (.int y) S = S (.int (x + y)) := propext Iff.rfl
theorem oAdd_list : oAdd (.list a) (.list b) S = (a.length + b.length ≤ 1000000 ∧ S (.list (a ++ b))) := propext Iff.rfl
theorem oMul_int : oMul (.int x) (.int y) S = (CMul x y ∧ S (.int (x * y))) := propext Iff.rfl
theorem oMul_list : oMul (.list a) (.int x) S = ((0 ≤ x ∧ x ≤ 1000000 ∧ a.length * x.toNat ≤ 1000000) ∧ S (.list (List.replicate x.toNat a).flatten)) := propext Iff.rfl
theorem oNeg_int : oNeg (.int x) S = S (.int (-x)) := propext Iff.rfl
theorem oEq_int : oEq (.int x) (.int y) S = S (.bool (x == y)) := propext Iff.rfl
theorem oEq_bool : oEq (.bool p) (.bool q) S = S (.bool (p == q)) := propext Iff.rfl
theorem oEq_nn : oEq .none .none S = S (.bool true) := propext Iff.rfl
theorem oEq_in : oEq (.int x) .none S = S (.bool false) := propext Iff.rfl
theorem oEq_ni : oEq .none (.int x) S = S (.bool false) := propext Iff.rfl
theorem oNe_int : oNe (.int x) (.int y) S = S (.bool (!(x == y))) := propext Iff.rfl
theorem oNe_bool : oNe (.bool p) (.bool q) S = S (.bool (!(p == q))) := propext Iff.rfl
theorem oNe_nn : oNe .none .none S = S (.bool false) := propext Iff.rfl
theorem oNe_in : oNe (.int x) .none S = S (.bool true) := propext Iff.rfl
theorem oNe_ni : oNe .none (.int x) S = S (.bool true) := propext Iff.rfl
theorem oEq_list : oEq (.list a) (.list b) S = (SeqAt.shaped (.list a) = true ∧ SeqAt.shaped (.list b) = true ∧ S (.bool (PyData.eqv (.list a) (.list b)))) := propext Iff.rfl
theorem oNe_list : oNe (.list a) (.list b) S = (SeqAt.shaped (.list a) = true ∧ SeqAt.shaped (.list b) = true ∧ S (.bool (!PyData.eqv (.list a) (.list b)))) := propext Iff.rfl
theorem oEq_tup : oEq (.tuple a) (.tuple b) S = (SeqAt.shaped (.tuple a) = true ∧ SeqAt.shaped (.tuple b) = true ∧ S (.bool (PyData.eqv (.tuple a) (.tuple b)))) := propext Iff.rfl
theorem oNe_tup : oNe (.tuple a) (.tuple b) S = (SeqAt.shaped (.tuple a) = true ∧ SeqAt.shaped (.tuple b) = true ∧ S (.bool (!PyData.eqv (.tuple a) (.tuple b)))) := propext Iff.rfl
theorem oEq_str {u v : Str} : oEq (.str u) (.str v) S = S (.bool (u == v)) := propext Iff.rfl
theorem oNe_str {u v : Str} : oNe (.str u) (.str v) S = S (.bool (!(u == v))) := propext Iff.rfl
theorem oIx_list : oIx (.list a) (.int x) S = ∃ d, atI a x = some d ∧ S d := propext Iff.rfl
theorem oIx_tup : oIx (.tuple a) (.int x) S = ∃ d, atI a x = some d ∧ S d := propext Iff.rfl
theorem oIx_seq : oIx (seqD kd a) (.int x) S = ∃ d, atI a x = some d ∧ S d := by cases kd <;> exact propext Iff.rfl
theorem oLen_list : oLen [.list a] S = S (.int a.length) := propext Iff.rfl
theorem oLen_tup : oLen [.tuple a] S = S (.int a.length) := propext Iff.rfl
theorem oLen_seq : oLen [seqD kd a] S = S (.int a.length) := by cases kd <;> exact propext Iff.rfl
theorem oInt_int : oInt [.int x] S = S (.int x) := propext Iff.rfl
theorem oInt_bool : oInt [.bool p] S = S (.int (if p then 1 else 0)) := propext Iff.rfl
theorem oAbs_int : oAbs [.int x] S = S (.int (if x < 0 then -x else x)) := propext Iff.rfl
theorem oMin2_int : oMin2 [.int x, .int y] S = S (.int (if y < x then y else x)) := propext Iff.rfl
theorem oMax2_int : oMax2 [.int x, .int y] S = S (.int (if y > x then y else x)) := propext Iff.rfl
theorem oAll_is {bs : List Bool} : oAll [.list (bs.map PyData.bool)] S = S (.bool (bs.all id)) := by
  show (match boolsOf (bs.map PyData.bool) with | some bs => S (.bool (bs.all id)) | none => False) = _
  rw [boolsOf_map]
theorem oSum_is {ns : List Int} : oSum [.list (ns.map PyData.int)] S = S (.int ns.sum) := by
  show (match intsOf (ns.map PyData.int) with | some ns => S (.int ns.sum) | none => False) = _
  rw [intsOf_map]
theorem oListD_list : oListD [.list a] S = S (.list a) := propext Iff.rfl
theorem oListD_tup : oListD [.tuple a] S = S (.list a) := propext Iff.rfl
theorem oListD_seq : oListD [seqD kd a] S = S (.list a) := by cases kd <;> exact propext Iff.rfl
theorem oTuple_list : oTuple [.list a] S = S (.tuple a) := propext Iff.rfl
theorem oTuple_tup : oTuple [.tuple a] S = S (.tuple a) := propext Iff.rfl
theorem oTuple_seq : oTuple [seqD kd a] S = S (.tuple a) := by cases kd <;> exact propext Iff.rfl
theorem oRepr_is : oRepr [d] S = ((okD d = true ∧ d.depth ≤ 40 ∧ wz d ≤ 1000000) ∧ S (.str d.shown)) := propext Iff.rfl
theorem oIs_none : oIs d .none S = S (.bool (isNone d)) := by
  show (isNone .none = true ∧ _) = _
  exact propext ⟨fun h => h.2, fun h => ⟨rfl, h⟩⟩
theorem oIsNot_none : oIsNot d .none S = S (.bool (!isNone d)) := by
  show (isNone .none = true ∧ _) = _
  exact propext ⟨fun h => h.2, fun h => ⟨rfl, h⟩⟩
theorem oIn_list {neg : Bool} {ns : List Int} : oIn neg (.int x) (.list (ns.map PyData.int)) S = S (.bool (if neg then !ns.contains x else ns.contains x)) := by
  show (match intsOf (ns.map PyData.int) with | some ns => S (.bool (if neg then !ns.contains x else ns.contains x)) | none => False) = _
  rw [intsOf_map]
theorem oIn_seq {neg : Bool} {ns : List Int} : oIn neg (.int x) (seqD kd (ns.map PyData.int)) S = S (.bool (if neg then !ns.contains x else ns.contains x)) := by
  cases kd
  · show (match intsOf (ns.map PyData.int) with | some ns => S (.bool (if neg then !ns.contains x else ns.contains x)) | none => False) = _
    rw [intsOf_map]
  · exact oIn_list
variable {SL : List PyData → Prop}
theorem oList_list : oList [.list a] SL = SL a := propext Iff.rfl
theorem oList_tup : oList [.tuple a] SL = SL a := propext Iff.rfl
theorem oList_seq : oList [seqD kd a] SL = SL a := by cases kd <;> exact propext Iff.rfl
theorem oCat_list : oCat (.list a) (.list b) SL = (a.length + b.length ≤ 1000000 ∧ SL (a ++ b)) := propext Iff.rfl
theorem oRep_list : oRep (.list a) (.int x) SL = ((0 ≤ x ∧ x ≤ 1000000 ∧ a.length * x.toNat ≤ 1000000) ∧ SL (List.replicate x.toNat a).flatten) := propext Iff.rfl
theorem w_take_is {RT : T → Nat → Prop} {m : Int} : w_take [.int m] N RT = ((1 ≤ m ∧ m ≤ 10000000 ∧ N ≤ 1000000000) ∧ ∀ k : Nat, (k : Int) < m → RT (.sh (.int (k : Int))) (N + 1)) := propext Iff.rfl
theorem w_same_is {n : Nat} {RT : T → Nat → Prop} : w_same n [d, e] N RT = (d = e ∧ Okn n d ∧ RT (.sh (.bool true)) N) := propext Iff.rfl
theorem atI_l0 {α : Type} {u : α} {l : List α} : atI (u :: l) 0 = some u := atI_nat (j := 0) rfl
theorem atI_l1 {α : Type} {u v : α} {l : List α} : atI (u :: v :: l) 1 = some v := atI_nat (j := 1) rfl
theorem atI_l2 {α : Type} {u v w : α} {l : List α} : atI (u :: v :: w :: l) 2 = some w := atI_nat (j := 2) rfl
theorem atI_int {ns : List Int} {j : Nat} (h : j < ns.length) : atI (ns.map PyData.int) (j : Int) = some (.int (ns.getD j 0)) := by
  refine atI_nat ?_
  rw [List.getElem?_map, List.getD_eq_getElem?_getD, List.getElem?_eq_getElem h]
  rfl
/-! ### loops -/
variable {we : WE} {wg : WG} {wb : WS}
/-- for k in range(n) -/
theorem for_r1 {n : Nat} (I : Nat → Env → Nat → Prop) (he : ∀ R, R (.int (n : Int)) N → we ε N R) (hn : n ≤ 1000000) (h0 : I 0 ε N) (hs : ∀ k ε M, k < n → I k ε M → wg (.int (k : Int)) ε fun ε2 => wb (D.loop (I (k + 1))) ε2 M) (hd : ∀ ε M, I n ε M → D.nx ε M) : wFor (wRng1 we) wg wb D ε N := by
  refine he _ ?_
  have toN : ((n : Int)).toNat = n := by omega
  refine ⟨⟨by omega, by omega⟩, I, h0, fun k d ε M hd' hI => ?_, fun ε M hI => hd ε M ?_⟩
  · obtain ⟨hk, rfl⟩ := rng_get hd'
    rw [toN] at hk
    have := hs k ε M hk hI
    rw [Int.zero_add]
    exact this
  · rw [rngD_len, toN] at hI
    exact hI
/-- for k, x in enumerate(a list) -/
theorem for_en {ds : List PyData} (I : Nat → Env → Nat → Prop) (he : ∀ R, R d N → we ε N R) (hd0 : seqOf d = some ds) (h0 : I 0 ε N) (hs : ∀ k x ε M, ds[k]? = some x → I k ε M → wg (.tuple [.int (k : Nat), x]) ε fun ε2 => wb (D.loop (I (k + 1))) ε2 M) (hd : ∀ ε M, I ds.length ε M → D.nx ε M) : wFor (wEnum we) wg wb D ε N := by
  refine he _ ?_
  show (match seqOf d with | some ds => _ | none => False)
  rw [hd0]
  refine ⟨I, h0, fun k x ε M hx hI => ?_, fun ε M hI => hd ε M (by rw [enumD_len] at hI; exact hI)⟩
  have hk : k < ds.length := by
    have := (List.getElem?_eq_some_iff.mp hx).1
    rw [enumD_len] at this
    exact this
  have hy := List.getElem?_eq_getElem hk
  rw [enumD_at hy] at hx
  have e := Option.some.inj hx
  subst e
  exact hs k _ ε M hy hI
/-! ### comprehensions -/
variable {wt : WB} {w : WE} {vs : List Nat} {wT : WT} {RT : T → Nat → Prop}
/-- [e for k in range(n)], with draws: what holds so far -/
theorem lc_r1 {n : Nat} (I : Nat → List PyData → Nat → Prop) (he : ∀ R, R (.int (n : Int)) N → we ε N R) (hn : n ≤ 40000) (h0 : I 0 [] N) (hs : ∀ k es M, k < n → I k es M → wg (.int (k : Int)) (wipeE ε vs) fun ε2 => w ε2 M fun e M2 => I (k + 1) (es ++ [e]) M2) (hd : ∀ es M, I n es M → R (.list es) M) : wLc (wRng1 we) wg wYes w vs ε N R := by
  refine he _ ?_
  have toN : ((n : Int)).toNat = n := by omega
  refine ⟨⟨by omega, by omega⟩, by rw [rngD_len]; omega, I, h0, fun k d es M hd' hI => ?_, fun es M hI => hd es M ?_⟩
  · obtain ⟨hk, rfl⟩ := rng_get hd'
    rw [toN] at hk
    have := hs k es M hk hI
    rw [Int.zero_add]
    exact this
  · rw [rngD_len, toN] at hI
    exact hI
/-- [e for k in range(n)], nothing drawn -/
theorem lc_rp {n : Nat} (g : Nat → PyData) (he : ∀ R, R (.int (n : Int)) N → we ε N R) (hn : n ≤ 40000) (hs : ∀ k (R : PyData → Nat → Prop), k < n → R (g k) N → wg (.int (k : Int)) (wipeE ε vs) fun ε2 => w ε2 N R) (hd : R (.list ((List.range n).map g)) N) : wLc (wRng1 we) wg wYes w vs ε N R := by
  refine lc_r1 (fun k es M => es = (List.range k).map g ∧ M = N) he hn ⟨rfl, rfl⟩ (fun k es M hk hI => ?_) fun es M hI => ?_
  · obtain ⟨rfl, rfl⟩ := hI
    refine hs k _ hk ⟨?_, rfl⟩
    rw [List.range_succ, List.map_append]
    rfl
  · obtain ⟨rfl, rfl⟩ := hI
    exact hd
/-! ### data alike -/
/-- of few depths, to be compared -/
def Shp (n : Nat) (d : PyData) : Prop := d.canLay0 = true ∧ d.depth ≤ n
theorem Shp.shaped {n : Nat} (h : Shp n d) (hn : n ≤ 64) : SeqAt.shaped d = true := by
  show (d.canLay0 && decide (d.depth ≤ 64)) = true
  rw [h.1, decide_eq_true (Nat.le_trans h.2 hn)]
  rfl
theorem Shp.int {n : Nat} (x : Int) : Shp n (.int x) := ⟨rfl, Nat.zero_le _⟩
theorem Shp.bool {n : Nat} (x : Bool) : Shp n (.bool x) := ⟨rfl, Nat.zero_le _⟩
theorem Shp.none {n : Nat} : Shp n .none := ⟨rfl, Nat.zero_le _⟩
theorem lay_iff : ∀ {xs : List PyData}, PyData.canLayAll0 xs = true ↔ ∀ x ∈ xs, x.canLay0 = true
  | [] => ⟨(fun _ _ z => nomatch z), fun _ => rfl⟩
  | x :: r => by
    show (x.canLay0 && PyData.canLayAll0 r) = true ↔ _
    rw [Bool.and_eq_true, lay_iff (xs := r)]
    exact ⟨fun h y hy => (List.mem_cons.mp hy).elim (fun e => e ▸ h.1) (h.2 y), fun h => ⟨h x (List.mem_cons_self ..), fun y hy => h y (List.mem_cons_of_mem _ hy)⟩⟩
theorem Shp.list {n : Nat} {xs : List PyData} (h : ∀ x ∈ xs, Shp n x) : Shp (n + 1) (.list xs) := ⟨lay_iff.mpr fun x hx => (h x hx).1, by
  show PyData.depthAll xs + 1 ≤ n + 1
  exact Nat.add_le_add_right (depthAll_iff.mpr fun x hx => (h x hx).2) 1⟩
theorem Shp.tuple {n : Nat} {xs : List PyData} (h : ∀ x ∈ xs, Shp n x) : Shp (n + 1) (.tuple xs) := ⟨lay_iff.mpr fun x hx => (h x hx).1, by
  show PyData.depthAll xs + 1 ≤ n + 1
  exact Nat.add_le_add_right (depthAll_iff.mpr fun x hx => (h x hx).2) 1⟩
theorem Shp.up {n m : Nat} (h : Shp n d) (hm : n ≤ m) : Shp m d := ⟨h.1, Nat.le_trans h.2 hm⟩
theorem Shp.ints (ns : List Int) : Shp 1 (.list (ns.map PyData.int)) := Shp.list fun x hx => by
  obtain ⟨i, _, rfl⟩ := List.mem_map.mp hx
  exact Shp.int i
theorem Shp.self {n : Nat} (h : Shp n d) : PyData.eqv d d = true := PySem.SeqAt.eqv_refl d h.1
/-! ### data to be shown -/
def Rp (n b : Nat) (d : PyData) : Prop := okD d = true ∧ d.depth ≤ n ∧ wz d ≤ b
theorem Rp.int {x : Int} (h : x.natAbs < 1048576) : Rp 0 22 (.int x) := by
  have hl : x.natAbs.log2 < 20 := by
    by_cases h0 : x.natAbs = 0
    · rw [h0]; decide
    · exact (Nat.log2_lt h0).mpr h
  refine ⟨?_, Nat.le_refl _, ?_⟩
  · show decide (x.natAbs.log2 < 1920) = true
    exact decide_eq_true (by omega)
  · show x.natAbs.log2 + 2 ≤ 22
    omega
theorem Rp.list {n b m : Nat} {xs : List PyData} (h : ∀ x ∈ xs, Rp n b x) (hm : xs.length ≤ m) : Rp (n + 1) ((b + 2) * m + 3) (.list xs) := by
  refine ⟨okAll_iff.mpr fun x hx => (h x hx).1, ?_, ?_⟩
  · show PyData.depthAll xs + 1 ≤ n + 1
    exact Nat.add_le_add_right (depthAll_iff.mpr fun x hx => (h x hx).2.1) 1
  · show wzAll xs + 3 ≤ _
    have h1 := wzAll_le (R := b) fun x hx => (h x hx).2.2
    have h2 : (b + 2) * xs.length ≤ (b + 2) * m := Nat.mul_le_mul_left _ hm
    omega
theorem Rp.tuple {n b m : Nat} {xs : List PyData} (h : ∀ x ∈ xs, Rp n b x) (hm : xs.length ≤ m) : Rp (n + 1) ((b + 2) * m + 3) (.tuple xs) := by
  refine ⟨okAll_iff.mpr fun x hx => (h x hx).1, ?_, ?_⟩
  · show PyData.depthAll xs + 1 ≤ n + 1
    exact Nat.add_le_add_right (depthAll_iff.mpr fun x hx => (h x hx).2.1) 1
  · show wzAll xs + 3 ≤ _
    have h1 := wzAll_le (R := b) fun x hx => (h x hx).2.2
    have h2 : (b + 2) * xs.length ≤ (b + 2) * m := Nat.mul_le_mul_left _ hm
    omega
theorem Rp.seq {n b m : Nat} {xs : List PyData} (kd : Bool) (h : ∀ x ∈ xs, Rp n b x) (hm : xs.length ≤ m) : Rp (n + 1) ((b + 2) * m + 3) (seqD kd xs) := by
  cases kd
  · exact Rp.tuple h hm
  · exact Rp.list h hm
theorem Rp.up {n b n' b' : Nat} (h : Rp n b d) (hn : n ≤ n') (hb : b ≤ b') : Rp n' b' d := ⟨h.1, Nat.le_trans h.2.1 hn, Nat.le_trans h.2.2 hb⟩
theorem Rp.ok {n b : Nat} (h : Rp n b d) (hn : n ≤ 40) (hb : b ≤ 1000000) : okD d = true ∧ d.depth ≤ 40 ∧ wz d ≤ 1000000 := h.up hn hb
theorem Rp.ints {ns : List Int} {m : Nat} (h : ∀ x ∈ ns, x.natAbs < 1048576) (hm : ns.length ≤ m) : Rp 1 (24 * m + 3) (.list (ns.map PyData.int)) := Rp.list (fun x hx => by
  obtain ⟨i, hi, rfl⟩ := List.mem_map.mp hx
  exact Rp.int (h i hi)) (by rw [List.length_map]; exact hm)
/-! ### data of few depths -/
theorem Okn.int {n : Nat} {x : Int} : Okn (n + 1) (.int x) := True.intro
theorem Okn.none {n : Nat} : Okn (n + 1) .none := True.intro
theorem Okn.bool {n : Nat} {x : Bool} : Okn (n + 1) (.bool x) := True.intro
theorem Okn.str {n : Nat} {x : Str} : Okn (n + 1) (.str x) := True.intro
theorem Okn.list {n : Nat} {xs : List PyData} (h : ∀ x ∈ xs, Okn n x) (hl : xs.length ≤ 40000) : Okn (n + 1) (.list xs) := ⟨hl, h⟩
theorem Okn.tuple {n : Nat} {xs : List PyData} (h : ∀ x ∈ xs, Okn n x) (hl : xs.length ≤ 40000) : Okn (n + 1) (.tuple xs) := ⟨hl, h⟩
theorem all_cons {α : Type} {p : α → Prop} {u : α} {l : List α} (h : p u) (k : ∀ x ∈ l, p x) : ∀ x ∈ u :: l, p x := fun x hx => by
  rcases List.mem_cons.mp hx with e | hx
  · rw [e]; exact h
  · exact k x hx
theorem all_map {α β : Type} {p : β → Prop} {f : α → β} {l : List α} (h : ∀ x ∈ l, p (f x)) : ∀ y ∈ l.map f, p y := fun y hy => by
  obtain ⟨x, hx, rfl⟩ := List.mem_map.mp hy
  exact h x hx
end
end Cg

set_option Elab.async false
set_option linter.all false
set_option maxRecDepth 100000
set_option maxHeartbeats 1000000
namespace Cg
open PySem PySem.Spec PyProof.Rows L2 Evl
theorem FnG.imp {P : Program} {w : World} {K : PySem.W.Frag} {mg : Str → Option Value} {base : Heap} {k : Nat} {f : Addr} {fd : FuncData} {ps : List Str} {sp sp' : Sp} (F : FnG P w K mg base k f fd ps sp) (h : ∀ vs H Q E, sp' vs H Q E → sp vs H Q E) : FnG P w K mg base k f fd ps sp' :=
  ⟨fun vs H Q E q => F.len vs H Q E (h _ _ _ _ q), fun A outer s H args us vs Q E hg hr he hb hv hs => F.go A outer s H args us vs Q E hg hr he hb hv (h _ _ _ _ hs)⟩
theorem set_get_ne {σ : L2.St} {i j : Nat} {x : Option V} {y : Option V} (h : σ[i]? = some y) (hne : j ≠ i) : (σ.set j x)[i]? = some y := by rw [List.getElem?_set_ne hne]; exact h
theorem set_get_eq {σ : L2.St} {i : Nat} {x : Option V} (h : i < σ.length) : (σ.set i x)[i]? = some x := by rw [List.getElem?_set_self h]
/-- max(m, len(xs)) -/
theorem ev_maxN {K : PySem.W.Frag} {σ : L2.St} {H : Hp} {i m : Nat} {l : Addr} {xs : List V} (hs : σ[i]? = some (some (.ref l))) (hh : SqL K H l xs) :
    EvA (tCons (tCB (fun xs H Q => ∃ i j, xs = [V.int i, V.int j] ∧ Q (V.int (if j > i then j else i)) H) (tCons (tC (.int (m : Int))) (tCons (tCB (rLenS K) (tCons (tVar i) tNil)) tNil))) tNil) σ H [.int ((max m xs.length : Nat) : Int)] := by
  refine ea_cons (ev_is (ev_cb2 ev_c (ev_len (ev_var hs) hh) fun H1 Q q => ⟨_, _, rfl, q⟩) ?_) ea_nil
  split
  · rw [Nat.max_eq_right (by omega)]
  · rw [Nat.max_eq_left (by omega)]
end Cg

set_option Elab.async false
set_option linter.all false
set_option maxRecDepth 100000
set_option maxHeartbeats 1000000
namespace Cg
open PySem PySem.Spec PyProof.Rows L2 Evl
/-! ### zip of several rows into several names -/
end Cg

set_option Elab.async false
set_option linter.all false
set_option maxRecDepth 100000
set_option maxHeartbeats 1000000
namespace Cg
open PySem PySem.Spec PyProof.Rows L2 Evl
section
variable {ta tb tc te : TE} {wa wb wc we : WE} {t u : TT} {w w' : WB} {tas : TA} {was : WA} {c : Base} {bs F A B hs : List Addr} {σ : L2.St} {H H1 H2 H' : Hp} {ε : Env} {N N1 N2 N' : Nat} {vs vs1 : List Nat}
/-! ### one list changes, and the box -/
theorem Rel.outD {D : Addr} (r : Rel c (D :: bs) F σ H ε N) (hDF : D ∉ F) (hDb : D ∉ c.b) (hP : c.P D = none) (k : Keep (D :: c.b) H H') (hb : ∀ a ∈ c.b, Box H' a N') (hD : ∃ acc, H' D = some (.lst acc)) : Rel c (D :: bs) F σ H' ε N' := by
  have kb : Keep (D :: bs) H H' := k.more fun a ha => by
    rcases List.mem_cons.mp ha with rfl | ha
    · exact List.mem_cons_self ..
    · exact r.bin a ha
  have get : ∀ a o, a ≠ D → a ∉ c.b → H a = some o → H' a = some o := fun a o h1 h2 e => k.get (fun z => (List.mem_cons.mp z).elim h1 h2) e
  refine ⟨RelE.chg r.nt kb (fun a ha o e => get a o (fun z => hDF (z ▸ ha)) (r.fb a ha) e) r.env, r.nd, r.sub, r.off, r.nb, r.up, r.bb, r.offb, fun a ha => ?_, fun a ha xs z => ?_, hb, fun a o e => ?_, r.vis.trans kb⟩
  · by_cases h1 : a = D
    · obtain ⟨acc, e⟩ := hD
      rw [h1, e]
      exact fun z => nomatch z
    · by_cases h2 : a ∈ c.b
      · exact (hb a h2).is
      · cases e : H a with
        | none => exact absurd e (r.live a ha)
        | some o => rw [get a o h1 h2 e]; exact fun z => nomatch z
  · by_cases h1 : a = D
    · obtain ⟨acc, e⟩ := hD
      rw [h1, e] at z
      cases z
      trivial
    · by_cases h2 : a ∈ c.b
      · exact box_tup (hb a h2) z
      · cases e : H a with
        | none => exact (r.live a ha e).elim
        | some o =>
          rw [get a o h1 h2 e] at z
          exact r.nt a ha xs (e.trans z)
  · refine get a o (fun z => ?_) (fun z => ?_) (r.pin a o e)
    · rw [z, hP] at e; cases e
    · rw [r.offb a z] at e; cases e
theorem Rel.more {D : Addr} (r : Rel c bs F σ H ε N) (h : D ∉ F) (hb : D ∈ bs) : Rel { c with bs0 := D :: c.bs0 } bs F σ H ε N :=
  ⟨r.env, r.nd, r.sub, r.off, fun a ha z => (List.mem_cons.mp z).elim (fun e => h (e ▸ ha)) (r.nb a ha), fun a ha => (List.mem_cons.mp ha).elim (fun e => e ▸ hb) (r.up a), fun a ha => List.mem_cons_of_mem _ (r.bb a ha), r.offb, r.live, r.nt, r.box, r.pin, r.vis⟩
/-- [e for x in .. if .. for y in .. if ..] -/
def wLcT2 (wi : WI) (wg : WG) (wt : WB) (wi1 : WI) (wg1 : WG) (wt1 : WB) (w : WE) (vs vs1 : List Nat) : WT := fun ε N R => wi ε N fun ds N1 => ∃ I : Nat → List PyData → Nat → Prop, I 0 [] N1 ∧
  (∀ k d es M, ds[k]? = some d → I k es M → wg d (wipeE ε vs) fun ε2 => wt ε2 M fun b M2 => bIf b (wi1 ε2 M2 fun ds1 M3 => ∃ I1 : Nat → List PyData → Nat → Prop, I1 0 es M3 ∧
    (∀ j d1 es1 M4, ds1[j]? = some d1 → I1 j es1 M4 → wg1 d1 (wipeE ε2 vs1) fun ε3 => wt1 ε3 M4 fun b1 M5 => bIf b1 (w ε3 M5 fun e M6 => es1.length ≤ 100000 ∧ I1 (j + 1) (es1 ++ [e]) M6) (I1 (j + 1) es1 M5)) ∧ ∀ es1 M4, I1 ds1.length es1 M4 → I (k + 1) es1 M4) (I (k + 1) es M2)) ∧ ∀ es M, I ds.length es M → R (.lst (es.map T.sh)) M
theorem sim_lcT2 {ti ti1 : TI} {wi wi1 : WI} {g g1 : TG} {wg wg1 : WG} {tt tt1 : TT} {wt wt1 : WB} {te : TE} {w : WE} (hi : SimI ti wi) (hg : SimG vs g wg) (ht : SimB tt wt) (hi1 : SimI ti1 wi1) (hg1 : SimG vs1 g1 wg1) (ht1 : SimB tt1 wt1) (he : SimE te w) : SimT (tLc2 ti g tt ti1 g1 tt1 te vs vs1) (wLcT2 wi wg wt wi1 wg1 wt1 w vs vs1) := fun {c bs F σ H ε N R Q} r ww q => hi r ww fun J ds N1 H1 w1 o1 Y D nD => by
  obtain ⟨I, i0, step, fin⟩ := w1
  have r1 := r.out o1
  have Dbs : D ∉ bs := r1.live.out nD
  have Db : D ∉ c.b := fun z => Dbs (r.bin D z)
  have DF : D ∉ F := fun z => Dbs (r.sub D z)
  have DP : c.P D = none := pin_none r1 nD
  let cD : Base := { c with bs0 := D :: c.bs0 }
  have world : ∀ {H' : Hp} {acc : List V} {M : Nat}, H' D = some (.lst acc) → Out c H1 H' M → Rel cD (D :: bs) F σ H' ε M := fun {H' acc M} hD o =>
    (r1.hide (A := [D]) o (fun a ha => by rw [List.mem_singleton.mp ha]; exact nD) (fun a ha => by rw [List.mem_singleton.mp ha]; exact own_lst hD)).more DF (List.mem_cons_self ..)
  have vis : ∀ {H' : Hp} {M : Nat}, Out c H1 H' M → Same (hid bs H1) (hid (D :: bs) H') := fun {H' M} o => vis_step (bs := bs) (B := [D]) o r.bin (fun a ha => by rw [List.mem_singleton.mp ha]; exact nD)
  refine it_by (J := J) (n := ds.length) (Body := fun x H' Nx => g x (L2.wipe σ vs) H' fun σ2 H2 => L2.wipe σ2 vs = L2.wipe σ vs ∧ tt σ2 H2 fun b H3 =>
      if b = true then ti1 σ2 H3 fun J1 H4 => ∃ W1 : Nat → Nat → Hp → Prop, (∃ m, W1 0 m H4) ∧ ∀ j k H, W1 j k H →
        (J1.stop j H ∧ Nx H) ∨ (J1.go j H ∧ ∃ Nx1 : Hp → Prop, (∀ H', Nx1 H' → ∃ k', k' < k ∧ W1 (j + 1) k' H') ∧ ∀ x H', J1.yld j H x H' → g1 x (L2.wipe σ2 vs1) H' fun σ3 H5 => L2.wipe σ3 vs1 = L2.wipe σ2 vs1 ∧ tt1 σ3 H5 fun b H6 =>
          if b = true then te σ3 H6 fun y H7 => ∃ acc, H7 D = some (.lst acc) ∧ acc.length < sizeLine ∧ Nx1 (upd H7 D (.lst (acc ++ [y]))) else Nx1 H6)
      else Nx H3)
    (fun k H' => ∃ (acc : List V) (es : List PyData) (M : Nat), H' D = some (.lst acc) ∧ I k es M ∧ Out c H1 H' M ∧ DqAll (hid (D :: bs) H') acc es) ⟨[], [], N1, upd_same, i0, ⟨(Keep.refl _ _).new nD, fun a ha => (r1.box a ha).upd nD⟩, .nil⟩
    (fun k H' hk hP => ?_) (fun H' hP => ?_) (fun k x H' H'' hk hP hy => ?_) (fun H' hP => ?_)
  · obtain ⟨acc, es, M, hD, hI, o, da⟩ := hP
    exact Y.go k H' _ hk (vis o)
  · obtain ⟨acc, es, M, hD, hI, o, da⟩ := hP
    exact Y.stop H' _ (vis o)
  · obtain ⟨acc, es, M, hD, hI, o, da⟩ := hP
    have rw0 := world hD o
    obtain ⟨sm, d, gd, dx⟩ := Y.yld k x H' H'' _ hk (vis o) rw0.live hy
    have rw1 := rw0.ext sm
    obtain ⟨Fw, rw2⟩ := rel_wipe rw1 vs
    refine hg rw2 dx (step k d es M gd hI) fun F3 σ3 ε3 r3 e3 w3 => ⟨e3.trans (wipe_wipe σ vs), ?_⟩
    refine ht r3 w3 fun b M2 H3 w4 o3 => ?_
    have o3' : Out c H'' H3 M2 := ⟨o3.keep, o3.box⟩
    have oo : Out c H1 H3 M2 := (o.ext sm).trans o3'
    have da3 : DqAll (hid (D :: bs) H3) acc es := da.mono (out_keep ((rw0.ofSame sm).trans o3) rw0.bin)
    have hD3 : H3 D = some (.lst acc) := out_get o3' Db (sm _ _ hD)
    cases b with
    | false => exact iteF ⟨acc, es, M2, hD3, w4, oo, da3⟩
    | true =>
      refine iteT ?_
      have r4 := r3.out o3
      refine hi1 r4 w4 fun J1 ds1 M3 H4 w5 o4 Y1 => ?_
      obtain ⟨I1, j0, step1, fin1⟩ := w5
      have o4' : Out c H3 H4 M3 := ⟨o4.keep, o4.box⟩
      have r5 := r4.out o4
      have DF3 : D ∉ F3 := fun z => r5.nb D z (List.mem_cons_self ..)
      have hD4 : H4 D = some (.lst acc) := out_get o4' Db hD3
      have da4 : DqAll (hid (D :: bs) H4) acc es := da3.mono (out_keep o4 r4.bin)
      refine it_by (J := J1) (n := ds1.length) (Body := fun x H' Nx1 => g1 x (L2.wipe σ3 vs1) H' fun σ4 H5 => L2.wipe σ4 vs1 = L2.wipe σ3 vs1 ∧ tt1 σ4 H5 fun b H6 =>
          if b = true then te σ4 H6 fun y H7 => ∃ acc, H7 D = some (.lst acc) ∧ acc.length < sizeLine ∧ Nx1 (upd H7 D (.lst (acc ++ [y]))) else Nx1 H6)
        (fun j H' => ∃ (acc : List V) (es1 : List PyData) (M : Nat), H' D = some (.lst acc) ∧ I1 j es1 M ∧ Out c H1 H' M ∧ DqAll (hid (D :: bs) H') acc es1 ∧ Keep (D :: c.b) H4 H') ⟨acc, es, M3, hD4, j0, oo.trans o4', da4, Keep.refl _ _⟩
        (fun j H5 hj hP => ?_) (fun H5 hP => ?_) (fun j y H5 H6 hj hP hy1 => ?_) (fun H5 hP => ?_)
      · obtain ⟨ac, es1, M4, a1, a2, a3, a4, a5⟩ := hP
        exact Y1.go j H5 (D :: bs) hj (a5.more fun a ha => (List.mem_cons.mp ha).elim (fun e => e ▸ List.mem_cons_self ..) fun h => r5.bin a h)
      · obtain ⟨ac, es1, M4, a1, a2, a3, a4, a5⟩ := hP
        exact Y1.stop H5 (D :: bs) (a5.more fun a ha => (List.mem_cons.mp ha).elim (fun e => e ▸ List.mem_cons_self ..) fun h => r5.bin a h)
      · obtain ⟨ac, es1, M4, a1, a2, a3, a4, a5⟩ := hP
        have r6 : Rel cD (D :: bs) F3 σ3 H5 ε3 M4 := r5.outD DF3 Db DP a5 a3.box ⟨ac, a1⟩
        obtain ⟨sm1, d1, gd1, dx1⟩ := Y1.yld j y H5 H6 (D :: bs) hj (a5.more fun a ha => (List.mem_cons.mp ha).elim (fun e => e ▸ List.mem_cons_self ..) fun h => r5.bin a h) r6.live hy1
        have r7 := r6.ext sm1
        obtain ⟨F7, r8⟩ := rel_wipe r7 vs1
        refine hg1 r8 dx1 (step1 j d1 es1 M4 gd1 a2) fun F9 σ9 ε9 r9 e9 w9 => ⟨e9.trans (wipe_wipe σ3 vs1), ?_⟩
        refine ht1 r9 w9 fun b1 M5 H7 w10 o7 => ?_
        have o7' : Out c H6 H7 M5 := ⟨o7.keep, o7.box⟩
        have a3' : Out c H1 H7 M5 := (a3.ext sm1).trans o7'
        have a4' : DqAll (hid (D :: bs) H7) ac es1 := a4.mono (out_keep ((r6.ofSame sm1).trans o7) r6.bin)
        have a1' : H7 D = some (.lst ac) := out_get o7' Db (sm1 _ _ a1)
        have a5' : Keep (D :: c.b) H4 H7 := (a5.ext sm1).trans (o7'.keep.more fun a ha => List.mem_cons_of_mem _ ha)
        cases b1 with
        | false => exact iteF ⟨ac, es1, M5, a1', w10, a3', a4', a5'⟩
        | true =>
          refine iteT ?_
          have r10 := r9.out o7
          refine he r10 w10 fun v f M6 H8 w11 o8 hv => ?_
          have o8' : Out c H7 H8 M6 := ⟨o8.keep, o8.box⟩
          have a1'' : H8 D = some (.lst ac) := out_get o8' Db a1'
          have kk : Keep (D :: bs) H8 (upd H8 D (.lst (ac ++ [v]))) := (Keep.refl _ _).put (List.mem_cons_self ..)
          refine ⟨ac, a1'', ?_, ac ++ [v], es1 ++ [f], M6, upd_same, w11.2, ?_, ?_, ?_⟩
          · rw [a4.len]
            exact Nat.lt_of_le_of_lt w11.1 (by decide)
          · exact ⟨(a3'.trans o8').keep.putNew nD, fun a ha => ((a3'.trans o8').box a ha).put (fun z => Db (z ▸ ha))⟩
          · exact ((a4'.mono (out_keep o8 r10.bin)).append (.cons hv .nil)).mono kk
          · exact (a5'.trans (o8'.keep.more fun a ha => List.mem_cons_of_mem _ ha)).put (List.mem_cons_self ..)
      · obtain ⟨ac, es1, M4, a1, a2, a3, a4, a5⟩ := hP
        exact ⟨ac, es1, M4, a1, fin1 es1 M4 a2, a3, a4⟩
  · obtain ⟨acc, es, M, hD, hI, o, da⟩ := hP
    exact q (.ref D) (.lst (es.map T.sh)) [D] M H' (fin es M hI) (o1.trans o) ⟨.lst hD (RepL.shs da), List.nodup_cons.mpr ⟨List.not_mem_nil, List.nodup_nil⟩, fun a ha => by rw [List.mem_singleton.mp ha]; exact out_none o1 nD⟩
/-! ### zip of more rows -/
end
end Cg

set_option Elab.async false
set_option linter.all false
set_option maxRecDepth 100000
set_option maxHeartbeats 1000000
namespace Cg
open PySem PySem.Spec PyProof.Rows L2 Evl
section
variable {X : Cx} {ta tb tc te : TE} {wa wb wc we : WE} {tas : TA} {was : WA}
theorem sortedIK (K : PySem.W.Frag) (hK : X.K = K := by rfl) : CallR X (.builtin "sorted") (rSortedI K) := by subst hK; exact cr_sortedI
theorem sortedPK (K : PySem.W.Frag) (hK : X.K = K := by rfl) : CallR X (.builtin "sorted") (rSortedPO K) := by subst hK; exact cr_sortedPO
/-! sorted -/
def oSortI : List PyData → (List PyData → Prop) → Prop
  | [.list ds], S => ∃ ns, intsOf ds = some ns ∧ ∀ ms : List Int, ms.Perm ns → ms.Pairwise (· ≤ ·) → S (ms.map PyData.int)
  | _, _ => False
theorem cn_sortI {K : PySem.W.Frag} : CbN (rSortedI K) oSortI := fun {hs H xs ds S Q} l hx w q => by
  match ds, w with
  | [.list es], w =>
    obtain ⟨v, rfl, hv⟩ := dq1 hx
    obtain ⟨ns, he, w⟩ := w
    obtain ⟨a, ys, rfl, e1, h1⟩ := hv.list_inv
    have e2 := ints_of h1 he
    subst e2
    exact ⟨a, ns, rfl, SqL.of (hid_some e1).2, fun ms p hp hs np => q p _ _ (w ms hp hs) np (DqAll.ints ms)⟩
def prI (p : Int × Int) : PyData := .tuple [.int p.1, .int p.2]
def lexP (p q : Int × Int) : Prop := p.1 < q.1 ∨ (p.1 = q.1 ∧ p.2 ≤ q.2)
def oSortP : List PyData → (List PyData → Prop) → Prop
  | [.list ds], S => ∃ ps : List (Int × Int), ds = ps.map prI ∧ ∀ qs : List (Int × Int), qs.Perm ps → qs.Pairwise lexP → S (qs.map prI)
  | _, _ => False
def kPr (H : Hp) (v : V) : Int × Int := match v with
  | .ref a => match H a with
    | some (.tup [.int i, .int j]) => (i, j)
    | _ => (0, 0)
  | _ => (0, 0)
theorem pr_dq {H : Hp} {v : V} {p : Int × Int} (h : Dq H v (prI p)) : ∃ t, v = .ref t ∧ H t = some (.tup [.int p.1, .int p.2]) := by
  obtain ⟨a, xs, rfl, e, h⟩ := Dq.tup_inv h
  obtain ⟨v1, v2, rfl, h1, h2⟩ := dq2 h
  cases h1
  cases h2
  exact ⟨a, rfl, e⟩
theorem prs_dq {H H0 : Hp} (s : Same H H0) : ∀ {xs : List V} {ps : List (Int × Int)}, DqAll H xs (ps.map prI) → (∀ x ∈ xs, ∃ t, x = .ref t ∧ H0 t = some (.tup [.int (kPr H0 x).1, .int (kPr H0 x).2])) ∧ xs.map (kPr H0) = ps
  | _, [], .nil => ⟨(fun _ z => nomatch z), rfl⟩
  | _, p :: ps, .cons h t => by
    obtain ⟨h1, h2⟩ := prs_dq s t
    obtain ⟨a, rfl, e⟩ := pr_dq h
    have ek : kPr H0 (.ref a) = p := by
      show (match H0 a with | some (.tup [.int i, .int j]) => (i, j) | _ => (0, 0)) = p
      rw [s _ _ e]
    refine ⟨fun x hx => ?_, by rw [List.map_cons, ek, h2]⟩
    rcases List.mem_cons.mp hx with rfl | hx
    · exact ⟨a, rfl, by rw [ek]; exact s _ _ e⟩
    · exact h1 x hx
theorem dq_of_all {H : Hp} {f : V → PyData} : ∀ {xs : List V}, (∀ x ∈ xs, Dq H x (f x)) → DqAll H xs (xs.map f)
  | [], _ => .nil
  | x :: xs, h => .cons (h x (List.mem_cons_self ..)) (dq_of_all fun y hy => h y (List.mem_cons_of_mem _ hy))
theorem all_of_dq {H : Hp} {f : V → PyData} : ∀ {xs : List V}, DqAll H xs (xs.map f) → ∀ x ∈ xs, Dq H x (f x)
  | [], _ => fun _ z => nomatch z
  | x :: xs, .cons h t => fun y hy => by
    rcases List.mem_cons.mp hy with rfl | hy
    · exact h
    · exact all_of_dq t y hy
theorem cn_sortP {K : PySem.W.Frag} : CbN (rSortedPO K) oSortP := fun {hs H xs ds S Q} l hx w q => by
  match ds, w with
  | [.list es], w =>
    obtain ⟨v, rfl, hv⟩ := dq1 hx
    obtain ⟨ps, rfl, w⟩ := w
    obtain ⟨a, ys, rfl, e1, h1⟩ := hv.list_inv
    obtain ⟨k1, k2⟩ := prs_dq hid_same h1
    refine ⟨a, ys, kPr H, rfl, SqL.of (hid_some e1).2, k1, fun zs p hs hst np => ?_⟩
    have hp := hst.perm
    have ed : ps.map prI = ys.map fun x => prI (kPr H x) := by rw [← k2, List.map_map]; rfl
    have each := all_of_dq (f := fun x => prI (kPr H x)) (by rw [← ed]; exact h1)
    have dz : DqAll (hid _ H) zs (zs.map fun x => prI (kPr H x)) := dq_of_all fun x hx => each x (hp.mem_iff.mp hx)
    have ez : (zs.map fun x => prI (kPr H x)) = (zs.map (kPr H)).map prI := by rw [List.map_map]; rfl
    rw [ez] at dz
    refine q p zs _ (w (zs.map (kPr H)) (by rw [← k2]; exact hp.map _) ?_) np dz
    rw [List.pairwise_map]
    refine List.Pairwise.imp (fun {x y} h => ?_) hs
    have := SrtO.lexB_no.mp h
    unfold lexP
    omega
/-! in, of data; < of tuples -/
/-! xs.count(k), ints -/
def oCount : PyData → List PyData → (PyData → Prop) → Prop := fun d es S => match d, es with
  | .list ds, [.int k] => match intsOf ds with
    | some ns => S (.int (ns.count k : Nat))
    | none => False
  | _, _ => False
/-! x.insert(k, e) -/
theorem RepL.cut {bs : List Addr} {H : Hp} : ∀ {vs : List V} {ts : List T} {A : List Addr}, RepL bs H vs ts A → ∀ n : Nat, ∃ A1 A2, A = A1 ++ A2 ∧ RepL bs H (vs.take n) (ts.take n) A1 ∧ RepL bs H (vs.drop n) (ts.drop n) A2
  | _, _, A, h, 0 => ⟨[], A, rfl, .nil, h⟩
  | _, _, _, .nil, n + 1 => ⟨[], [], rfl, .nil, .nil⟩
  | _, _, _, .cons (A := A) h t, n + 1 => by
    obtain ⟨A1, A2, e, h1, h2⟩ := t.cut n
    exact ⟨A ++ A1, A2, by rw [e, List.append_assoc], .cons h h1, h2⟩
/-! len(set(xs)), ints -/
end
end Cg

set_option Elab.async false
set_option linter.all false
set_option maxRecDepth 100000
set_option maxHeartbeats 1000000
namespace Cg
open PySem PySem.Spec PyProof.Rows L2 Evl
/-! ### how far reckoning goes: no further than the values -/
section
variable {d d' e e' : PyData} {ds ds' : List PyData} {S : PyData → Prop} {SL : List PyData → Prop} {N N' : Nat} {R : T → Nat → Prop} {RD : PyData → Nat → Prop} {o o' : Option Sl} {D : EW} {ε ε' : Env}
end
/-! what kind it is -/
section
variable {p : Bool} {x : Int} {u : Str} {a : List PyData} {kd : Bool}
theorem isNone_none : isNone .none = true := by simp [isNone]
theorem isNone_bool : isNone (.bool p) = false := by simp [isNone]
theorem isNone_int : isNone (.int x) = false := by simp [isNone]
theorem isNone_str : isNone (.str u) = false := by simp [isNone]
theorem isNone_list : isNone (.list a) = false := by simp [isNone]
theorem isNone_tup : isNone (.tuple a) = false := by simp [isNone]
theorem isInt_none : isInt .none = false := by simp [isInt]
theorem isInt_bool : isInt (.bool p) = true := by simp [isInt]
theorem isInt_int : isInt (.int x) = true := by simp [isInt]
theorem isInt_str : isInt (.str u) = false := by simp [isInt]
theorem isInt_list : isInt (.list a) = false := by simp [isInt]
theorem isInt_tup : isInt (.tuple a) = false := by simp [isInt]
theorem isBool_none : isBool .none = false := by simp [isBool]
theorem isBool_bool : isBool (.bool p) = true := by simp [isBool]
theorem isBool_int : isBool (.int x) = false := by simp [isBool]
theorem isBool_str : isBool (.str u) = false := by simp [isBool]
theorem isBool_list : isBool (.list a) = false := by simp [isBool]
theorem isBool_tup : isBool (.tuple a) = false := by simp [isBool]
theorem isList_none : isList .none = false := by simp [isList]
theorem isList_bool : isList (.bool p) = false := by simp [isList]
theorem isList_int : isList (.int x) = false := by simp [isList]
theorem isList_str : isList (.str u) = false := by simp [isList]
theorem isList_list : isList (.list a) = true := by simp [isList]
theorem isList_tup : isList (.tuple a) = false := by simp [isList]
theorem isTuple_none : isTuple .none = false := by simp [isTuple]
theorem isTuple_bool : isTuple (.bool p) = false := by simp [isTuple]
theorem isTuple_int : isTuple (.int x) = false := by simp [isTuple]
theorem isTuple_str : isTuple (.str u) = false := by simp [isTuple]
theorem isTuple_list : isTuple (.list a) = false := by simp [isTuple]
theorem isTuple_tup : isTuple (.tuple a) = true := by simp [isTuple]
theorem isStr_none : isStr .none = false := by simp [isStr]
theorem isStr_bool : isStr (.bool p) = false := by simp [isStr]
theorem isStr_int : isStr (.int x) = false := by simp [isStr]
theorem isStr_str : isStr (.str u) = true := by simp [isStr]
theorem isStr_list : isStr (.list a) = false := by simp [isStr]
theorem isStr_tup : isStr (.tuple a) = false := by simp [isStr]
theorem isNone_seq : isNone (seqD kd a) = false := by cases kd <;> simp [seqD, isNone]
theorem isList_seq : isList (seqD kd a) = kd := by cases kd <;> simp [seqD, isList]
theorem isTuple_seq : isTuple (seqD kd a) = !kd := by cases kd <;> simp [seqD, isTuple]
theorem isInt_seq : isInt (seqD kd a) = false := by cases kd <;> simp [seqD, isInt]
theorem isBool_seq : isBool (seqD kd a) = false := by cases kd <;> simp [seqD, isBool]
theorem isStr_seq : isStr (seqD kd a) = false := by cases kd <;> simp [seqD, isStr]
theorem dTru_seq {kb : Bool → Prop} : dTru (seqD kd a) kb = kb (!a.isEmpty) := by cases kd <;> exact propext Iff.rfl
end
/-! ### walks that draw nothing -/
section
variable {α β : Type} {ε : Env} {N : Nat} {R : PyData → Nat → Prop} {RT : T → Nat → Prop} {D : EW} {we wa wb : WE} {wg wg1 : WG} {ws : WS} {wt wt1 : WB} {w : WE} {wT : WT} {vs vs1 : List Nat} {wi wi1 : WI} {d d' : PyData} {ds es : List PyData}
/-- it gives these, and draws nothing -/
def Gv (wi : WI) (ε : Env) (N : Nat) (ds : List PyData) : Prop := ∀ R : List PyData → Nat → Prop, R ds N → wi ε N R
/-- its value -/
def Ge (we : WE) (ε : Env) (N : Nat) (d : PyData) : Prop := ∀ R : PyData → Nat → Prop, R d N → we ε N R
theorem gv_it (h : Ge we ε N d) (hd : seqOf d = some ds) : Gv (wIt we) ε N ds := fun R hR => h _ (by
  show (match seqOf d with | some ds => R ds N | none => False)
  rw [hd]; exact hR)
theorem gv_en (h : Ge we ε N d) (hd : seqOf d = some ds) : Gv (wEnum we) ε N (enumD ds) := fun R hR => h _ (by
  show (match seqOf d with | some ds => R (enumD ds) N | none => False)
  rw [hd]; exact hR)
theorem gv_r1 {n : Nat} (h : Ge we ε N (.int (n : Int))) (hn : n ≤ 1000000) : Gv (wRng1 we) ε N ((List.range n).map fun k : Nat => PyData.int (k : Int)) := fun R hR => h _ (by
  refine ⟨⟨by omega, by omega⟩, ?_⟩
  have e : rngD 0 ((n : Int)).toNat = (List.range n).map fun k : Nat => PyData.int (k : Int) := by
    have e1 : ((n : Int)).toNat = n := by omega
    unfold rngD
    rw [e1]
    refine List.map_congr_left fun k _ => ?_
    rw [Int.zero_add]
  rw [e]; exact hR)
theorem gv_zip (h : Ge wa ε N (.list ds)) (h' : Ge wb ε N (.list es)) : Gv (wZip wa wb) ε N (zipD ds es) := fun R hR => h _ (h' _ hR)
theorem enum_map (f : α → PyData) (xs : List α) : enumD (xs.map f) = xs.zipIdx.map fun p => .tuple [.int (p.2 : Nat), f p.1] := by
  unfold enumD
  apply List.ext_getElem
  · simp
  · intro i h1 h2
    simp
theorem zip_map (f : α → PyData) (g : β → PyData) (xs : List α) (ys : List β) : zipD (xs.map f) (ys.map g) = (xs.zip ys).map fun p => .tuple [f p.1, g p.2] := by
  unfold zipD
  apply List.ext_getElem
  · simp
  · intro i h1 h2
    simp
theorem take_succ_map {γ : Type} {xs : List α} {k : Nat} {x : α} (h : xs[k]? = some x) (g : α → Option γ) : (xs.take (k + 1)).filterMap g = (xs.take k).filterMap g ++ (g x).toList := by
  have e1 : List.filterMap g [x] = (g x).toList := by
    cases e : g x with
    | none => rw [List.filterMap_cons_none e]; rfl
    | some y => rw [List.filterMap_cons_some e]; rfl
  rw [List.take_add_one, h, List.filterMap_append, ← e1]
  rfl
theorem lcT_f (xs : List α) (e : α → PyData) (g : α → Option T) (hg : Gv wi ε N (xs.map e)) (hn : xs.length ≤ 40000)
    (hs : ∀ (x : α) (A : T → Nat → Prop) (B : Nat → Prop), x ∈ xs → (∀ t, g x = some t → A t N) → (g x = none → B N) → wg (e x) (wipeE ε vs) fun ε2 => wt ε2 N fun b M2 => bIf b (wT ε2 M2 A) (B M2)) (hd : RT (.lst (xs.filterMap g)) N) : wLcT wi wg wt wT vs ε N RT := by
  refine hg _ ⟨by rw [List.length_map]; exact hn, fun k ts M => ts = (xs.take k).filterMap g ∧ M = N, ⟨rfl, rfl⟩, fun k d ts M hx hI => ?_, fun ts M hI => ?_⟩
  · obtain ⟨rfl, rfl⟩ := hI
    rw [List.getElem?_map] at hx
    cases hk : xs[k]? with
    | none => rw [hk] at hx; cases hx
    | some x =>
      rw [hk] at hx
      have ed : e x = d := Option.some.inj hx
      subst ed
      refine hs x (fun t M3 => (xs.take k).filterMap g ++ [t] = (xs.take (k + 1)).filterMap g ∧ M3 = M) (fun M2 => (xs.take k).filterMap g = (xs.take (k + 1)).filterMap g ∧ M2 = M) (List.mem_of_getElem? hk) (fun t ht => ⟨by rw [take_succ_map hk, ht]; rfl, rfl⟩) fun ht => ⟨by rw [take_succ_map hk, ht]; exact (List.append_nil _).symm, rfl⟩
  · obtain ⟨rfl, rfl⟩ := hI
    rw [List.length_map, List.take_of_length_le (Nat.le_refl _)]
    exact hd
theorem lc_f (xs : List α) (e : α → PyData) (g : α → Option PyData) (hg : Gv wi ε N (xs.map e)) (hn : xs.length ≤ 40000)
    (hs : ∀ (x : α) (A : PyData → Nat → Prop) (B : Nat → Prop), x ∈ xs → (∀ t, g x = some t → A t N) → (g x = none → B N) → wg (e x) (wipeE ε vs) fun ε2 => wt ε2 N fun b M2 => bIf b (w ε2 M2 A) (B M2)) (hd : R (.list (xs.filterMap g)) N) : wLc wi wg wt w vs ε N R := by
  refine hg _ ⟨by rw [List.length_map]; exact hn, fun k ts M => ts = (xs.take k).filterMap g ∧ M = N, ⟨rfl, rfl⟩, fun k d ts M hx hI => ?_, fun ts M hI => ?_⟩
  · obtain ⟨rfl, rfl⟩ := hI
    rw [List.getElem?_map] at hx
    cases hk : xs[k]? with
    | none => rw [hk] at hx; cases hx
    | some x =>
      rw [hk] at hx
      have ed : e x = d := Option.some.inj hx
      subst ed
      refine hs x (fun t M3 => (xs.take k).filterMap g ++ [t] = (xs.take (k + 1)).filterMap g ∧ M3 = M) (fun M2 => (xs.take k).filterMap g = (xs.take (k + 1)).filterMap g ∧ M2 = M) (List.mem_of_getElem? hk) (fun t ht => ⟨by rw [take_succ_map hk, ht]; rfl, rfl⟩) fun ht => ⟨by rw [take_succ_map hk, ht]; exact (List.append_nil _).symm, rfl⟩
  · obtain ⟨rfl, rfl⟩ := hI
    rw [List.length_map, List.take_of_length_le (Nat.le_refl _)]
    exact hd
theorem lcT_m (xs : List α) (e : α → PyData) (g : α → T) (hg : Gv wi ε N (xs.map e)) (hn : xs.length ≤ 40000)
    (hs : ∀ (x : α) (A : T → Nat → Prop), x ∈ xs → A (g x) N → wg (e x) (wipeE ε vs) fun ε2 => wT ε2 N A) (hd : RT (.lst (xs.map g)) N) : wLcT wi wg wYes wT vs ε N RT := by
  refine lcT_f xs e (fun x => some (g x)) hg hn (fun x A B hx hA hB => hs x A hx (hA _ rfl)) ?_
  rw [List.filterMap_eq_map']
  exact hd
theorem lc_m (xs : List α) (e : α → PyData) (g : α → PyData) (hg : Gv wi ε N (xs.map e)) (hn : xs.length ≤ 40000)
    (hs : ∀ (x : α) (A : PyData → Nat → Prop), x ∈ xs → A (g x) N → wg (e x) (wipeE ε vs) fun ε2 => w ε2 N A) (hd : R (.list (xs.map g)) N) : wLc wi wg wYes w vs ε N R := by
  refine lc_f xs e (fun x => some (g x)) hg hn (fun x A B hx hA hB => hs x A hx (hA _ rfl)) ?_
  rw [List.filterMap_eq_map']
  exact hd
theorem take_succ_flat {γ : Type} {xs : List α} {k : Nat} {x : α} (h : xs[k]? = some x) (g : α → List γ) : (xs.take (k + 1)).flatMap g = (xs.take k).flatMap g ++ g x := by
  rw [List.take_add_one, h, List.flatMap_append]
  congr 1
  show List.flatMap g [x] = _
  simp
theorem len_pre {γ : Type} {xs : List α} {k : Nat} {x : α} (h : xs[k]? = some x) (g : α → List γ) : ((xs.take k).flatMap g ++ g x).length ≤ (xs.flatMap g).length := by
  rw [← take_succ_flat h g]
  have e : xs.flatMap g = (xs.take (k + 1)).flatMap g ++ (xs.drop (k + 1)).flatMap g := by rw [← List.flatMap_append, List.take_append_drop]
  rw [e, List.length_append]
  omega
/-- [e for x in xs if p for y in ys if q] -/
theorem lcT2_f (xs : List α) (e : α → PyData) (ys : α → List β) (e1 : α → β → PyData) (g : α → β → Option PyData) (p : α → Bool) (hg : Gv wi ε N (xs.map e))
    (hs : ∀ (x : α) (X : Env → List PyData → Nat → Prop) (B : Nat → Prop), x ∈ xs → (p x = true → ∀ ε2, (∀ (y : β) (A : PyData → Nat → Prop) (B : Nat → Prop), y ∈ ys x → (∀ t, g x y = some t → A t N) → (g x y = none → B N) → wg1 (e1 x y) (wipeE ε2 vs1) fun ε3 => wt1 ε3 N fun b1 M5 => bIf b1 (w ε3 M5 A) (B M5)) → X ε2 ((ys x).map (e1 x)) N) → (p x = false → B N) → wg (e x) (wipeE ε vs) fun ε2 => wt ε2 N fun b M2 => bIf b (wi1 ε2 M2 (X ε2)) (B M2))
    (hl : (xs.flatMap fun x => if p x then (ys x).filterMap (g x) else []).length ≤ 100000)
    (hd : RT (.lst ((xs.flatMap fun x => if p x then (ys x).filterMap (g x) else []).map T.sh)) N) : wLcT2 wi wg wt wi1 wg1 wt1 w vs vs1 ε N RT := by
  refine hg _ ⟨fun k ts M => ts = (xs.take k).flatMap (fun x => if p x then (ys x).filterMap (g x) else []) ∧ M = N, ⟨rfl, rfl⟩, fun k d ts M0 hx hI => ?_, fun ts M hI => ?_⟩
  · obtain ⟨rfl, rfl⟩ := hI
    rw [List.getElem?_map] at hx
    cases hk : xs[k]? with
    | none => rw [hk] at hx; cases hx
    | some x =>
      rw [hk] at hx
      have ed : e x = d := Option.some.inj hx
      subst ed
      have hb := len_pre hk (fun x => if p x then (ys x).filterMap (g x) else [])
      refine hs x _ _ (List.mem_of_getElem? hk) (fun hp ε2 body => ?_) fun hp => ?_
      · simp only [hp, if_true] at hb
        rw [List.length_append] at hb
        refine ⟨fun j es M => es = (xs.take k).flatMap (fun x => if p x then (ys x).filterMap (g x) else []) ++ ((ys x).take j).filterMap (g x) ∧ M = M0, ⟨(List.append_nil _).symm, rfl⟩, fun j d1 es1 M4 hy hI1 => ?_, fun es1 M4 hI1 => ?_⟩
        · obtain ⟨rfl, rfl⟩ := hI1
          rw [List.getElem?_map] at hy
          cases hj : (ys x)[j]? with
          | none => rw [hj] at hy; cases hy
          | some y =>
            rw [hj] at hy
            have ed : e1 x y = d1 := Option.some.inj hy
            subst ed
            refine body y _ _ (List.mem_of_getElem? hj) (fun t ht => ⟨?_, ?_, rfl⟩) fun ht => ⟨?_, rfl⟩
            · rw [List.length_append]
              have e2 : (ys x).filterMap (g x) = ((ys x).take j).filterMap (g x) ++ ((ys x).drop j).filterMap (g x) := by rw [← List.filterMap_append, List.take_append_drop]
              rw [e2, List.length_append] at hb
              omega
            · rw [take_succ_map hj, ht, List.append_assoc]; rfl
            · rw [take_succ_map hj, ht]; exact congrArg _ (List.append_nil _).symm
        · obtain ⟨rfl, rfl⟩ := hI1
          refine ⟨?_, rfl⟩
          rw [List.length_map, List.take_of_length_le (Nat.le_refl _), take_succ_flat hk, hp]
          rfl
      · refine ⟨?_, rfl⟩
        rw [take_succ_flat hk, hp]
        exact (List.append_nil _).symm
  · obtain ⟨rfl, rfl⟩ := hI
    rw [List.length_map, List.take_of_length_le (Nat.le_refl _)]
    exact hd
/-- for x in a typed list -/
theorem for_f (xs : List α) (e : α → PyData) (I : Nat → Env → Nat → Prop) (hg : Gv wi ε N (xs.map e)) (h0 : I 0 ε N) (hs : ∀ k x ε M, xs[k]? = some x → I k ε M → wg (e x) ε fun ε2 => ws (D.loop (I (k + 1))) ε2 M) (hd : ∀ ε M, I xs.length ε M → D.nx ε M) : wFor wi wg ws D ε N := by
  refine hg _ ⟨I, h0, fun k d ε M hx hI => ?_, fun ε M hI => hd ε M (by rw [List.length_map] at hI; exact hI)⟩
  rw [List.getElem?_map] at hx
  cases hk : xs[k]? with
  | none => rw [hk] at hx; cases hx
  | some x =>
    rw [hk] at hx
    have ed : e x = d := Option.some.inj hx
    subst ed
    exact hs k x ε M hk hI
/-- while -/
theorem while_i (I : Nat → Env → Nat → Prop) (m : Nat) (h0 : I m ε N) (hs : ∀ m ε M, I m ε M → wt ε M fun b M1 => bIf b (ws (D.loop fun ε N => ∃ m', m' < m ∧ I m' ε N) ε M1) (D.nx ε M1)) : wWhile wt ws D ε N := ⟨I, ⟨m, h0⟩, fun m ε M hI => hs m ε M hI⟩
end
end Cg

set_option Elab.async false
set_option linter.all false
set_option maxRecDepth 100000
set_option maxHeartbeats 1000000
namespace Cg
open PySem PySem.Spec PyProof.Rows L2 Evl
/-! ### places, pairs and tables as data -/
abbrev Pr := Nat × Nat
def pD (p : Pr) : PyData := .tuple [.int (p.1 : Nat), .int (p.2 : Nat)]
def nD (n : Nat) : PyData := .int (n : Int)
def oD : Option Pr → PyData
  | none => .none
  | some p => pD p
/-- of at most 100 rows of at most 100 -/
def Sz (M : Mat) : Prop := M.length ≤ 100 ∧ ∀ r ∈ M, r.length ≤ 100
def askRow (r : List Int) (i : Nat) : List Pr := r.zipIdx.filterMap fun q => if q.1 == 1 then some (i, q.2) else none
def asksN (M : Mat) : List Pr := M.zipIdx.flatMap fun p => askRow p.1 p.2
def cutB (I O : List Nat) (i j : Nat) : Bool := I.contains i || O.contains j
def leftN (I O : List Nat) (M : Mat) : Mat := M.zipIdx.map fun p => p.1.zipIdx.map fun q => if cutB I O p.2 q.2 then 0 else q.1
/-- neither of its places stands in these -/
def freeB (ps : List Pr) (p : Pr) : Bool := !cutB (ps.map (·.1)) (ps.map (·.2)) p.1 p.2
theorem zipIdx_map_zipIdx {α β : Type} (f : α × Nat → β) (xs : List α) : (xs.zipIdx.map f).zipIdx = xs.zipIdx.map fun p => (f p, p.2) := by
  apply List.ext_getElem
  · simp
  · intro i h1 h2
    simp
theorem ask_left_row (I O : List Nat) (r : List Int) (i : Nat) : askRow (r.zipIdx.map fun q => if cutB I O i q.2 then 0 else q.1) i = (askRow r i).filter fun p => !cutB I O p.1 p.2 := by
  unfold askRow
  rw [zipIdx_map_zipIdx, List.filterMap_map]
  generalize r.zipIdx = l
  induction l with
  | nil => rfl
  | cons q l ih =>
    rw [List.filterMap_cons, List.filterMap_cons]
    cases hq : (q.1 == 1) <;> cases hc : cutB I O i q.2 <;> simp_all
theorem asks_left_eq (I O : List Nat) (M : Mat) : asksN (leftN I O M) = (asksN M).filter fun p => !cutB I O p.1 p.2 := by
  unfold asksN leftN
  rw [zipIdx_map_zipIdx, List.flatMap_map, List.filter_flatMap]
  congr 1
  funext p
  exact ask_left_row I O p.1 p.2
theorem asks_free (ps : List Pr) (M : Mat) : (asksN (leftN (ps.map (·.1)) (ps.map (·.2)) M)).head? = (asksN M).find? (freeB ps) := by
  rw [asks_left_eq, List.head?_filter]
  rfl
theorem ask_len_row (r : List Int) (i : Nat) : (askRow r i).length ≤ r.length := by
  unfold askRow
  exact Nat.le_trans (List.length_filterMap_le _ _) (by rw [List.length_zipIdx]; exact Nat.le_refl _)
theorem flat_len {α β : Type} (f : α → List β) (b : Nat) : ∀ xs : List α, (∀ x ∈ xs, (f x).length ≤ b) → (xs.flatMap f).length ≤ b * xs.length
  | [], _ => Nat.zero_le _
  | x :: xs, h => by
    have h1 := flat_len f b xs fun y hy => h y (List.mem_cons_of_mem _ hy)
    have h2 := h x (List.mem_cons_self ..)
    rw [List.flatMap_cons, List.length_append, List.length_cons, Nat.mul_succ]
    omega
theorem zipIdx_fst {α : Type} {xs : List α} {p : α × Nat} (h : p ∈ xs.zipIdx) : p.1 ∈ xs := by
  obtain ⟨_, hj, he⟩ := List.mem_zipIdx h
  rw [he]
  exact List.getElem_mem _
theorem asks_len {M : Mat} (h : Sz M) : (asksN M).length ≤ 10000 := by
  have h1 := flat_len (fun p : List Int × Nat => askRow p.1 p.2) 100 M.zipIdx fun p hp => Nat.le_trans (ask_len_row _ _) (h.2 _ (zipIdx_fst hp))
  rw [List.length_zipIdx] at h1
  have h2 := h.1
  show ((M.zipIdx).flatMap _).length ≤ 10000
  omega
theorem left_len (I O : List Nat) (M : Mat) : (leftN I O M).length = M.length := by unfold leftN; rw [List.length_map, List.length_zipIdx]
theorem left_row {I O : List Nat} {M : Mat} {r : List Int} (h : r ∈ leftN I O M) : ∃ s ∈ M, r.length = s.length := by
  obtain ⟨p, hp, rfl⟩ := List.mem_map.mp h
  exact ⟨p.1, zipIdx_fst hp, by rw [List.length_map, List.length_zipIdx]⟩
theorem Sz.left {I O : List Nat} {M : Mat} (h : Sz M) : Sz (leftN I O M) := ⟨by rw [left_len]; exact h.1, fun r hr => by
  obtain ⟨s, hs, e⟩ := left_row hr
  rw [e]; exact h.2 s hs⟩
/-- what stands there -/
def cell (M : Mat) (i j : Nat) : Int := (M.getD i []).getD j 0
theorem mem_asks {M : Mat} {p : Pr} : p ∈ asksN M ↔ cell M p.1 p.2 = 1 := by
  unfold asksN askRow cell
  simp only [List.mem_flatMap, List.mem_filterMap, Prod.exists, List.mem_zipIdx_iff_getElem?]
  constructor
  · rintro ⟨r, i, hr, x, j, hx, hq⟩
    split at hq
    · rename_i h1
      have e := Option.some.inj hq
      subst e
      rw [List.getD_eq_getElem?_getD, List.getD_eq_getElem?_getD, hr]
      show (r[j]?).getD 0 = 1
      rw [hx]
      exact eq_of_beq h1
    · cases hq
  · intro h
    rw [List.getD_eq_getElem?_getD, List.getD_eq_getElem?_getD] at h
    cases hr : M[p.1]? with
    | none => rw [hr] at h; simp at h
    | some r =>
      rw [hr] at h
      have h' : (r[p.2]?).getD 0 = 1 := h
      cases hx : r[p.2]? with
      | none => rw [hx] at h'; simp at h'
      | some x =>
        rw [hx] at h'
        have h2 : x = 1 := h'
        exact ⟨r, p.1, hr, x, p.2, hx, by rw [h2]; rfl⟩
/-- rising -/
def lexN (p q : Pr) : Prop := p.1 < q.1 ∨ (p.1 = q.1 ∧ p.2 < q.2)
theorem pw_zipIdx {α : Type} (xs : List α) : xs.zipIdx.Pairwise fun p q => p.2 < q.2 := by
  rw [List.pairwise_iff_getElem]
  intro i j hi hj hij
  simp
  exact hij
theorem asks_lex (M : Mat) : (asksN M).Pairwise lexN := by
  unfold asksN
  rw [List.pairwise_flatMap]
  refine ⟨fun p _ => ?_, ?_⟩
  · unfold askRow
    rw [List.pairwise_filterMap]
    refine (pw_zipIdx p.1).imp fun {a b} hab x hx y hy => ?_
    split at hx
    · split at hy
      · have e1 := Option.some.inj hx
        have e2 := Option.some.inj hy
        subst e1 e2
        exact .inr ⟨rfl, hab⟩
      · cases hy
    · cases hx
  · refine (pw_zipIdx M).imp fun {a b} hab x hx y hy => ?_
    have row : ∀ {r : List Int} {i : Nat} {x : Pr}, x ∈ askRow r i → x.1 = i := fun {r i x} h => by
      obtain ⟨q, _, hq⟩ := List.mem_filterMap.mp h
      split at hq
      · rw [← Option.some.inj hq]
      · cases hq
    exact .inl (by rw [row hx, row hy]; exact hab)
/-! ### taken one by one -/
def gstep (acc : List Pr) (p : Pr) : List Pr := if freeB acc p then acc ++ [p] else acc
theorem gstep_t {acc : List Pr} {p : Pr} (h : freeB acc p = true) : gstep acc p = acc ++ [p] := if_pos h
theorem gstep_f {acc : List Pr} {p : Pr} (h : freeB acc p = false) : gstep acc p = acc := if_neg (by rw [h]; decide)
def greedy (L : List Pr) : List Pr := L.foldl gstep []
theorem free_iff {ps : List Pr} {p : Pr} : freeB ps p = true ↔ ∀ q ∈ ps, q.1 ≠ p.1 ∧ q.2 ≠ p.2 := by
  unfold freeB cutB
  simp only [Bool.not_eq_true', Bool.or_eq_false_iff, List.contains_eq_mem, decide_eq_false_iff_not, List.mem_map, not_exists, not_and]
  exact ⟨fun h q hq => ⟨fun e => h.1 q ⟨hq, e⟩, fun e => h.2 q ⟨hq, e⟩⟩, fun h => ⟨fun q hq => (h q hq.1).1 hq.2, fun q hq => (h q hq.1).2 hq.2⟩⟩
theorem free_more {ps qs : List Pr} {p : Pr} (h : freeB (ps ++ qs) p = true) : freeB ps p = true := free_iff.mpr fun q hq => free_iff.mp h q (List.mem_append_left _ hq)
theorem free_self {ps : List Pr} {p : Pr} : freeB (ps ++ [p]) p = false := by
  cases h : freeB (ps ++ [p]) p with
  | false => rfl
  | true => exact absurd rfl (free_iff.mp h p (by simp)).1
theorem gfold_grow : ∀ (L acc : List Pr), ∃ s, L.foldl gstep acc = acc ++ s ∧ s.Sublist L
  | [], acc => ⟨[], by simp, List.Sublist.refl _⟩
  | p :: L, acc => by
    show ∃ s, L.foldl gstep (gstep acc p) = acc ++ s ∧ _
    cases h : freeB acc p with
    | true =>
      rw [gstep_t h]
      obtain ⟨s, h1, h2⟩ := gfold_grow L (acc ++ [p])
      exact ⟨p :: s, by rw [h1]; simp, h2.cons₂ _⟩
    | false =>
      rw [gstep_f h]
      obtain ⟨s, h1, h2⟩ := gfold_grow L acc
      exact ⟨s, h1, h2.cons _⟩
theorem not_free_more {ps qs : List Pr} {p : Pr} (h : freeB ps p = false) : freeB (ps ++ qs) p = false := by
  cases e : freeB (ps ++ qs) p with
  | false => rfl
  | true => rw [free_more e] at h; cases h
/-- all that was met is not free -/
theorem gfold_full : ∀ (L acc : List Pr), ∀ p ∈ L, freeB (L.foldl gstep acc) p = false
  | [], _, _, h => nomatch h
  | q :: L, acc, p, h => by
    show freeB (L.foldl gstep (gstep acc q)) p = false
    rcases List.mem_cons.mp h with rfl | h
    · obtain ⟨s, h1, _⟩ := gfold_grow L (gstep acc p)
      rw [h1]
      refine not_free_more ?_
      unfold gstep
      split
      · exact free_self
      · rename_i h2
        exact Bool.eq_false_iff.mpr h2
    · exact gfold_full L _ p h
theorem gfold_skip : ∀ (L acc : List Pr), (∀ p ∈ L, freeB acc p = false) → L.foldl gstep acc = acc
  | [], _, _ => rfl
  | q :: L, acc, h => by
    show L.foldl gstep (gstep acc q) = acc
    unfold gstep
    rw [if_neg (by rw [h q (List.mem_cons_self ..)]; decide)]
    exact gfold_skip L acc fun p hp => h p (List.mem_cons_of_mem _ hp)
/-- no place twice -/
def Apart (ps : List Pr) : Prop := ps.Pairwise fun p q => p.1 ≠ q.1 ∧ p.2 ≠ q.2
theorem gfold_apart : ∀ (L acc : List Pr), Apart acc → Apart (L.foldl gstep acc)
  | [], _, h => h
  | q :: L, acc, h => by
    show Apart (L.foldl gstep (gstep acc q))
    refine gfold_apart L _ ?_
    unfold gstep
    split
    · rename_i h2
      refine List.pairwise_append.mpr ⟨h, List.pairwise_singleton _ _, fun a ha b hb => ?_⟩
      rw [List.mem_singleton.mp hb]
      exact free_iff.mp h2 a ha
    · exact h
/-- the first that is free, put to those of a beginning -/
theorem first_free {L pre suf : List Pr} (hL : L = pre ++ suf) : (L.find? (freeB (greedy pre)) = none ∧ greedy L = greedy pre) ∨ ∃ p s1 s2, L.find? (freeB (greedy pre)) = some p ∧ suf = s1 ++ p :: s2 ∧ greedy (pre ++ s1 ++ [p]) = greedy pre ++ [p] := by
  have e : L.find? (freeB (greedy pre)) = suf.find? (freeB (greedy pre)) := by
    rw [hL, List.find?_append, List.find?_eq_none.mpr fun p hp => by rw [show freeB (greedy pre) p = false from gfold_full pre [] p hp]; decide]
    rfl
  rw [e]
  cases h : suf.find? (freeB (greedy pre)) with
  | none =>
    refine .inl ⟨rfl, ?_⟩
    rw [hL]
    show (pre ++ suf).foldl gstep [] = _
    rw [List.foldl_append]
    exact gfold_skip suf _ fun p hp => by
      have := List.find?_eq_none.mp h p hp
      exact Bool.eq_false_iff.mpr this
  | some p =>
    obtain ⟨hp, s1, s2, hs, h1⟩ := List.find?_eq_some_iff_append.mp h
    refine .inr ⟨p, s1, s2, rfl, hs, ?_⟩
    show (pre ++ s1 ++ [p]).foldl gstep [] = _
    rw [List.foldl_append, List.foldl_append]
    have e1 : s1.foldl gstep (pre.foldl gstep []) = pre.foldl gstep [] := gfold_skip s1 _ fun q hq => by
      have h2 := h1 q hq
      show freeB (greedy pre) q = false
      simpa using h2
    rw [e1]
    exact gstep_t hp
/-! ### pairs -/
structure Prs (M : Mat) (ps : List Pr) : Prop where
  ask : ∀ p ∈ ps, cell M p.1 p.2 = 1
  rise : (ps.map (·.1)).Pairwise (· < ·)
  once : (ps.map (·.2)).Nodup
theorem prs_of {M : Mat} {ps : List Pr} (h1 : ∀ p ∈ ps, cell M p.1 p.2 = 1) (h2 : ps.Pairwise lexN) (h3 : Apart ps) : Prs M ps := by
  refine ⟨h1, List.pairwise_map.mpr ?_, ?_⟩
  · refine (h2.and h3).imp fun {p q} h => ?_
    rcases h.1 with h4 | h4
    · exact h4
    · exact absurd h4.1 h.2.1
  · exact List.pairwise_map.mpr (h3.imp fun {p q} h => h.2)
theorem greedy_prs (M : Mat) : Prs M (greedy (asksN M)) := by
  obtain ⟨s, h1, h2⟩ := gfold_grow (asksN M) []
  have e : greedy (asksN M) = s := h1
  refine prs_of (fun p hp => mem_asks.mp ?_) ?_ (gfold_apart _ _ List.Pairwise.nil)
  · rw [e] at hp
    exact h2.subset hp
  · rw [e]
    exact (asks_lex M).sublist h2
theorem Prs.lt {M : Mat} {ps : List Pr} (h : Prs M ps) {p : Pr} (hp : p ∈ ps) : p.1 < M.length ∧ p.2 < (M.getD p.1 []).length := by
  have h1 := h.ask p hp
  unfold cell at h1
  constructor
  · rw [List.getD_eq_getElem?_getD (l := M)] at h1
    cases e : M[p.1]? with
    | none => rw [e] at h1; simp at h1
    | some r => exact (List.getElem?_eq_some_iff.mp e).1
  · rw [List.getD_eq_getElem?_getD] at h1
    cases e : (M.getD p.1 [])[p.2]? with
    | none => rw [e] at h1; simp at h1
    | some r => exact (List.getElem?_eq_some_iff.mp e).1
theorem sub_len {α : Type} [DecidableEq α] : ∀ {xs ys : List α}, xs.Nodup → (∀ x ∈ xs, x ∈ ys) → xs.length ≤ ys.length
  | [], _, _, _ => Nat.zero_le _
  | x :: xs, ys, h, hs => by
    obtain ⟨h1, h2⟩ := List.nodup_cons.mp h
    have hx := hs x (List.mem_cons_self ..)
    have := sub_len (xs := xs) (ys := ys.erase x) h2 fun y hy => (List.mem_erase_of_ne (fun (e : y = x) => h1 (e ▸ hy))).mpr (hs y (List.mem_cons_of_mem _ hy))
    rw [List.length_erase_of_mem hx] at this
    have hp : 0 < ys.length := List.length_pos_of_mem hx
    rw [List.length_cons]
    omega
theorem nodup_len {ns : List Nat} {n : Nat} (h : ns.Nodup) (hn : ∀ x ∈ ns, x < n) : ns.length ≤ n := by
  have := sub_len h (ys := List.range n) fun x hx => List.mem_range.mpr (hn x hx)
  rwa [List.length_range] at this
theorem rise_len {ns : List Nat} {n : Nat} (h : ns.Pairwise (· < ·)) (hn : ∀ x ∈ ns, x < n) : ns.length ≤ n := nodup_len (h.imp fun {a b} hab => Nat.ne_of_lt hab) hn
theorem Prs.len {M : Mat} {ps : List Pr} (h : Prs M ps) : ps.length ≤ M.length := by
  have := rise_len h.rise (n := M.length) fun x hx => by
    obtain ⟨p, hp, rfl⟩ := List.mem_map.mp hx
    exact (h.lt hp).1
  rwa [List.length_map] at this
/-! ### rising -/
def risesB : List Int → Bool
  | a :: b :: r => decide (a < b) && risesB (b :: r)
  | _ => true
theorem rises_iff : ∀ {ns : List Int}, risesB ns = true ↔ ns.Pairwise (· < ·)
  | [] => by simp [risesB]
  | [a] => by simp [risesB]
  | a :: b :: r => by
    have ih := rises_iff (ns := b :: r)
    rw [risesB, Bool.and_eq_true, decide_eq_true_eq, ih, List.pairwise_cons (a := a)]
    constructor
    · rintro ⟨h1, h2⟩
      refine ⟨fun x hx => ?_, h2⟩
      rcases List.mem_cons.mp hx with rfl | hx
      · exact h1
      · exact Int.lt_trans h1 ((List.pairwise_cons.mp h2).1 x hx)
    · rintro ⟨h1, h2⟩
      exact ⟨h1 b (List.mem_cons_self ..), h2⟩
theorem rises_zip : ∀ ns : List Int, ((ns.zip (ns.drop 1)).map fun p => decide (p.1 < p.2)).all id = risesB ns
  | [] => rfl
  | [a] => rfl
  | a :: b :: r => by
    have ih := rises_zip (b :: r)
    show ((a, b) :: (b :: r).zip r |>.map fun p => decide (p.1 < p.2)).all id = _
    rw [List.map_cons, List.all_cons]
    show (decide (a < b) && (((b :: r).zip ((b :: r).drop 1)).map _).all id) = _
    rw [ih, risesB]
theorem rises_nat {ns : List Nat} (h : ns.Pairwise (· < ·)) : risesB (ns.map fun n : Nat => (n : Int)) = true := rises_iff.mpr (List.pairwise_map.mpr (h.imp fun {a b} hab => by omega))
theorem rises_sorted {ns : List Nat} (h : ns.Nodup) {ms : List Int} (hp : ms.Perm (ns.map fun n : Nat => (n : Int))) (hs : ms.Pairwise (· ≤ ·)) : risesB ms = true := by
  refine rises_iff.mpr ?_
  have hn : ms.Nodup := hp.nodup_iff.mpr (List.pairwise_map.mpr (h.imp fun {a b} hab => by omega))
  exact (hs.and hn).imp fun {a b} hab => by omega
theorem contains_nat {ns : List Nat} {k : Nat} : (ns.map fun n : Nat => (n : Int)).contains (k : Int) = ns.contains k := by
  rw [Bool.eq_iff_iff, List.contains_iff_mem, List.contains_iff_mem, List.mem_map]
  exact ⟨fun ⟨a, ha, e⟩ => by
    have e' : a = k := by omega
    rw [← e']; exact ha, fun h => ⟨k, h, rfl⟩⟩
end Cg

set_option Elab.async false
set_option linter.all false
set_option maxRecDepth 100000
set_option maxHeartbeats 1000000
namespace Cg
open PySem PySem.Spec PyProof.Rows L2 Evl
/-! ### one of a new list: [a, b, ..][k] -/
theorem RepL.get {bs : List Addr} {H : Hp} : ∀ {vs : List V} {ts : List T} {A : List Addr}, RepL bs H vs ts A → ∀ {j : Nat} {t : T}, ts[j]? = some t → ∃ v B, vs[j]? = some v ∧ Rep bs H v t B ∧ B.Sublist A
  | _, _, _, .nil, j, t, e => by simp at e
  | _, _, _, .cons (A := A) (B := B) h k, 0, t, e => by
    have e' := Option.some.inj e
    subst e'
    exact ⟨_, A, rfl, h, List.sublist_append_left _ _⟩
  | _, _, _, .cons (A := A) (B := B) h k, j + 1, t, e => by
    obtain ⟨v, C, h1, h2, h3⟩ := RepL.get k (j := j) (t := t) e
    exact ⟨v, C, h1, h2, h3.trans (List.sublist_append_right _ _)⟩
def wPickT (ws : WTs) (we : WE) : WT := fun ε N R => ws ε N fun ts N1 => ts.length ≤ 100000 ∧ we ε N1 fun d N2 => dInt d fun k => ∃ t, L2.atI ts k = some t ∧ R t N2
theorem wPickT_eq {ws : WTs} {we : WE} {ε : Env} {N : Nat} {R : T → Nat → Prop} : wPickT ws we ε N R = ws ε N fun ts N1 => ts.length ≤ 100000 ∧ we ε N1 fun d N2 => dInt d fun k => ∃ t, L2.atI ts k = some t ∧ R t N2 := propext Iff.rfl
end Cg

set_option Elab.async false
set_option linter.all false
set_option maxRecDepth 100000
set_option maxHeartbeats 1000000
namespace Cg
open PySem PySem.Spec PyProof.Rows L2 Evl
/-! ### lists within what is its own, changed in place -/
section
variable {c : Base} {bs F A : List Addr} {σ : L2.St} {H H' : Hp} {ε : Env} {N N' : Nat} {te ta tb : TE} {wt : WT} {wa wb : WE}
/-- one of the lists that the slots own stands otherwise -/
theorem Rel.swap {pre post A0 A' : List Addr} {a : Addr} {vs' : List V} {ε' : Env} (r : Rel c bs (pre ++ (a :: A0 ++ post)) σ H ε N) (nd' : A'.Nodup) (ha' : a ∉ A') (hx' : ∀ x ∈ A', x ∈ A0 ∨ (x ∈ bs ∧ x ∉ pre ++ (a :: A0 ++ post) ∧ c.P x = none ∧ x ∉ c.bs0))
    (env : RelE c.b bs (upd H a (.lst vs')) σ ε' (pre ++ (a :: A' ++ post))) : Rel c bs (pre ++ (a :: A' ++ post)) σ (upd H a (.lst vs')) ε' N := by
  have hmem : ∀ x ∈ a :: A0, x ∈ pre ++ (a :: A0 ++ post) := fun x hx => List.mem_append_right _ (List.mem_append_left _ hx)
  have ain := hmem a (List.mem_cons_self ..)
  have abs := r.sub a ain
  have aout : ∀ x ∈ pre ++ post, x ≠ a := fun x hx z => by
    subst z
    obtain ⟨_, p2, p3⟩ := List.nodup_append.mp r.nd
    rcases List.mem_append.mp hx with h | h
    · exact p3 x h x (List.mem_append_left _ (List.mem_cons_self ..)) rfl
    · exact (List.nodup_append.mp p2).2.2 x (List.mem_cons_self ..) x h rfl
  have A0out : ∀ x ∈ A0, x ∉ pre ∧ x ∉ post := fun x hx => by
    obtain ⟨_, p2, p3⟩ := List.nodup_append.mp r.nd
    exact ⟨fun z => p3 x z x (List.mem_append_left _ (List.mem_cons_of_mem _ hx)) rfl, fun z => (List.nodup_append.mp p2).2.2 x (List.mem_cons_of_mem _ hx) x z rfl⟩
  have kk : Keep bs H (upd H a (.lst vs')) := (Keep.refl _ _).put abs
  have hm : ∀ x ∈ pre ++ (a :: A' ++ post), x ∈ pre ++ (a :: A0 ++ post) ∨ (x ∈ A' ∧ x ∉ A0) := fun x hx => by
    rcases mem_mid hx with h | h | h | h
    · exact .inl (List.mem_append_left _ h)
    · rw [h]; exact .inl ain
    · by_cases hA : x ∈ A0
      · exact .inl (hmem x (List.mem_cons_of_mem _ hA))
      · exact .inr ⟨h, hA⟩
    · exact .inl (List.mem_append_right _ (List.mem_append_right _ h))
  have hnew : ∀ x, x ∈ A' ∧ x ∉ A0 → x ∈ bs ∧ x ∉ pre ++ (a :: A0 ++ post) ∧ c.P x = none ∧ x ∉ c.bs0 := fun x hx => (hx' x hx.1).elim (fun z => absurd z hx.2) id
  refine ⟨env, nodup_mid r.nd (List.nodup_cons.mpr ⟨ha', nd'⟩) fun x hx => ?_, fun x hx => (hm x hx).elim (r.sub x) fun z => (hnew x z).1, fun x hx => (hm x hx).elim (r.off x) fun z => (hnew x z).2.2.1, fun x hx => (hm x hx).elim (r.nb x) fun z => (hnew x z).2.2.2, r.up, r.bb, r.offb, fun x hx => ?_, fun x hx xs z => ?_, fun x hx => ?_, fun x o e => ?_, r.vis.trans kk⟩
  · rcases List.mem_cons.mp hx with h | h
    · subst h
      exact ⟨fun z => aout x (List.mem_append_left _ z) rfl, fun z => aout x (List.mem_append_right _ z) rfl⟩
    · by_cases hA : x ∈ A0
      · exact A0out x hA
      · have := (hnew x ⟨h, hA⟩).2.1
        exact ⟨fun z => this (List.mem_append_left _ z), fun z => this (List.mem_append_right _ (List.mem_append_right _ z))⟩
  · by_cases hxa : x = a
    · subst hxa; rw [upd_same]; exact fun z => nomatch z
    · rw [upd_ne hxa]; exact r.live x hx
  · by_cases hxa : x = a
    · subst hxa; rw [upd_same] at z; cases z; trivial
    · rw [upd_ne hxa] at z; exact r.nt x hx xs z
  · exact (r.box x hx).put (fun z => r.fb a ain (z ▸ hx))
  · rw [upd_ne (fun (z : x = a) => by rw [z, r.off a ain] at e; cases e)]
    exact r.pin x o e
/-- a list or a tuple that is its own -/
def mkT (b : Bool) (ts : List T) : T := match b with
  | true => .lst ts
  | false => .tup ts
def atOwnB (o : Option Sl) (k : Bool → List T → Prop) : Prop := match o with
  | some (.is (.lst ts)) => k true ts
  | some (.is (.tup ts)) => k false ts
  | _ => False
theorem atOwnB_lst {ts : List T} {k : Bool → List T → Prop} : atOwnB (some (.is (.lst ts))) k = k true ts := propext Iff.rfl
theorem atOwnB_tup {ts : List T} {k : Bool → List T → Prop} : atOwnB (some (.is (.tup ts))) k = k false ts := propext Iff.rfl
/-- the list at this index -/
def atL (ts : List T) (d : PyData) (k : Nat → List T → Prop) : Prop := match d with
  | .int i => ∃ j us, ixN ts.length i = some j ∧ ts[j]? = some (.lst us) ∧ k j us
  | _ => False
theorem atL_int {ts : List T} {i : Int} {k : Nat → List T → Prop} : atL ts (.int i) k = ∃ j us, ixN ts.length i = some j ∧ ts[j]? = some (.lst us) ∧ k j us := propext Iff.rfl
theorem mkT_t {ts : List T} : mkT true ts = .lst ts := rfl
theorem mkT_f {ts : List T} : mkT false ts = .tup ts := rfl
/-- x[k1].append(e) -/
def wApp2 (i : Nat) (wk : WE) (wt : WT) : WS := fun D ε N => atOwnB ε[i]? fun b ts => wk ε N fun d N1 => atL ts d fun j us => wt ε N1 fun t N2 => us.length ≤ 100000 ∧ D.nx (ε.set i (.is (mkT b (ts.set j (.lst (us ++ [t])))))) N2
theorem wApp2_eq {i : Nat} {wk : WE} {wt : WT} {D : EW} : wApp2 i wk wt D ε N = atOwnB ε[i]? fun b ts => wk ε N fun d N1 => atL ts d fun j us => wt ε N1 fun t N2 => us.length ≤ 100000 ∧ D.nx (ε.set i (.is (mkT b (ts.set j (.lst (us ++ [t])))))) N2 := propext Iff.rfl
/-- x[k1][k] = e -/
def wSet2 (i : Nat) (wk wl : WE) (wt : WT) : WS := fun D ε N => atOwnB ε[i]? fun b ts => wt ε N fun t N1 => wk ε N1 fun d N2 => atL ts d fun j us => wl ε N2 fun f N3 => dInt f fun k => ∃ l, ixN us.length k = some l ∧ D.nx (ε.set i (.is (mkT b (ts.set j (.lst (us.set l t)))))) N3
theorem wSet2_eq {i : Nat} {wk wl : WE} {wt : WT} {D : EW} : wSet2 i wk wl wt D ε N = atOwnB ε[i]? fun b ts => wt ε N fun t N1 => wk ε N1 fun d N2 => atL ts d fun j us => wl ε N2 fun f N3 => dInt f fun k => ∃ l, ixN us.length k = some l ∧ D.nx (ε.set i (.is (mkT b (ts.set j (.lst (us.set l t)))))) N3 := propext Iff.rfl
/-- x[k], y[l] = (d, e), both shared -/
def wSetP (i : Nat) (wk wa : WE) (j : Nat) (wl wb : WE) : WS := fun D ε N => wa ε N fun d N1 => wb ε N1 fun e N2 => atOwn ε[i]? fun ts => wk ε N2 fun f N3 => dInt f fun k => ∃ p, ixN ts.length k = some p ∧ atOwn (ε.set i (.is (.lst (ts.set p (.sh d)))))[j]? fun us => wl (ε.set i (.is (.lst (ts.set p (.sh d))))) N3 fun g N4 => dInt g fun l => ∃ q, ixN us.length l = some q ∧ D.nx ((ε.set i (.is (.lst (ts.set p (.sh d))))).set j (.is (.lst (us.set q (.sh e))))) N4
theorem wSetP_eq {i : Nat} {wk wa : WE} {j : Nat} {wl wb : WE} {D : EW} : wSetP i wk wa j wl wb D ε N = wa ε N fun d N1 => wb ε N1 fun e N2 => atOwn ε[i]? fun ts => wk ε N2 fun f N3 => dInt f fun k => ∃ p, ixN ts.length k = some p ∧ atOwn (ε.set i (.is (.lst (ts.set p (.sh d)))))[j]? fun us => wl (ε.set i (.is (.lst (ts.set p (.sh d))))) N3 fun g N4 => dInt g fun l => ∃ q, ixN us.length l = some q ∧ D.nx ((ε.set i (.is (.lst (ts.set p (.sh d))))).set j (.is (.lst (us.set q (.sh e))))) N4 := propext Iff.rfl
theorem atOwn_some {o : Option Sl} {k : List T → Prop} (h : atOwn o k) : ∃ ts, o = some (.is (.lst ts)) ∧ k ts := by
  unfold atOwn at h
  split at h
  · exact ⟨_, rfl, h⟩
  · exact h.elim
/-- x += e, two ints -/
def wAug (i : Nat) (we : WE) : WS := fun D ε N => atSh ε[i]? fun d => dInt d fun x => we ε N fun e N1 => dInt e fun y => D.nx (ε.set i (.is (.sh (.int (x + y))))) N1
theorem wAug_eq {i : Nat} {we : WE} {D : EW} : wAug i we D ε N = atSh ε[i]? fun d => dInt d fun x => we ε N fun e N1 => dInt e fun y => D.nx (ε.set i (.is (.sh (.int (x + y))))) N1 := propext Iff.rfl
theorem atIs_some {o : Option Sl} {k : T → Prop} (h : atIs o k) : ∃ t, o = some (.is t) ∧ k t := by
  unfold atIs at h
  split at h
  · exact ⟨_, rfl, h⟩
  · exact h.elim
/-- return (x, y), both its own -/
def wRetV2 (i j : Nat) : WS := fun D ε N => atIs ε[i]? fun t => atIs ε[j]? fun u => D.rt (.tup [t, u]) N
theorem wRetV2_eq {i j : Nat} {D : EW} : wRetV2 i j D ε N = atIs ε[i]? fun t => atIs ε[j]? fun u => D.rt (.tup [t, u]) N := propext Iff.rfl
end
/-! ### sum of a list or a tuple of ints -/
section
variable {prog : Program} {w : World} {A : Around} {E : Value → Shared → Prop} {s : Shared} {l : Addr} {its : List Value} {ns : List Int} {Q : Value → Shared → Prop}
end
def oSumS : OC
  | [d], S => match seqOf d with
    | some ds => match intsOf ds with
      | some ns => S (.int ns.sum)
      | none => False
    | none => False
  | _, _ => False
theorem oSumS_list {ns : List Int} {S : PyData → Prop} : oSumS [.list (ns.map PyData.int)] S = S (.int ns.sum) := by
  show (match intsOf (ns.map PyData.int) with | some ns => S (.int ns.sum) | none => False) = _
  rw [intsOf_map]
theorem oSumS_tup {ns : List Int} {S : PyData → Prop} : oSumS [.tuple (ns.map PyData.int)] S = S (.int ns.sum) := by
  show (match intsOf (ns.map PyData.int) with | some ns => S (.int ns.sum) | none => False) = _
  rw [intsOf_map]
theorem oSumS_seq {kd : Bool} {ns : List Int} {S : PyData → Prop} : oSumS [seqD kd (ns.map PyData.int)] S = S (.int ns.sum) := by
  cases kd
  · exact oSumS_tup
  · exact oSumS_list
end Cg

set_option Elab.async false
set_option linter.all false
set_option maxRecDepth 100000
set_option maxHeartbeats 1000000
namespace Cg
open PySem PySem.Spec PyProof.Rows L2 Evl
section
variable {c : Base} {bs F A : List Addr} {σ : L2.St} {H H' : Hp} {ε : Env} {N N' : Nat} {te ta tb tk : TE} {wt : WT} {we wa wb wk : WE}
theorem Rel.appsh {i : Nat} {ts : List T} {v : V} {d : PyData} (r : Rel c bs F σ H ε N) (hl : ε[i]? = some (.is (.lst ts))) (hd : Dq (hid bs H) v d) : ∃ a vs F', σ[i]? = some (some (.ref a)) ∧ H a = some (.lst vs) ∧ vs.length = ts.length ∧ Rel c bs F' σ (upd H a (.lst (vs ++ [v]))) (ε.set i (.is (.lst (ts ++ [.sh d])))) N := by
  obtain ⟨a, vs, A0, g1, g2, g3, g4, g5, g6, g7, g8, g9, g10, g11⟩ := r.mutate hl
  have h := g3.append (RepL.one (.sh hd))
  rw [List.append_nil] at h
  obtain ⟨F', r3⟩ := g11 h g4 g5 fun x hx => .inl hx
  exact ⟨a, vs, F', g1, g2, g3.len, r3⟩
theorem Rel.popsh {j k : Nat} {us : List T} {d : PyData} (r : Rel c bs F σ H ε N) (hl : ε[j]? = some (.is (.lst us))) (hk : us[k]? = some (.sh d)) : ∃ b ws F' v, σ[j]? = some (some (.ref b)) ∧ b ∈ bs ∧ H b = some (.lst ws) ∧ ws.length = us.length ∧ ws[k]? = some v ∧ Dq (hid bs (upd H b (.lst (ws.eraseIdx k)))) v d ∧ Rel c bs F' σ (upd H b (.lst (ws.eraseIdx k))) (ε.set j (.is (.lst (us.eraseIdx k)))) N := by
  obtain ⟨a2, vs2, A0, g1, g2, g3, g4, g5, g6, g7, g8, g9, g10, g11⟩ := r.mutate hl
  obtain ⟨v0, A1, Av, A2, p1, p2, p3, p4, p5⟩ := g3.split hk
  cases p2 with
  | sh hv =>
    have p3' : A0 = A1 ++ A2 := p3
    subst p3'
    obtain ⟨F', r2⟩ := g11 p4 g4 g5 fun x hx => .inl hx
    exact ⟨a2, vs2, F', v0, g1, g6, g2, g3.len, p1, hv.mono ((Keep.refl _ _).put g6), r2⟩
/-- x.append(y.pop(k)), what is popped being shared -/
def wAppPop (i j : Nat) (wk : WE) : WS := fun D ε N => atOwn ε[i]? fun ts => atOwn ε[j]? fun us => wk ε N fun f N1 => dInt f fun k => (0 ≤ k ∧ k < us.length ∧ k ≤ 1000000 ∧ ts.length ≤ 100000) ∧ ∃ d, us[k.toNat]? = some (.sh d) ∧ D.nx ((ε.set j (.is (.lst (us.eraseIdx k.toNat)))).set i (.is (.lst (ts ++ [.sh d])))) N1
theorem wAppPop_eq {i j : Nat} {D : EW} : wAppPop i j wk D ε N = atOwn ε[i]? fun ts => atOwn ε[j]? fun us => wk ε N fun f N1 => dInt f fun k => (0 ≤ k ∧ k < us.length ∧ k ≤ 1000000 ∧ ts.length ≤ 100000) ∧ ∃ d, us[k.toNat]? = some (.sh d) ∧ D.nx ((ε.set j (.is (.lst (us.eraseIdx k.toNat)))).set i (.is (.lst (ts ++ [.sh d])))) N1 := propext Iff.rfl
theorem sim_appPop {K : PySem.W.Frag} {i j : Nat} (hij : j ≠ i) (hk : SimE tk wk) : SimS (tDrop (tBM K "list" rAppend (tVar i) (tCons (tBM K "list" rPopAt (tVar j) (tCons tk tNil)) tNil))) (wAppPop i j wk) := fun {c bs F σ H ε N DW D} r w m => by
  obtain ⟨ts, hl1, w⟩ := atOwn_some w
  obtain ⟨us, hl2, w⟩ := atOwn_some w
  obtain ⟨a, hs, hab, vs, hH⟩ := slot_own r hl1
  obtain ⟨b, hs2, hbb, ws, hH2⟩ := slot_own r hl2
  refine ⟨.ref a, hs, .inl ⟨rfl, vs, SqL.of hH⟩, .ref b, hs2, .inl ⟨rfl, ws, SqL.of hH2⟩, hk r w fun u d N1 H1 w1 o1 hd => ?_⟩
  cases d <;> first | exact False.elim w1 | skip
  rename_i k
  obtain ⟨⟨k0, k1, k2, k3⟩, f, hf, w2⟩ := w1
  cases hd
  have r1 := r.out o1
  obtain ⟨b', ws', F', v0, g1, g2, g3, g4, g5, g6, r2⟩ := r1.popsh hl2 hf
  have eb : b' = b := by
    have := g1.symm.trans hs2
    cases this
    rfl
  subst eb
  have hl1' : (ε.set j (.is (.lst (us.eraseIdx k.toNat))))[i]? = some (.is (.lst ts)) := by rw [List.getElem?_set_ne hij]; exact hl1
  obtain ⟨a', vs', F2, h1, h2, h3, r3⟩ := r2.appsh hl1' g6
  have ea : a' = a := by
    have := h1.symm.trans hs
    cases this
    rfl
  subst ea
  have ek : k = ((k.toNat : Nat) : Int) := by omega
  refine ⟨b', ws', k, k.toNat, v0, rfl, rfl, g3, by omega, by omega, ?_, g5, ?_⟩
  · rw [ek]
    exact seqIx' (by rw [g4]; omega)
  · exact ⟨a', vs', v0, rfl, rfl, h2, by rw [h3]; exact Nat.lt_of_le_of_lt k3 (by decide), m.nx r3 w2⟩
/-- x.append((e, y.pop(k))) -/
def wAppPopT (i j : Nat) (we wk : WE) : WS := fun D ε N => atOwn ε[i]? fun ts => we ε N fun e N1 => atOwn ε[j]? fun us => wk ε N1 fun f N2 => dInt f fun k => (0 ≤ k ∧ k < us.length ∧ k ≤ 1000000 ∧ ts.length ≤ 100000) ∧ ∃ d, us[k.toNat]? = some (.sh d) ∧ D.nx ((ε.set j (.is (.lst (us.eraseIdx k.toNat)))).set i (.is (.lst (ts ++ [.sh (.tuple [e, d])])))) N2
theorem wAppPopT_eq {i j : Nat} {D : EW} : wAppPopT i j we wk D ε N = atOwn ε[i]? fun ts => we ε N fun e N1 => atOwn ε[j]? fun us => wk ε N1 fun f N2 => dInt f fun k => (0 ≤ k ∧ k < us.length ∧ k ≤ 1000000 ∧ ts.length ≤ 100000) ∧ ∃ d, us[k.toNat]? = some (.sh d) ∧ D.nx ((ε.set j (.is (.lst (us.eraseIdx k.toNat)))).set i (.is (.lst (ts ++ [.sh (.tuple [e, d])])))) N2 := propext Iff.rfl
/-- x[k].reverse() -/
def wRev2 (i : Nat) (wk : WE) : WS := fun D ε N => atOwnB ε[i]? fun b ts => wk ε N fun d N1 => atL ts d fun j us => D.nx (ε.set i (.is (mkT b (ts.set j (.lst us.reverse))))) N1
theorem wRev2_eq {i : Nat} {D : EW} : wRev2 i wk D ε N = atOwnB ε[i]? fun b ts => wk ε N fun d N1 => atL ts d fun j us => D.nx (ε.set i (.is (mkT b (ts.set j (.lst us.reverse))))) N1 := propext Iff.rfl
end
/-! ### xs.index(x), texts -/
def oIndexS : PyData → List PyData → (PyData → Prop) → Prop := fun d es S => match d, es with
  | .list ds, [.str x] => ∃ ss : List Str, ds = ss.map PyData.str ∧ ∃ j, ss[j]? = some x ∧ (∀ m, m < j → ss[m]? ≠ some x) ∧ S (.int (j : Nat))
  | _, _ => False
theorem oIndexS_is {ds : List PyData} {x : Str} {S : PyData → Prop} : oIndexS (.list ds) [.str x] S = ∃ ss : List Str, ds = ss.map PyData.str ∧ ∃ j, ss[j]? = some x ∧ (∀ m, m < j → ss[m]? ≠ some x) ∧ S (.int (j : Nat)) := propext Iff.rfl
theorem wBmL_eq {o : PyData → List PyData → (PyData → Prop) → Prop} {wa : WE} {was : WA} {ε : Env} {N : Nat} {R : PyData → Nat → Prop} : wBmL o wa was ε N R = wa ε N fun d N1 => isList d = true ∧ was ε N1 fun ds N2 => o d ds fun f => R f N2 := propext Iff.rfl
/-! ### x is True, x is not False -/
section
variable {M : Model} {A : Around} {Q : Value → Shared → Prop} {E : Value → Shared → Prop} {s : Shared}
theorem is_bool {a b : Bool} (h : Q (.bool (a == b)) s) : wpAny M A (compareOp .Is (.bool a) (.bool b)) Q E s := by cases a <;> cases b <;> exact wpAny_pure h
end
def rIsB (neg : Bool) : R2 := fun x y H Q => ∃ a b, x = .bl a ∧ y = .bl b ∧ Q (.bl (if neg then !(a == b) else (a == b))) H
theorem op_isB {X : Cx} : OpR X (compareOp .Is) (rIsB false) := by
  intro pins s σ H x y v u Q I rx ry h
  obtain ⟨a, b, rfl, rfl, q⟩ := h
  cases rx
  cases ry
  exact is_bool (fin_bl I q rfl)
def oIsB (neg : Bool) : O2 := fun d e S => match d, e with
  | .bool a, .bool b => S (.bool (if neg then !(a == b) else (a == b)))
  | _, _ => False
theorem od_isB {neg : Bool} : OpD (rIsB neg) (oIsB neg) := fun {hs H x y d e S Q} l hx hy w q => by
  unfold oIsB at w
  split at w
  · cases hx
    cases hy
    exact ⟨_, _, rfl, rfl, q _ _ H w (Same.refl _) (.bl _)⟩
  · exact w.elim
theorem oIsB_is {neg a b : Bool} {S : PyData → Prop} : oIsB neg (.bool a) (.bool b) S = S (.bool (if neg then !(a == b) else (a == b))) := propext Iff.rfl
/-! ### four at once -/
/-! ### return [x, e, ..][k], x its own -/
def wRetPick (i : Nat) (ws : WTs) (we : WE) : WS := fun D ε N => atIs ε[i]? fun t0 => ws ε N fun ts N1 => ts.length ≤ 99999 ∧ we ε N1 fun d N2 => dInt d fun k => ∃ t, L2.atI (t0 :: ts) k = some t ∧ D.rt t N2
theorem wRetPick_eq {i : Nat} {ws : WTs} {we : WE} {D : EW} {ε : Env} {N : Nat} : wRetPick i ws we D ε N = atIs ε[i]? fun t0 => ws ε N fun ts N1 => ts.length ≤ 99999 ∧ we ε N1 fun d N2 => dInt d fun k => ∃ t, L2.atI (t0 :: ts) k = some t ∧ D.rt t N2 := propext Iff.rfl
end Cg

set_option Elab.async false
set_option linter.all false
set_option maxRecDepth 100000
set_option maxHeartbeats 1000000
namespace Cg
open PySem PySem.Spec PyProof.Rows L2 Evl
/-! ### a builtin's method within a comprehension: K is named -/
section
variable {X : Cx} {o e : Expr} {es : List Expr} {to : TE} {t : TA} {name : Str} {apos cpos : Pos} {T id : String} {r : V → List V → Hp → VK → Prop}
end
theorem oCount_list {ns : List Int} {k : Int} {S : PyData → Prop} : oCount (.list (ns.map PyData.int)) [.int k] S = S (.int (ns.count k : Nat)) := by
  show (match intsOf (ns.map PyData.int) with | some ns => S (.int (ns.count k : Nat)) | none => False) = _
  rw [intsOf_map]
/-! ### three walked at once -/
/-! ### sorted, tuples of ints of one length -/
end Cg

set_option Elab.async false
set_option linter.all false
set_option maxRecDepth 100000
set_option maxHeartbeats 1000000
namespace Cg
open PySem PySem.Spec PyProof.Rows L2 Evl
/-! ### a law with one box: what stands behind the box, by value -/
end Cg

set_option Elab.async false
set_option linter.all false
set_option maxRecDepth 100000
set_option maxHeartbeats 1000000
namespace Cg
open PySem PySem.Spec PyProof.Rows L2 Evl
/-! ### dicts of its own: a slot that holds one -/
section
variable {c : Base} {bs F : List Addr} {σ : L2.St} {H : Hp} {ε : Env} {N : Nat}
theorem Rel.dic {i : Nat} {kvs : List (Key × V)} (r : Rel c bs F σ H ε N) (hl : ε[i]? = some (.dic kvs)) : ∃ a, σ[i]? = some (some (.ref a)) ∧ H a = some (.dK kvs) ∧ a ∈ bs ∧ a ∉ c.b ∧ a ∈ F ∧
    ∀ kvs', Rel c bs F σ (upd H a (.dK kvs')) (ε.set i (.dic kvs')) N := by
  obtain ⟨y, A, F1, F2, q1, q2, rfl, q4⟩ := r.env.at hl
  cases q2 with
  | dic e =>
    rename_i a
    have ain : a ∈ F1 ++ ([a] ++ F2) := List.mem_append_right _ (List.mem_append_left _ (List.mem_singleton.mpr rfl))
    have abs := r.sub a ain
    refine ⟨a, q1, e, abs, r.fb a ain, ain, fun kvs' => ?_⟩
    have aout : ∀ x ∈ F1 ++ F2, x ≠ a := fun x hx z => by
      subst z
      obtain ⟨_, p2, p3⟩ := List.nodup_append.mp r.nd
      rcases List.mem_append.mp hx with h | h
      · exact p3 x h x (List.mem_append_left _ (List.mem_singleton.mpr rfl)) rfl
      · exact (List.nodup_append.mp p2).2.2 x (List.mem_singleton.mpr rfl) x h rfl
    have kk : Keep bs H (upd H a (.dK kvs')) := (Keep.refl _ _).put abs
    have env := q4 (cs := bs) (H' := upd H a (.dK kvs')) (y := some (.ref a)) (m := .dic kvs') r.nt kk (fun x hx o e => by rw [upd_ne (aout x hx)]; exact e) (.dic upd_same)
    rw [set_same q1] at env
    refine ⟨env, r.nd, r.sub, r.off, r.nb, r.up, r.bb, r.offb, fun x hx => ?_, fun x hx xs z => ?_, fun x hx => ?_, fun x o e => ?_, r.vis.trans kk⟩
    · by_cases hxa : x = a
      · subst hxa; rw [upd_same]; exact fun z => nomatch z
      · rw [upd_ne hxa]; exact r.live x hx
    · by_cases hxa : x = a
      · subst hxa; rw [upd_same] at z; cases z; trivial
      · rw [upd_ne hxa] at z; exact r.nt x hx xs z
    · exact (r.box x hx).put (fun z => r.fb a ain (z ▸ hx))
    · rw [upd_ne (fun (z : x = a) => by rw [z, r.off a ain] at e; cases e)]
      exact r.pin x o e
end
def atDic (o : Option Sl) (k : List (Key × V) → Prop) : Prop := match o with
  | some (.dic kvs) => k kvs
  | _ => False
theorem atDic_is {kvs : List (Key × V)} {k : List (Key × V) → Prop} : atDic (some (.dic kvs)) k = k kvs := propext Iff.rfl
/-- d[e] = True, e an int -/
def wDPut (i : Nat) (we : WE) : WS := fun D ε N => atDic ε[i]? fun kvs => we ε N fun d N' => dInt d fun k => kvs.length ≤ 100000 ∧ D.nx (ε.set i (.dic (putK kvs (.inl k) (.bl true)))) N'
/-- list(d), keys that are ints -/
def intKeys : List (Key × V) → Option (List Int)
  | [] => some []
  | (.inl k, _) :: l => (intKeys l).map (k :: ·)
  | _ => none
def rListDK : List V → Hp → VK → Prop := fun xs H Q => ∃ (a : Addr) (kvs : List (Key × V)), xs = [.ref a] ∧ Rd H a (.dK kvs) ∧ ∀ p, H p = none → Q (.ref p) (upd H p (.lst (kvs.map fun kv => kV kv.1)))
def wDList (i : Nat) : WT := fun ε N R => atDic ε[i]? fun kvs => ∃ ks, intKeys kvs = some ks ∧ R (.lst (ks.map fun k => .sh (.int k))) N
theorem ints_dq {H : Hp} : ∀ ks : List Int, DqAll H (ks.map V.int) (ks.map PyData.int)
  | [] => .nil
  | k :: ks => .cons (.int k) (ints_dq ks)
section
variable {c : Base} {bs F : List Addr} {σ : L2.St} {H : Hp} {ε : Env} {N : Nat}
end
/-- d = {0: True} -/
def wDNew (i : Nat) (k : Int) : WS := fun D ε N => D.nx (ε.set i (.dic [(.inl k, .bl true)])) N
theorem wDPut_eq {i : Nat} {we : WE} {D : EW} {ε : Env} {N : Nat} : wDPut i we D ε N = atDic ε[i]? fun kvs => we ε N fun d N' => dInt d fun k => kvs.length ≤ 100000 ∧ D.nx (ε.set i (.dic (putK kvs (.inl k) (.bl true)))) N' := propext Iff.rfl
theorem wDList_eq {i : Nat} {ε : Env} {N : Nat} {R : T → Nat → Prop} : wDList i ε N R = atDic ε[i]? fun kvs => ∃ ks, intKeys kvs = some ks ∧ R (.lst (ks.map fun k => .sh (.int k))) N := propext Iff.rfl
theorem wDNew_eq {i : Nat} {k : Int} {D : EW} {ε : Env} {N : Nat} : wDNew i k D ε N = D.nx (ε.set i (.dic [(.inl k, .bl true)])) N := propext Iff.rfl
theorem listDK {X : Cx} (hc : X.calm = true := by rfl) : CallR X (.type "list") rListDK := call_listD hc
/-! ### bits, the greatest of a list -/
end Cg

set_option Elab.async false
set_option linter.all false
set_option maxRecDepth 100000
set_option maxHeartbeats 1000000
namespace Cg
open PySem PySem.Spec PyProof.Rows L2 Evl
/-! ### dicts of ints to ints, by value -/
def valI (kvs : List (Int × Int)) (k : Int) : Option Int := (kvs.find? fun p => decide (p.1 = k)).map (·.2)
def putI (kvs : List (Int × Int)) (k v : Int) : List (Int × Int) :=
  if (kvs.any fun p => decide (p.1 = k)) = true then kvs.map (fun p => if p.1 = k then (p.1, v) else p) else kvs ++ [(k, v)]
theorem inl_dec {x k : Int} : decide ((Sum.inl x : Key) = Sum.inl k) = decide (x = k) := by
  by_cases h : x = k
  · subst h; simp
  · rw [decide_eq_false h, decide_eq_false (fun z => h (Sum.inl.inj z))]
theorem valI_map : ∀ (kvs : List (Int × Int)) (k : Int), valV (kvs.map kvI) (Sum.inl k : Key) = (valI kvs k).map V.int
  | [], k => rfl
  | (x, y) :: kvs, k => by
    by_cases h : x = k
    · subst h
      rw [List.map_cons, valV_pos (show (kvI (x, y)).1 = Sum.inl x from rfl)]
      simp [valI, List.find?_cons, kvI]
    · rw [List.map_cons, valV_neg (show ¬ (kvI (x, y)).1 = Sum.inl k from fun z => h (Sum.inl.inj z)), valI_map kvs k]
      simp [valI, List.find?_cons, h]
theorem anyI_map : ∀ (kvs : List (Int × Int)) (k : Int), ((kvs.map kvI).any fun kv => decide (kv.1 = (Sum.inl k : Key))) = kvs.any fun p => decide (p.1 = k)
  | [], k => rfl
  | (x, y) :: kvs, k => by
    rw [List.map_cons, List.any_cons, List.any_cons, anyI_map kvs k]
    show (decide ((Sum.inl x : Key) = Sum.inl k) || _) = (decide (x = k) || _)
    rw [inl_dec]
theorem putI_map (kvs : List (Int × Int)) (k v : Int) : putK (kvs.map kvI) (Sum.inl k : Key) (.int v) = (putI kvs k v).map kvI := by
  unfold putK putI
  rw [anyI_map]
  split
  · rw [List.map_map, List.map_map]
    refine List.map_congr_left fun p _ => ?_
    show (if (Sum.inl p.1 : Key) = Sum.inl k then _ else _) = kvI (if p.1 = k then _ else _)
    by_cases h : p.1 = k
    · rw [if_pos h, if_pos (by rw [h])]; rfl
    · rw [if_neg h, if_neg (fun z => h (Sum.inl.inj z))]
  · rw [List.map_append]; rfl
theorem kdI_inj : ∀ {a b : List (Int × Int)}, a.map kdI = b.map kdI → a = b
  | [], [], _ => rfl
  | [], _ :: _, h => nomatch h
  | _ :: _, [], h => nomatch h
  | (x, y) :: a, (z, u) :: b, h => by
    rw [List.map_cons, List.map_cons] at h
    injection h with h1 h2
    have h3 : (PyData.int x, PyData.int y) = (PyData.int z, PyData.int u) := h1
    injection h3 with h4 h5
    injection h4 with h4
    injection h5 with h5
    rw [kdI_inj h2, h4, h5]
theorem Dq.dict_inv {H : Hp} {v : V} {d : PyData} {kvs : List (Int × Int)} (h : Dq H v d) (e : d = .dict (kvs.map kdI)) : ∃ a, v = .ref a ∧ H a = some (.dK (kvs.map kvI)) := by
  have no : ∀ {x y : PyData} {r : List (PyData × PyData)}, PyData.dict ((.none, x) :: r) = .dict (kvs.map kdI) → False := fun {x y r} z => by
    injection z with z
    cases kvs with
    | nil => cases z
    | cons p q =>
      rw [List.map_cons] at z
      injection z with z1 _
      injection z1 with z2 _
      cases z2
  have no2 : ∀ {b : Bool} {x : PyData} {r : List (PyData × PyData)}, PyData.dict ((.bool b, x) :: r) = .dict (kvs.map kdI) → False := fun {b x r} z => by
    injection z with z
    cases kvs with
    | nil => cases z
    | cons p q =>
      rw [List.map_cons] at z
      injection z with z1 _
      injection z1 with z2 _
      cases z2
  cases h <;> first | (cases e; done) | skip
  · rename_i a kvs' e'
    injection e with e
    rw [kdI_inj e] at e'
    exact ⟨a, rfl, e'⟩
  · exact (no (y := .none) e).elim
  · exact (no (y := .none) e).elim
  · exact (no (y := .none) e).elim
  · exact (no (y := .none) e).elim
  · exact (no2 e).elim
  · exact (no2 e).elim
/-- a slot holds that dict: its own, shared, or walked -/
def Dic (o : Option Sl) (kvs : List (Int × Int)) : Prop := o = some (.is (.dic kvs)) ∨ o = some (.is (.sh (.dict (kvs.map kdI)))) ∨ o = some (.dcF kvs)
def atD (o : Option Sl) (k : List (Int × Int) → Prop) : Prop := ∃ kvs, Dic o kvs ∧ k kvs
theorem atD_own {kvs : List (Int × Int)} {k : List (Int × Int) → Prop} : atD (some (.is (.dic kvs))) k = k kvs := propext ⟨fun ⟨kvs', h, q⟩ => by
  rcases h with h | h | h <;> first | (cases h; exact q) | (cases h; done), fun h => ⟨kvs, .inl rfl, h⟩⟩
theorem atD_frz {kvs : List (Int × Int)} {k : List (Int × Int) → Prop} : atD (some (.dcF kvs)) k = k kvs := propext ⟨fun ⟨kvs', h, q⟩ => by
  rcases h with h | h | h <;> first | (cases h; exact q) | (cases h; done), fun h => ⟨kvs, .inr (.inr rfl), h⟩⟩
theorem atD_sh {kvs : List (Int × Int)} {k : List (Int × Int) → Prop} : atD (some (.is (.sh (.dict (kvs.map kdI))))) k = k kvs := by
  refine propext ⟨fun h => ?_, fun h => ⟨kvs, .inr (.inl rfl), h⟩⟩
  obtain ⟨kvs', h, q⟩ := h
  rcases h with h | h | h
  · cases h
  · injection h with h
    injection h with h
    injection h with h
    injection h with h
    rw [kdI_inj h]
    exact q
  · cases h
section
variable {ta tb te tk tv : TE} {wa wb we wk wv : WE} {wt : WT} {c : Base} {bs F A B : List Addr} {σ : L2.St} {H H1 : Hp} {ε : Env} {N N1 : Nat} {v : V} {i : Nat}
theorem Rel.dicAt {kvs : List (Int × Int)} (r : Rel c bs F σ H ε N) (h : Dic ε[i]? kvs) : ∃ a, σ[i]? = some (some (.ref a)) ∧ Rd H a (.dK (kvs.map kvI)) := by
  rcases h with h | h | h
  · obtain ⟨y, A, F1, F2, q1, q2, _, _⟩ := r.env.at h
    cases q2 with
    | is q2 => cases q2 with
      | dic e => exact ⟨_, q1, .inl e⟩
  · obtain ⟨y, A, F1, F2, q1, q2, _, _⟩ := r.env.at h
    cases q2 with
    | is q2 => cases q2 with
      | sh hd =>
        obtain ⟨a2, rfl, e⟩ := hd.dict_inv rfl
        exact ⟨_, q1, .inl (hid_some e).2⟩
  · obtain ⟨y, A, F1, F2, q1, q2, _, _⟩ := r.env.at h
    cases q2 with
    | dcF e => exact ⟨_, q1, .inr ⟨_, (hid_some e).2⟩⟩
theorem same_ref {a b : Addr} {σ : L2.St} (h : σ[i]? = some (some (.ref a))) (k : σ[i]? = some (some (.ref b))) : a = b := by
  rw [h] at k
  cases k
  rfl
theorem dInt_some {d : PyData} {k : Int → Prop} (h : dInt d k) : ∃ x, d = .int x ∧ k x := by
  unfold dInt at h
  split at h
  · exact ⟨_, rfl, h⟩
  · exact h.elim
theorem dget {a : Addr} {kvs : List (Int × Int)} {k : Int} (h : Rd H a (.dK (kvs.map kvI))) : DGet H a (.int k) ((valI kvs k).map V.int) := .inl ⟨_, .inl k, h, rfl, (valI_map kvs k).symm⟩
/-- d[e] -/
def wDGet (i : Nat) (we : WE) : WE := fun ε N R => atD ε[i]? fun kvs => we ε N fun d N1 => dInt d fun k => ∃ v, valI kvs k = some v ∧ R (.int v) N1
theorem sim_dGet (h : SimE te we) : SimE (tDGet (tVar i) te) (wDGet i we) := fun {c bs F σ H ε N R Q} r w q => by
  obtain ⟨kvs, hk, w⟩ := w
  obtain ⟨a, q1, _⟩ := r.dicAt hk
  refine ⟨.ref a, q1, h r w fun v d N1 H1 w1 o1 hd => ?_⟩
  obtain ⟨k, rfl, x, hx, w2⟩ := dInt_some w1
  have ev := hd.int_inv
  subst ev
  obtain ⟨b, p1, p2⟩ := (r.out o1).dicAt hk
  rw [same_ref q1 p1]
  exact ⟨b, .int x, rfl, by have := dget (k := k) p2; rw [hx] at this; exact this, q _ _ N1 H1 w2 o1 (.int x)⟩
/-- e in d, e not in d -/
def wDIn (i : Nat) (we : WE) : WE := fun ε N R => atD ε[i]? fun kvs => we ε N fun d N1 => dInt d fun k => R (.bool (valI kvs k).isSome) N1
def wDNotIn (i : Nat) (we : WE) : WE := fun ε N R => atD ε[i]? fun kvs => we ε N fun d N1 => dInt d fun k => R (.bool (!(valI kvs k).isSome)) N1
theorem sim_dIn (h : SimE te we) : SimE (tDIn te (tVar i)) (wDIn i we) := fun {c bs F σ H ε N R Q} r w q => by
  obtain ⟨kvs, hk, w⟩ := w
  refine h r w fun v d N1 H1 w1 o1 hd => ?_
  obtain ⟨k, rfl, w2⟩ := dInt_some w1
  have ev := hd.int_inv
  subst ev
  obtain ⟨b, p1, p2⟩ := (r.out o1).dicAt hk
  refine ⟨.ref b, p1, b, _, rfl, dget (k := k) p2, ?_⟩
  rw [Option.isSome_map]
  exact q _ _ N1 H1 w2 o1 (.bl _)
theorem sim_dNotIn (h : SimE te we) : SimE (tDNotIn te (tVar i)) (wDNotIn i we) := fun {c bs F σ H ε N R Q} r w q => by
  obtain ⟨kvs, hk, w⟩ := w
  refine h r w fun v d N1 H1 w1 o1 hd => ?_
  obtain ⟨k, rfl, w2⟩ := dInt_some w1
  have ev := hd.int_inv
  subst ev
  obtain ⟨b, p1, p2⟩ := (r.out o1).dicAt hk
  refine ⟨.ref b, p1, b, _, rfl, dget (k := k) p2, ?_⟩
  rw [Option.isSome_map]
  exact q _ _ N1 H1 w2 o1 (.bl _)
def oInt? : Option Int → PyData
  | some v => .int v
  | none => .none
/-- d.get(e) -/
def wDGet1 (i : Nat) (we : WE) : WE := fun ε N R => atD ε[i]? fun kvs => we ε N fun d N1 => dInt d fun k => R (oInt? (valI kvs k)) N1
theorem sim_dGet1 (h : SimE te we) : SimE (tDGet1 (tVar i) te) (wDGet1 i we) := fun {c bs F σ H ε N R Q} r w q => by
  obtain ⟨kvs, hk, w⟩ := w
  obtain ⟨a, q1, q2⟩ := r.dicAt hk
  refine ⟨.ref a, q1, a, rfl, .inl ⟨_, q2⟩, h r w fun v d N1 H1 w1 o1 hd => ?_⟩
  obtain ⟨k, rfl, w2⟩ := dInt_some w1
  have ev := hd.int_inv
  subst ev
  obtain ⟨b, p1, p2⟩ := (r.out o1).dicAt hk
  rw [same_ref q1 p1]
  refine ⟨_, dget (k := k) p2, ?_⟩
  refine q _ (oInt? (valI kvs k)) N1 H1 w2 o1 ?_
  cases valI kvs k with
  | none => exact .non
  | some x => exact .int x
/-- {} -/
def wD0 : WT := fun ε N R => R (.dic []) N
theorem Nw.dic {p : Addr} {kvs : List (Int × Int)} (o : Out c H H1 N1) (np : H1 p = none) : Nw bs [p] H (upd H1 p (.dK (kvs.map kvI))) (.ref p) (.dic kvs) :=
  ⟨.dic upd_same, List.pairwise_singleton _ _, fun a ha => by rw [List.mem_singleton.mp ha]; exact out_none o np⟩
theorem sim_d0 : SimT tDNewK wD0 := fun {c bs F σ H ε N R Q} r w q => fun p np => q _ (.dic []) [p] N _ w (r.self.ext (Ex.new np)) (Nw.dic (kvs := []) r.self np)
/-- list(d), sorted(d) -/
def keysT (ks : List Int) : List T := ks.map fun k => T.sh (.int k)
def wDKeys (i : Nat) : WT := fun ε N R => atD ε[i]? fun kvs => R (.lst (keysT (kvs.map (·.1)))) N
theorem keys_kV (kvs : List (Int × Int)) : (kvs.map kvI).map (fun kv => kV kv.1) = (kvs.map (·.1)).map V.int := by
  rw [List.map_map, List.map_map]; rfl
theorem keysT_sh (ks : List Int) : keysT ks = (ks.map PyData.int).map T.sh := by unfold keysT; rw [List.map_map]; rfl
theorem sim_dKeys : SimT (tCB rListDK (tCons (tVar i) tNil)) (wDKeys i) := fun {c bs F σ H ε N R Q} r w q => by
  obtain ⟨kvs, hk, w⟩ := w
  obtain ⟨a, q1, q2⟩ := r.dicAt hk
  refine ⟨.ref a, q1, a, _, rfl, q2, fun p np => ?_⟩
  rw [keys_kV]
  rw [keysT_sh] at w
  exact q _ _ [p] N _ w (r.self.ext (Ex.new np)) (Nw.shs r.self (ints_dq _) np)
def wDSort (i : Nat) : WT := fun ε N R => atD ε[i]? fun kvs => kvs.length < 64 ∧ ∀ ys : List Int, ys.Perm (kvs.map (·.1)) → ys.Pairwise (· ≤ ·) → R (.lst (keysT ys)) N
/-- its own dict changed in place -/
theorem Rel.dicSet {kvs : List (Int × Int)} (r : Rel c bs F σ H ε N) (hl : ε[i]? = some (.is (.dic kvs))) : ∃ a, σ[i]? = some (some (.ref a)) ∧ H a = some (.dK (kvs.map kvI)) ∧ a ∈ bs ∧ a ∉ c.b ∧ a ∈ F ∧
    ∀ kvs' : List (Int × Int), Rel c bs F σ (upd H a (.dK (kvs'.map kvI))) (ε.set i (.is (.dic kvs'))) N := by
  obtain ⟨y, A, F1, F2, q1, q2, rfl, q4⟩ := r.env.at hl
  cases q2 with
  | is q2 => cases q2 with
    | dic e =>
      rename_i a
      have ain : a ∈ F1 ++ ([a] ++ F2) := List.mem_append_right _ (List.mem_append_left _ (List.mem_singleton.mpr rfl))
      have abs := r.sub a ain
      refine ⟨a, q1, e, abs, r.fb a ain, ain, fun kvs' => ?_⟩
      have aout : ∀ x ∈ F1 ++ F2, x ≠ a := fun x hx z => by
        subst z
        obtain ⟨_, p2, p3⟩ := List.nodup_append.mp r.nd
        rcases List.mem_append.mp hx with h | h
        · exact p3 x h x (List.mem_append_left _ (List.mem_singleton.mpr rfl)) rfl
        · exact (List.nodup_append.mp p2).2.2 x (List.mem_singleton.mpr rfl) x h rfl
      have kk : Keep bs H (upd H a (.dK (kvs'.map kvI))) := (Keep.refl _ _).put abs
      have env := q4 (cs := bs) (H' := upd H a (.dK (kvs'.map kvI))) (y := some (.ref a)) (m := .is (.dic kvs')) r.nt kk (fun x hx o e => by rw [upd_ne (aout x hx)]; exact e) (.is (.dic upd_same))
      rw [set_same q1] at env
      refine ⟨env, r.nd, r.sub, r.off, r.nb, r.up, r.bb, r.offb, fun x hx => ?_, fun x hx xs z => ?_, fun x hx => ?_, fun x o e => ?_, r.vis.trans kk⟩
      · by_cases hxa : x = a
        · subst hxa; rw [upd_same]; exact fun z => nomatch z
        · rw [upd_ne hxa]; exact r.live x hx
      · by_cases hxa : x = a
        · subst hxa; rw [upd_same] at z; cases z; trivial
        · rw [upd_ne hxa] at z; exact r.nt x hx xs z
      · exact (r.box x hx).put (fun z => r.fb a ain (z ▸ hx))
      · rw [upd_ne (fun (z : x = a) => by rw [z, r.off a ain] at e; cases e)]
        exact r.pin x o e
def atDO (o : Option Sl) (k : List (Int × Int) → Prop) : Prop := match o with
  | some (.is (.dic kvs)) => k kvs
  | _ => False
theorem atDO_some {o : Option Sl} {k : List (Int × Int) → Prop} (h : atDO o k) : ∃ kvs, o = some (.is (.dic kvs)) ∧ k kvs := by
  unfold atDO at h
  split at h
  · exact ⟨_, rfl, h⟩
  · exact h.elim
theorem atDO_is {kvs : List (Int × Int)} {k : List (Int × Int) → Prop} : atDO (some (.is (.dic kvs))) k = k kvs := propext Iff.rfl
/-- d[e] = f -/
def wDSet (i : Nat) (wk wv : WE) : WS := fun D ε N => atDO ε[i]? fun kvs => wv ε N fun d N1 => dInt d fun v => wk ε N1 fun e N2 => dInt e fun k => kvs.length ≤ 100000 ∧ D.nx (ε.set i (.is (.dic (putI kvs k v)))) N2
theorem sim_dSet (hk : SimE tk wk) (hv : SimE tv wv) : SimS (sDPut (tVar i) tk tv) (wDSet i wk wv) := fun {c bs F σ H ε N DW D} r w m => by
  obtain ⟨kvs, hl, w⟩ := atDO_some w
  refine hv r w fun v d N1 H1 w1 o1 hd => ?_
  obtain ⟨x, rfl, w1⟩ := dInt_some w1
  have ev := hd.int_inv
  subst ev
  have r1 := r.out o1
  obtain ⟨a, q1, q2, _, _, _, _⟩ := r1.dicSet hl
  refine ⟨.ref a, q1, hk r1 w1 fun u e N2 H2 w2 o2 he => ?_⟩
  obtain ⟨k, rfl, w2⟩ := dInt_some w2
  have ev := he.int_inv
  subst ev
  obtain ⟨a2, p1, p2, _, _, _, p6⟩ := (r1.out o2).dicSet hl
  rw [same_ref q1 p1]
  have e2 : putK (kvs.map kvI) (Sum.inl k : Key) (.int x) = (putI kvs k x).map kvI := putI_map kvs k x
  refine ⟨a2, _, rfl, DPut.k (k := .inl k) p2 (by rw [List.length_map]; exact Nat.lt_of_le_of_lt w2.1 (by decide)), ?_⟩
  rw [e2]
  exact m.nx (p6 _) w2.2
/-- {k: v for x in ..} -/
def wDc (wi : WI) (wg : WG) (wk wv : WE) (vs : List Nat) : WT := fun ε N R => wi ε N fun ds N1 => ds.length ≤ 40000 ∧ ∃ I : Nat → List (Int × Int) → Nat → Prop, I 0 [] N1 ∧
  (∀ k d kvs M, ds[k]? = some d → I k kvs M → wg d (wipeE ε vs) fun ε2 => wk ε2 M fun e M2 => dInt e fun x => wv ε2 M2 fun f M3 => dInt f fun y => I (k + 1) (putI kvs x y) M3) ∧ ∀ kvs M, I ds.length kvs M → R (.dic kvs) M
theorem putI_len (kvs : List (Int × Int)) (k v : Int) : (putI kvs k v).length ≤ kvs.length + 1 := by
  unfold putI
  split
  · rw [List.length_map]; omega
  · rw [List.length_append]; exact Nat.le_refl _
theorem sim_dc {ti : TI} {wi : WI} {g : TG} {wg : WG} {vs : List Nat} (hi : SimI ti wi) (hg : SimG vs g wg) (hk : SimE tk wk) (hv : SimE tv wv) : SimT (tDc ti g tYes tk tv vs) (wDc wi wg wk wv vs) := fun {c bs F σ H ε N R Q} r ww q => hi r ww fun J ds N1 H1 w1 o1 Y D nD => by
  obtain ⟨hz, I, i0, step, fin⟩ := w1
  have r1 := r.out o1
  have Dbs : D ∉ bs := r1.live.out nD
  have Db : D ∉ c.b := fun z => Dbs (r.bin D z)
  have world : ∀ {H' : Hp} {kvs : List (Key × V)} {M : Nat}, H' D = some (.dK kvs) → Out c H1 H' M → Rel c (D :: bs) F σ H' ε M := fun {H' acc M} hD o =>
    r1.hide (A := [D]) o (fun a ha => by rw [List.mem_singleton.mp ha]; exact nD) (fun a ha => by rw [List.mem_singleton.mp ha]; exact own_dic hD)
  have vis : ∀ {H' : Hp} {M : Nat}, Out c H1 H' M → Same (hid bs H1) (hid (D :: bs) H') := fun {H' M} o => vis_step (bs := bs) (B := [D]) o r.bin (fun a ha => by rw [List.mem_singleton.mp ha]; exact nD)
  refine it_by (J := J) (n := ds.length) (Body := fun x H' Nx => g x (L2.wipe σ vs) H' fun σ2 H2 => L2.wipe σ2 vs = L2.wipe σ vs ∧ tYes σ2 H2 fun b H3 => if b = true then tk σ2 H3 fun y H4 => tv σ2 H4 fun z H5 => ∃ kvs k, y = kV k ∧ H5 D = some (.dK kvs) ∧ kvs.length < sizeLine ∧ Nx (upd H5 D (.dK (putK kvs k z))) else Nx H3)
    (fun k H' => ∃ (kvs : List (Int × Int)) (M : Nat), H' D = some (.dK (kvs.map kvI)) ∧ I k kvs M ∧ kvs.length ≤ k ∧ Out c H1 H' M) ⟨[], N1, upd_same, i0, Nat.le_refl _, ⟨(Keep.refl _ _).new nD, fun a ha => (r1.box a ha).upd nD⟩⟩
    (fun k H' hk hP => ?_) (fun H' hP => ?_) (fun k x H' H'' hk' hP hy => ?_) (fun H' hP => ?_)
  · obtain ⟨kvs, M, hD, hI, hl, o⟩ := hP
    exact Y.go k H' _ hk (vis o)
  · obtain ⟨kvs, M, hD, hI, hl, o⟩ := hP
    exact Y.stop H' _ (vis o)
  · obtain ⟨kvs, M, hD, hI, hl, o⟩ := hP
    have rw0 := world hD o
    obtain ⟨sm, d, gd, dx⟩ := Y.yld k x H' H'' _ hk' (vis o) rw0.live hy
    have rw1 := rw0.ext sm
    obtain ⟨Fw, rw2⟩ := rel_wipe rw1 vs
    refine hg rw2 dx (step k d kvs M gd hI) fun F3 σ3 ε3 r3 e3 w3 => ⟨e3.trans (wipe_wipe σ vs), ?_⟩
    simp only [tYes, ↓reduceIte]
    refine hk r3 w3 fun u e M2 H3 w4 o3 he => ?_
    obtain ⟨x1, rfl, w4⟩ := dInt_some w4
    have ev := he.int_inv
    subst ev
    refine hv (r3.out o3) w4 fun u2 f M3 H4 w5 o4 hf => ?_
    obtain ⟨y1, rfl, w5⟩ := dInt_some w5
    have ev := hf.int_inv
    subst ev
    have oo : Out c H1 H4 M3 := ((o.ext sm).trans o3).trans o4
    have hD4 : H4 D = some (.dK (kvs.map kvI)) := out_get o4 Db (out_get o3 Db (sm _ _ hD))
    refine ⟨_, .inl x1, rfl, hD4, by rw [List.length_map]; exact Nat.lt_of_le_of_lt (show kvs.length ≤ 40000 by omega) (by decide), putI kvs x1 y1, M3, ?_, w5, ?_, ?_⟩
    · rw [putI_map]; exact upd_same
    · have := putI_len kvs x1 y1
      omega
    · exact ⟨oo.keep.putNew nD, fun a ha => (oo.box a ha).put (fun z => Db (z ▸ ha))⟩
  · obtain ⟨kvs, M, hD, hI, hl, o⟩ := hP
    exact q (.ref D) (.dic kvs) [D] M H' (fin kvs M hI) (o1.trans o) ⟨.dic hD, List.pairwise_singleton _ _, fun a ha => by rw [List.mem_singleton.mp ha]; exact out_none o1 nD⟩
/-! ### a dict walked: it's locked meanwhile -/
theorem Rel.lock {kvs : List (Int × Int)} (r : Rel c bs F σ H ε N) (hl : ε[i]? = some (.is (.dic kvs))) (od : Obj) : ∃ a bs' F', σ[i]? = some (some (.ref a)) ∧ H a = some (.dK (kvs.map kvI)) ∧ a ∈ bs ∧ a ∉ c.b ∧ (∀ x, x ∈ bs' ↔ x ∈ bs ∧ x ≠ a) ∧ Rel { c with P := hid [a] c.P } bs' F' σ (upd H a (.frz od (.dK (kvs.map kvI)))) (ε.set i (.dcF kvs)) N := by
  obtain ⟨y, A, F1, F2, q1, q2, rfl, q4⟩ := r.env.at hl
  cases q2 with
  | is q2 => cases q2 with
    | dic e =>
      rename_i a
      have ain : a ∈ F1 ++ ([a] ++ F2) := List.mem_append_right _ (List.mem_append_left _ (List.mem_singleton.mpr rfl))
      have abs := r.sub a ain
      let bs' := bs.filter fun x => !decide (x = a)
      have hs : ∀ x, x ∈ bs' ↔ x ∈ bs ∧ x ≠ a := fun x => by
        show x ∈ bs.filter _ ↔ _
        rw [List.mem_filter]
        simp
      refine ⟨a, bs', F1 ++ ([] ++ F2), q1, e, abs, r.fb a ain, hs, ?_⟩
      have aout : ∀ x ∈ F1 ++ F2, x ≠ a := fun x hx z => by
        subst z
        obtain ⟨_, p2, p3⟩ := List.nodup_append.mp r.nd
        rcases List.mem_append.mp hx with h | h
        · exact p3 x h x (List.mem_append_left _ (List.mem_singleton.mpr rfl)) rfl
        · exact (List.nodup_append.mp p2).2.2 x (List.mem_singleton.mpr rfl) x h rfl
      have kk : Same (hid bs H) (hid bs' (upd H a (.frz od (.dK (kvs.map kvI))))) := fun x o ex => by
        obtain ⟨h1, h2⟩ := hid_some ex
        rw [hid_out (fun z => h1 ((hs x).mp z).1), upd_ne (fun (z : x = a) => h1 (by rw [z]; exact abs))]
        exact h2
      have vs : hid bs' (upd H a (.frz od (.dK (kvs.map kvI)))) a = some (.frz od (.dK (kvs.map kvI))) := by
        rw [hid_out (fun z => ((hs a).mp z).2 rfl), upd_same]
      have env := q4 (cs := bs') (H' := upd H a (.frz od (.dK (kvs.map kvI)))) (y := some (.ref a)) (m := .dcF kvs) r.nt kk (fun x hx o e => by rw [upd_ne (aout x hx)]; exact e) (.dcF vs)
      rw [set_same q1] at env
      have hm : ∀ x ∈ F1 ++ ([] ++ F2), x ∈ F1 ++ ([a] ++ F2) ∧ x ≠ a := fun x hx => ⟨by
        rcases List.mem_append.mp hx with h | h
        · exact List.mem_append_left _ h
        · exact List.mem_append_right _ (List.mem_append_right _ h), aout x hx⟩
      refine ⟨env, nodup_mid r.nd List.nodup_nil (fun _ z => nomatch z), fun x hx => (hs x).mpr ⟨r.sub x (hm x hx).1, (hm x hx).2⟩, fun x hx => ?_, fun x hx => r.nb x (hm x hx).1, fun x hx => (hs x).mpr ⟨r.up x hx, fun z => r.nb a ain (z ▸ hx)⟩, r.bb, fun x hx => ?_, fun x hx => ?_, fun x hx xs z => ?_, fun x hx => ?_, fun x o e => ?_, r.vis.trans kk⟩
      · show hid [a] c.P x = none
        rw [hid_out (fun z => (hm x hx).2 (List.mem_singleton.mp z))]
        exact r.off x (hm x hx).1
      · show hid [a] c.P x = none
        unfold hid
        split
        · rfl
        · exact r.offb x hx
      · rw [upd_ne ((hs x).mp hx).2]; exact r.live x ((hs x).mp hx).1
      · rw [upd_ne ((hs x).mp hx).2] at z; exact r.nt x ((hs x).mp hx).1 xs z
      · exact (r.box x hx).put (fun z => r.fb a ain (z ▸ hx))
      · obtain ⟨h1, h2⟩ := hid_some e
        rw [upd_ne (fun (z : x = a) => h1 (List.mem_singleton.mpr z))]
        exact r.pin x o h2
/-- something new and clean, told of a dict that is walked -/
def wLk (i : Nat) (wt : WT) : WT := fun ε N R => atDO ε[i]? fun kvs => wt (ε.set i (.dcF kvs)) N fun t N' => t.clean = true ∧ R t N'
theorem sim_lk {te : TE} {wt : WT} (h : SimT te wt) : SimT (tLockE te) (wLk i wt) := fun {c bs F σ H ε N R Q} r w q => by
  obtain ⟨kvs, hl, w⟩ := atDO_some w
  obtain ⟨a, _, _, q1, q2, _, _, _, _⟩ := r.lock hl default
  refine ⟨a, _, q2, True.intro, fun od => ?_⟩
  obtain ⟨a2, bs', F', p1, p2, p3, p4, p5, r'⟩ := r.lock hl od
  obtain rfl := same_ref p1 q1
  refine h r' w fun v t A N' H' hR o n => ?_
  have Ka : H' a2 = some (.frz od (.dK (kvs.map kvI))) := out_get o p4 upd_same
  have aA : a2 ∉ A := fun z => by
    have := n.new a2 z
    rw [upd_same] at this
    cases this
  have o2 : Out c H (upd H' a2 (.dK (kvs.map kvI))) N' := ⟨fun x u e => by
    obtain ⟨h1, h2⟩ := hid_some e
    rw [hid_out h1]
    by_cases hx : x = a2
    · subst hx; rw [upd_same, ← h2, q2]
    · rw [upd_ne hx]
      exact out_get o h1 (by rw [upd_ne hx]; exact h2), fun x hx => (o.box x hx).put (fun z => p4 (z ▸ hx))⟩
  have new : ∀ x ∈ A, H x = none := fun x hx => by
    have := n.new x hx
    rw [upd_ne (fun (z : x = a2) => aA (by rw [← z]; exact hx))] at this
    exact this
  refine ⟨Ka, q v t A N' _ hR.2 o2 ⟨?_, n.nd, new⟩⟩
  have nt' : NoTup (A ++ bs) H' := own_notup n.rep.own fun x hx xs z => by
    by_cases hxa : x = a2
    · subst hxa; rw [Ka] at z; cases z; trivial
    · exact out_notup o r'.live r'.nt x ((p5 x).mpr ⟨hx, hxa⟩) xs z
  have c1 : Rep (A ++ bs) H' v t A := Rep.clean nt' n.rep hR.1
  refine Rep.chg nt' ?_ (fun x hx u e => by rw [upd_ne (fun (z : x = a2) => aA (by rw [← z]; exact hx))]; exact e) c1
  exact (Keep.refl _ _).put (List.mem_append_right _ p3)
def atF (o : Option Sl) (k : List (Int × Int) → Prop) : Prop := match o with
  | some (.dcF kvs) => k kvs
  | _ => False
theorem atF_some {o : Option Sl} {k : List (Int × Int) → Prop} (h : atF o k) : ∃ kvs, o = some (.dcF kvs) ∧ k kvs := by
  unfold atF at h
  split at h
  · exact ⟨_, rfl, h⟩
  · exact h.elim
theorem atF_is {kvs : List (Int × Int)} {k : List (Int × Int) → Prop} : atF (some (.dcF kvs)) k = k kvs := propext Iff.rfl
theorem Rel.frzAt {kvs : List (Int × Int)} (r : Rel c bs F σ H ε N) (h : ε[i]? = some (.dcF kvs)) : ∃ a o, σ[i]? = some (some (.ref a)) ∧ hid bs H a = some (.frz o (.dK (kvs.map kvI))) := by
  obtain ⟨y, A, F1, F2, q1, q2, _, _⟩ := r.env.at h
  cases q2 with
  | dcF e => exact ⟨_, _, q1, e⟩
theorem kvI_at {kvs : List (Int × Int)} {k : Nat} {x : Key} {y : V} (h : (kvs.map kvI)[k]? = some (x, y)) : ∃ p, kvs[k]? = some p ∧ x = .inl p.1 ∧ y = .int p.2 := by
  rw [List.getElem?_map] at h
  cases e : kvs[k]? with
  | none => rw [e] at h; cases h
  | some p =>
    rw [e] at h
    have h' : kvI p = (x, y) := Option.some.inj h
    exact ⟨p, rfl, (congrArg Prod.fst h').symm, (congrArg Prod.snd h').symm⟩
/-- for k in d; for k, v in d.items() -/
def wKeys (i : Nat) : WI := fun ε N R => atF ε[i]? fun kvs => R (kvs.map fun p => .int p.1) N
theorem sim_keys : SimI (iKeys (tVar i)) (wKeys i) := fun {c bs F σ H ε N R Q} r w q => by
  obtain ⟨kvs, hl, w⟩ := atF_some w
  obtain ⟨a, o, q1, q2⟩ := r.frzAt hl
  refine ⟨.ref a, q1, a, o, rfl, .inl ⟨_, (hid_some q2).2, q _ _ N H w r.self ⟨fun k H' gs hk kp => ?_, fun H' gs kp => ?_, fun k x H' H'' gs hk kp lv y => ?_⟩⟩⟩
  · exact ⟨(hid_some (kp _ _ q2)).2, by rw [List.length_map] at hk ⊢; exact hk⟩
  · exact ⟨(hid_some (kp _ _ q2)).2, by rw [List.length_map, List.length_map]; exact Nat.le_refl _⟩
  · obtain ⟨rfl, k1, v1, e1, rfl⟩ := y
    obtain ⟨p, e2, rfl, rfl⟩ := kvI_at e1
    exact ⟨Same.refl _, .int p.1, by rw [List.getElem?_map, e2]; rfl, .int _⟩
def wItems (i : Nat) : WI := fun ε N R => atF ε[i]? fun kvs => R (kvs.map fun p => .tuple [.int p.1, .int p.2]) N
section
variable {D : EW} {R : PyData → Nat → Prop} {RT : T → Nat → Prop} {RI : List PyData → Nat → Prop}
theorem wDGet_eq : wDGet i we ε N R = atD ε[i]? fun kvs => we ε N fun d N1 => dInt d fun k => ∃ v, valI kvs k = some v ∧ R (.int v) N1 := propext Iff.rfl
theorem wDIn_eq : wDIn i we ε N R = atD ε[i]? fun kvs => we ε N fun d N1 => dInt d fun k => R (.bool (valI kvs k).isSome) N1 := propext Iff.rfl
theorem wDNotIn_eq : wDNotIn i we ε N R = atD ε[i]? fun kvs => we ε N fun d N1 => dInt d fun k => R (.bool (!(valI kvs k).isSome)) N1 := propext Iff.rfl
theorem wDGet1_eq : wDGet1 i we ε N R = atD ε[i]? fun kvs => we ε N fun d N1 => dInt d fun k => R (oInt? (valI kvs k)) N1 := propext Iff.rfl
theorem wD0_eq : wD0 ε N RT = RT (.dic []) N := propext Iff.rfl
theorem wDKeys_eq : wDKeys i ε N RT = atD ε[i]? fun kvs => RT (.lst (keysT (kvs.map (·.1)))) N := propext Iff.rfl
theorem wDSort_eq : wDSort i ε N RT = atD ε[i]? fun kvs => kvs.length < 64 ∧ ∀ ys : List Int, ys.Perm (kvs.map (·.1)) → ys.Pairwise (· ≤ ·) → RT (.lst (keysT ys)) N := propext Iff.rfl
theorem wDSet_eq : wDSet i wk wv D ε N = atDO ε[i]? fun kvs => wv ε N fun d N1 => dInt d fun v => wk ε N1 fun e N2 => dInt e fun k => kvs.length ≤ 100000 ∧ D.nx (ε.set i (.is (.dic (putI kvs k v)))) N2 := propext Iff.rfl
theorem wLk_eq : wLk i wt ε N RT = atDO ε[i]? fun kvs => wt (ε.set i (.dcF kvs)) N fun t N' => t.clean = true ∧ RT t N' := propext Iff.rfl
theorem wKeys_eq : wKeys i ε N RI = atF ε[i]? fun kvs => RI (kvs.map fun p => .int p.1) N := propext Iff.rfl
theorem wItems_eq : wItems i ε N RI = atF ε[i]? fun kvs => RI (kvs.map fun p => .tuple [.int p.1, .int p.2]) N := propext Iff.rfl
end
/-! ### statements: what is walked told to a name; y = x.pop(); a condition's two ends -/
theorem sim_lkS {te : TE} {j : Nat} {ws : WS} (h : SimS (tAsg (tLockE te) (gName j)) ws) : SimS (tLock (tAsg te (gName j))) ws := fun {c bs F σ H ε N DW D} r w m => by
  have k : tLockE te σ H fun v H' => D.nx (σ.set j (some v)) H' := h r w m
  exact k
def wPop0 (i : Nat) (wg : WG) : WS := fun D => onOwn i fun ts ε N => 0 < ts.length ∧ ∃ d, ts[ts.length - 1]? = some (.sh d) ∧ wg d (ε.set i (.is (.lst ts.dropLast))) fun ε' => D.nx ε' N
theorem erase_last {α : Type} : ∀ {xs : List α}, xs.eraseIdx (xs.length - 1) = xs.dropLast
  | [] => rfl
  | [_] => rfl
  | x :: y :: ys => by
    have h : (x :: y :: ys).length - 1 = (y :: ys).length - 1 + 1 := rfl
    rw [h, List.eraseIdx_cons_succ, erase_last]
    rfl
theorem sim_pop0 {K : PySem.W.Frag} {vs : List Nat} {g : TG} {wg : WG} (hg : SimG vs g wg) : SimS (tAsg (tBM0 K "list" rPop (tVar i)) g) (wPop0 i wg) := fun {c bs F σ H ε N DW D} r w m => by
  obtain ⟨ts, hl, hz, f, hf, w2⟩ := onOwn_some w
  obtain ⟨a2, vs2, A0, g1, g2, g3, g4, g5, g6, g7, g8, g9, g10, g11⟩ := r.mutate hl
  obtain ⟨v0, A1, Av, A2, p1, p2, p3, p4, p5⟩ := g3.split hf
  cases p2 with
  | sh hv =>
    have p3' : A0 = A1 ++ A2 := p3
    subst p3'
    obtain ⟨F', r2⟩ := g11 p4 g4 g5 fun x hx => .inl hx
    rw [erase_last] at r2
    rw [← g3.len, erase_last] at r2
    refine ⟨.ref a2, g1, .inl ⟨rfl, vs2, SqL.of g2⟩, a2, vs2, v0, rfl, rfl, g2, by rw [g3.len]; exact p1, ?_⟩
    refine hg r2 ?_ w2 fun F3 σ3 ε3 r3 _ w3 => m.nx r3 w3
    exact hv.mono ((Keep.refl _ _).put g6)
/-- x = x -/
def wSelf (i : Nat) : WS := fun D ε N => atIs ε[i]? fun _ => D.nx ε N
theorem wPop0_eq {wg : WG} {D : EW} : wPop0 i wg D ε N = atOwn ε[i]? fun ts => 0 < ts.length ∧ ∃ d, ts[ts.length - 1]? = some (.sh d) ∧ wg d (ε.set i (.is (.lst ts.dropLast))) fun ε' => D.nx ε' N := onOwn_eq
theorem wSelf_eq {D : EW} : wSelf i D ε N = atIs ε[i]? fun _ => D.nx ε N := propext Iff.rfl
end
/-- a name told a new dict at once -/
theorem ps_setDc {X : Cx} {k : Nat} {nm : Str} {pn : Pos} {ek ev et ei : Expr} {cs : List Expr} {scp : Scope} {own : List (Str × Nat)} {pc pz : Pos} {ti : TI} {tg : TG} {tc : TT} {tk tv : TE} (calm : X.calm = true) (nod : X.N.Nodup) (at_k : X.N[k]? = some nm) (loc : X.env.scope.names.lookup nm = some .local)
    (swap : swapsWith (.DictComp ek ev [⟨et, ei, cs, 0⟩] scp pc) (some (.Name nm pn)) pz.line X.env = pure true) (pi : PI X et ei ti) (blk : BlkOk X.N X.env.scope scp own)
    (pg : ∀ (s : Shared) (H : Hp) (C : Addr) (cl : List (Str × Addr)) (fp : List Addr), PG (X.blk s H scp (compEnvC scp cl C X.env) fp) et tg) (pt : ∀ (s : Shared) (H : Hp) (C : Addr) (cl : List (Str × Addr)) (fp : List Addr), PTs (X.blk s H scp (compEnvC scp cl C X.env) fp) cs tc)
    (pk : ∀ (s : Shared) (H : Hp) (C : Addr) (cl : List (Str × Addr)) (fp : List Addr), PE (X.blk s H scp (compEnvC scp cl C X.env) fp) ek tk) (pv : ∀ (s : Shared) (H : Hp) (C : Addr) (cl : List (Str × Addr)) (fp : List Addr), PE (X.blk s H scp (compEnvC scp cl C X.env) fp) ev tv)
    (fold : ∀ z, foldedSetIterable ei X.env z = pure z := by intro _; rfl) : PS X (.Assign [.Name nm pn] (.DictComp ek ev [⟨et, ei, cs, 0⟩] scp pc) pz) (tAsg (tDc ti tg tc tk tv (own.map (·.2))) (gName k)) := by
  constructor
  intro pins s σ H D inv hyp
  rw [exec_Assign_Name_used _ _ _ _ swap]
  apply wpAny_bind
  apply wpAny_standAt
  apply wpAny_bind
  have told : tDc ti tg tc tk tv (own.map (·.2)) σ H (fun x H1 => D.nx (σ.set k (some x)) H1) := hyp
  show wpAny _ X.A (do let _ ← comprehension (.DictComp ek ev [⟨et, ei, cs, 0⟩] scp pc) scp X.env (firstIterPos [⟨et, ei, cs, 0⟩] pc) newDict false (eval ei X.env) (some (assign (.Name nm pn) X.env))) _ _ s
  apply wpAny_bind
  refine thn (dc_core (Qf := fun _ z => SP X pins D .next z) calm nod inv pi blk pg pt pk pv fold told ?_) fun _ z hz => wpAny_pure (wpAny_pure hz)
  intro L C z m H' inv2 post ns fp
  show wpAny _ _ (assign (.Name nm pn) X.env (.ref L)) _ _ _
  apply wpAny_assign_Name
  refine store_ok2 (v := V.ref L) inv2 nod at_k (.inl loc) rfl ?_ (.inr loc)
  intro z2 inv3 ex
  obtain ⟨a, same, wh⟩ := ex
  obtain ⟨f0, f1, _, f3, f4, f5⟩ := fp
  have ne : C ≠ a := by
    cases wh with
    | inl q => rw [q]; exact f1
    | inr q => exact fun e => f4 nm a q e.symm
  refine ⟨m, ns.sameBut same ne, ?_⟩
  intro h3 same3
  have inv4 := inv3.turned (t' := z2.toks) (fun b o hb e => (same3.2 b hb).trans e) f0 f1 f3 f4 f5
  exact ⟨_, H', inv4, post⟩
theorem swD_true {ek ev : Expr} {gs : List Comprehension} {scp : Scope} {p q : Pos} {nm : Str} {l : Nat} {E : PySem.Env} (fk : E.scope.kind = .function) (fl : E.scope.names.lookup nm = some .local) (same : (q.line == p.line) = true)
    (no : (scp.names.any fun (n, k) => n == nm && (k == .local || k == .cell)) = false) : swapsWith (.DictComp ek ev gs scp p) (some (.Name nm q)) l E = pure true := by
  have h1 : E.kindOf nm = some .local := fl
  have h2 : E.blockKind = .function := by
    unfold Env.blockKind
    rw [fk]
    rfl
  unfold swapsWith
  simp only [h2, h1, no, Expr.pos, same]
  rfl
end Cg

set_option Elab.async false
set_option linter.all false
set_option maxRecDepth 100000
set_option maxHeartbeats 1000000
namespace Cg
open PySem PySem.Spec PyProof.Rows L2 Evl
/-! ### tables of pairs of numbers: keys and what stands at them -/
def cN (p : Pr) : Int × Int := ((p.1 : Int), (p.2 : Int))
def valN (L : List Pr) (k : Nat) : Option Nat := (L.find? fun p => decide (p.1 = k)).map (·.2)
def putN (L : List Pr) (k v : Nat) : List Pr :=
  if (L.any fun p => decide (p.1 = k)) = true then L.map (fun p => if p.1 = k then (p.1, v) else p) else L ++ [(k, v)]
theorem nat_dec {a b : Nat} : decide ((a : Int) = (b : Int)) = decide (a = b) := by
  by_cases h : a = b
  · subst h; simp
  · rw [decide_eq_false h, decide_eq_false (fun z => h (by omega))]
theorem valI_cN : ∀ (L : List Pr) (k : Nat), valI (L.map cN) (k : Int) = (valN L k).map fun v : Nat => (v : Int)
  | [], _ => rfl
  | p :: L, k => by
    by_cases h : p.1 = k
    · simp [valI, valN, List.find?_cons, cN, h]
    · have ih := valI_cN L k
      have h' : ¬ ((p.1 : Int) = (k : Int)) := fun z => h (by omega)
      simp only [valI, valN, List.map_cons, List.find?_cons, cN, h, h', decide_false] at ih ⊢
      exact ih
theorem any_cN : ∀ (L : List Pr) (k : Nat), ((L.map cN).any fun p => decide (p.1 = (k : Int))) = L.any fun p => decide (p.1 = k)
  | [], _ => rfl
  | p :: L, k => by
    rw [List.map_cons, List.any_cons, List.any_cons, any_cN L k]
    show (decide ((p.1 : Int) = (k : Int)) || _) = _
    rw [nat_dec]
theorem putI_cN (L : List Pr) (k v : Nat) : putI (L.map cN) (k : Int) (v : Int) = (putN L k v).map cN := by
  unfold putI putN
  rw [any_cN]
  split
  · rw [List.map_map, List.map_map]
    refine List.map_congr_left fun p _ => ?_
    show (if (p.1 : Int) = (k : Int) then ((p.1 : Int), (v : Int)) else cN p) = cN (if p.1 = k then (p.1, v) else p)
    by_cases h : p.1 = k
    · rw [if_pos h, if_pos (by omega)]; rfl
    · rw [if_neg h, if_neg (fun z => h (by omega))]
  · rw [List.map_append]; rfl
def Ks (L : List Pr) : List Nat := L.map (·.1)
def Vs (L : List Pr) : List Nat := L.map (·.2)
theorem mem_ks {L : List Pr} {k : Nat} : k ∈ Ks L ↔ ∃ v, (k, v) ∈ L := by
  unfold Ks
  rw [List.mem_map]
  exact ⟨fun ⟨p, h, e⟩ => ⟨p.2, by rw [← e]; exact h⟩, fun ⟨v, h⟩ => ⟨_, h, rfl⟩⟩
theorem mem_vs {L : List Pr} {v : Nat} : v ∈ Vs L ↔ ∃ k, (k, v) ∈ L := by
  unfold Vs
  rw [List.mem_map]
  exact ⟨fun ⟨p, h, e⟩ => ⟨p.1, by rw [← e]; exact h⟩, fun ⟨v, h⟩ => ⟨_, h, rfl⟩⟩
theorem val_none {L : List Pr} {k : Nat} : valN L k = none ↔ k ∉ Ks L := by
  unfold valN
  rw [Option.map_eq_none_iff, List.find?_eq_none, mem_ks]
  constructor
  · intro h ⟨v, hv⟩
    exact h _ hv (by simp)
  · intro h p hp
    simp only [decide_eq_true_eq]
    exact fun e => h ⟨p.2, by rw [← e]; exact hp⟩
theorem key_fun {L : List Pr} (hn : (Ks L).Nodup) {k v u : Nat} (h1 : (k, v) ∈ L) (h2 : (k, u) ∈ L) : v = u := by
  induction L with
  | nil => cases h1
  | cons p L ih =>
    have hn' : (p.1 :: Ks L).Nodup := hn
    obtain ⟨n1, n2⟩ := List.nodup_cons.mp hn'
    rcases List.mem_cons.mp h1 with e1 | h1'
    · rcases List.mem_cons.mp h2 with e2 | h2'
      · rw [← e1] at e2; exact (congrArg Prod.snd e2).symm
      · exact absurd (mem_ks.mpr ⟨u, h2'⟩) (by rw [← e1] at n1; exact n1)
    · rcases List.mem_cons.mp h2 with e2 | h2'
      · exact absurd (mem_ks.mpr ⟨v, h1'⟩) (by rw [← e2] at n1; exact n1)
      · exact ih n2 h1' h2'
theorem val_fun {L : List Pr} (hn : (Vs L).Nodup) {k j v : Nat} (h1 : (k, v) ∈ L) (h2 : (j, v) ∈ L) : k = j := by
  induction L with
  | nil => cases h1
  | cons p L ih =>
    have hn' : (p.2 :: Vs L).Nodup := hn
    obtain ⟨n1, n2⟩ := List.nodup_cons.mp hn'
    rcases List.mem_cons.mp h1 with e1 | h1'
    · rcases List.mem_cons.mp h2 with e2 | h2'
      · rw [← e1] at e2; exact (congrArg Prod.fst e2).symm
      · exact absurd (mem_vs.mpr ⟨j, h2'⟩) (by rw [← e1] at n1; exact n1)
    · rcases List.mem_cons.mp h2 with e2 | h2'
      · exact absurd (mem_vs.mpr ⟨k, h1'⟩) (by rw [← e2] at n1; exact n1)
      · exact ih n2 h1' h2'
theorem val_some {L : List Pr} (hn : (Ks L).Nodup) {k v : Nat} : valN L k = some v ↔ (k, v) ∈ L := by
  constructor
  · intro h
    unfold valN at h
    obtain ⟨p, hp, e⟩ := Option.map_eq_some_iff.mp h
    have h1 := List.mem_of_find?_eq_some hp
    have h2 : p.1 = k := by simpa using List.find?_some hp
    rw [← h2, ← e]
    exact h1
  · intro h
    cases e : valN L k with
    | none => exact absurd (mem_ks.mpr ⟨v, h⟩) (val_none.mp e)
    | some u =>
      unfold valN at e
      obtain ⟨p, hp, e'⟩ := Option.map_eq_some_iff.mp e
      have h1 := List.mem_of_find?_eq_some hp
      have h2 : p.1 = k := by simpa using List.find?_some hp
      have h3 : (k, u) ∈ L := by rw [← h2, ← e']; exact h1
      rw [key_fun hn h h3]
theorem val_isSome {L : List Pr} {k : Nat} : (valN L k).isSome = true ↔ k ∈ Ks L := by
  cases h : valN L k with
  | none => simp only [Option.isSome_none, Bool.false_eq_true, false_iff]; exact val_none.mp h
  | some v =>
    simp only [Option.isSome_some, true_iff]
    exact Classical.byContradiction fun z => by rw [val_none.mpr z] at h; cases h
theorem any_ks {L : List Pr} {k : Nat} : (L.any fun p => decide (p.1 = k)) = true ↔ k ∈ Ks L := by
  rw [List.any_eq_true]
  unfold Ks
  rw [List.mem_map]
  exact ⟨fun ⟨p, h, e⟩ => ⟨p, h, by simpa using e⟩, fun ⟨p, h, e⟩ => ⟨p, h, by simpa using e⟩⟩
theorem put_new {L : List Pr} {k v : Nat} (h : k ∉ Ks L) : putN L k v = L ++ [(k, v)] := if_neg fun z => h (any_ks.mp z)
theorem put_old {L : List Pr} {k v : Nat} (h : k ∈ Ks L) : putN L k v = L.map fun p => if p.1 = k then (p.1, v) else p := if_pos (any_ks.mpr h)
theorem put_ks_old {L : List Pr} {k v : Nat} (h : k ∈ Ks L) : Ks (putN L k v) = Ks L := by
  rw [put_old h]
  unfold Ks
  rw [List.map_map]
  refine List.map_congr_left fun p _ => ?_
  show (if p.1 = k then (p.1, v) else p).1 = p.1
  split <;> rfl
theorem put_nodup {L : List Pr} {k v : Nat} (hn : (Ks L).Nodup) : (Ks (putN L k v)).Nodup := by
  by_cases h : k ∈ Ks L
  · rw [put_ks_old h]; exact hn
  · rw [put_new h]
    unfold Ks
    rw [List.map_append]
    refine List.nodup_append.mpr ⟨hn, List.pairwise_singleton _ _, fun a ha b hb => ?_⟩
    rw [List.mem_singleton.mp hb]
    exact fun e => h (by have e' : a = k := e; rw [← e']; exact ha)
theorem mem_put {L : List Pr} {k v : Nat} {p : Pr} : p ∈ putN L k v ↔ p = (k, v) ∨ (p.1 ≠ k ∧ p ∈ L) := by
  by_cases h : k ∈ Ks L
  · rw [put_old h, List.mem_map]
    constructor
    · rintro ⟨q, hq, e⟩
      by_cases hk : q.1 = k
      · rw [if_pos hk] at e; left; rw [← e, hk]
      · rw [if_neg hk] at e; right; rw [← e]; exact ⟨hk, hq⟩
    · rintro (rfl | ⟨h1, h2⟩)
      · obtain ⟨u, hu⟩ := mem_ks.mp h
        exact ⟨_, hu, if_pos rfl⟩
      · exact ⟨p, h2, if_neg h1⟩
  · rw [put_new h, List.mem_append, List.mem_singleton]
    constructor
    · rintro (h1 | h1)
      · exact .inr ⟨fun e => h (by rw [← e]; exact mem_ks.mpr ⟨p.2, h1⟩), h1⟩
      · exact .inl h1
    · rintro (h1 | h1)
      · exact .inr h1
      · exact .inl h1.2
theorem put_len_new {L : List Pr} {k v : Nat} (h : k ∉ Ks L) : (putN L k v).length = L.length + 1 := by rw [put_new h, List.length_append]; rfl
theorem put_len_old {L : List Pr} {k v : Nat} (h : k ∈ Ks L) : (putN L k v).length = L.length := by rw [put_old h, List.length_map]
/-! ### covers -/
theorem apart_iff {P : List Pr} : Apart P ↔ (Ks P).Nodup ∧ (Vs P).Nodup := by
  unfold Apart Ks Vs List.Nodup
  rw [List.pairwise_map, List.pairwise_map]
  exact ⟨fun h => ⟨h.imp fun h => h.1, h.imp fun h => h.2⟩, fun h => h.1.and h.2⟩
def Cov (M : Mat) (n : Nat) (X Y : List Nat) : Prop := ∀ i j, i < n → cell M i j = 1 → i ∈ X ∨ j ∈ Y
theorem cov_le {M : Mat} {n : Nat} {X Y : List Nat} {P : List Pr} (hc : Cov M n X Y) (ha : Apart P) (hp : ∀ p ∈ P, p.1 < n ∧ cell M p.1 p.2 = 1) : P.length ≤ X.length + Y.length := by
  have h1 : (P.map fun p => if p.1 ∈ X then (Sum.inl p.1 : Nat ⊕ Nat) else Sum.inr p.2).Nodup := by
    refine List.pairwise_map.mpr (ha.imp fun {p q} h e => ?_)
    by_cases hx : p.1 ∈ X <;> by_cases hy : q.1 ∈ X
    · rw [if_pos hx, if_pos hy] at e; exact h.1 (Sum.inl.inj e)
    · rw [if_pos hx, if_neg hy] at e; cases e
    · rw [if_neg hx, if_pos hy] at e; cases e
    · rw [if_neg hx, if_neg hy] at e; exact h.2 (Sum.inr.inj e)
  have h2 := sub_len (ys := X.map Sum.inl ++ Y.map Sum.inr) h1 fun z hz => by
    obtain ⟨p, hpP, rfl⟩ := List.mem_map.mp hz
    by_cases hx : p.1 ∈ X
    · rw [if_pos hx]
      exact List.mem_append_left _ (List.mem_map_of_mem hx)
    · rw [if_neg hx]
      exact List.mem_append_right _ (List.mem_map_of_mem ((hc p.1 p.2 (hp p hpP).1 (hp p hpP).2).resolve_left hx))
  rw [List.length_map, List.length_append, List.length_map, List.length_map] at h2
  exact h2
/-! ### ways: each outlet by an inlet that asks for it, one that is free or that comes of an outlet further ahead -/
def Way (M : Mat) (P : List Pr) (S : Nat → Prop) (L : List Pr) (ρ : Nat → Nat) : Prop := ∀ p ∈ L, cell M p.2 p.1 = 1 ∧ (S p.2 ∨ ∃ o, (p.2, o) ∈ P ∧ o ∈ Ks L ∧ ρ o < ρ p.1)
theorem way_add {M : Mat} {P : List Pr} {S : Nat → Prop} {L : List Pr} {ρ : Nat → Nat} {o i r : Nat} (h : Way M P S L ρ) (ho : o ∉ Ks L) (hc : cell M i o = 1) (hi : S i ∨ ∃ o', (i, o') ∈ P ∧ o' ∈ Ks L ∧ ρ o' < r) : Way M P S (L ++ [(o, i)]) fun x => if x = o then r else ρ x := by
  intro p hp
  have hk : ∀ {x}, x ∈ Ks L → x ∈ Ks (L ++ [(o, i)]) := fun {x} hx => by
    unfold Ks
    rw [List.map_append]
    exact List.mem_append_left _ hx
  rcases List.mem_append.mp hp with hp | hp
  · obtain ⟨h1, h2⟩ := h p hp
    refine ⟨h1, h2.imp id fun ⟨o', a, b, c⟩ => ⟨o', a, hk b, ?_⟩⟩
    have n1 : o' ≠ o := fun e => ho (e ▸ b)
    have n2 : p.1 ≠ o := fun e => ho (e ▸ mem_ks.mpr ⟨p.2, hp⟩)
    show (if o' = o then r else ρ o') < if p.1 = o then r else ρ p.1
    rw [if_neg n1, if_neg n2]
    exact c
  · rw [List.mem_singleton.mp hp]
    refine ⟨hc, hi.imp id fun ⟨o', a, b, c⟩ => ⟨o', a, hk b, ?_⟩⟩
    have n1 : o' ≠ o := fun e => ho (e ▸ b)
    show (if o' = o then r else ρ o') < if o = o then r else ρ o
    rw [if_neg n1, if_pos rfl]
    exact c
/-! pairs taken over, inlets for keys -/
structure Aug (M : Mat) (P L : List Pr) (ρ : Nat → Nat) (D : List Pr) (o : Nat) : Prop where
  ks : (Ks D).Nodup
  vs : (Vs D).Nodup
  ask : ∀ p ∈ D, cell M p.1 p.2 = 1
  inL : o ∈ Ks L
  out : o ∉ Vs D
  keys : ∀ i, i ∈ Ks D ↔ i ∈ Ks P
  vals : ∀ j, j ∈ Vs P → j ∈ Vs D ∨ j = o
  old : ∀ p ∈ P, p ∈ D ∨ ρ o ≤ ρ p.2
  len : D.length = P.length
structure Grown (M : Mat) (P D : List Pr) : Prop where
  ks : (Ks D).Nodup
  vs : (Vs D).Nodup
  ask : ∀ p ∈ D, cell M p.1 p.2 = 1
  keys : ∀ i, i ∈ Ks P → i ∈ Ks D
  vals : ∀ j, j ∈ Vs P → j ∈ Vs D
  len : D.length = P.length + 1
theorem vs_put {D : List Pr} (hk : (Ks D).Nodup) (hv : (Vs D).Nodup) {i o : Nat} (ho : o ∉ Vs D) : (Vs (putN D i o)).Nodup := by
  by_cases h : i ∈ Ks D
  · rw [put_old h]
    show ((D.map fun p => if p.1 = i then (p.1, o) else p).map (·.2)).Nodup
    rw [List.map_map]
    have hp : D.Pairwise fun p q => p.1 ≠ q.1 ∧ p.2 ≠ q.2 := apart_iff.mpr ⟨hk, hv⟩
    have hm : D.Pairwise fun p q => (p ∈ D ∧ q ∈ D) ∧ (p.1 ≠ q.1 ∧ p.2 ≠ q.2) := List.pairwise_iff_forall_sublist.mpr fun {a b} s => ⟨⟨s.subset (List.mem_cons_self ..), s.subset (List.mem_cons_of_mem _ (List.mem_cons_self ..))⟩, List.pairwise_iff_forall_sublist.mp hp s⟩
    refine List.pairwise_map.mpr (hm.imp fun {p q} hpq => ?_)
    show (if p.1 = i then (p.1, o) else p).2 ≠ (if q.1 = i then (q.1, o) else q).2
    by_cases h1 : p.1 = i <;> by_cases h2 : q.1 = i
    · exact absurd (h1.trans h2.symm) hpq.2.1
    · rw [if_pos h1, if_neg h2]
      exact fun e => ho (mem_vs.mpr ⟨q.1, by show (q.1, o) ∈ D; rw [show o = q.2 from e]; exact hpq.1.2⟩)
    · rw [if_neg h1, if_pos h2]
      exact fun e => ho (mem_vs.mpr ⟨p.1, by show (p.1, o) ∈ D; rw [show o = p.2 from e.symm]; exact hpq.1.1⟩)
    · rw [if_neg h1, if_neg h2]; exact hpq.2.2
  · rw [put_new h]
    show ((D ++ [(i, o)]).map (·.2)).Nodup
    rw [List.map_append]
    refine List.nodup_append.mpr ⟨hv, List.pairwise_singleton _ _, fun a ha b hb => ?_⟩
    rw [List.mem_singleton.mp hb]
    exact fun e => ho (by have e' : a = o := e; rw [← e']; exact ha)
theorem aug_first {M : Mat} {P L : List Pr} {ρ : Nat → Nat} {o : Nat} (hP : Apart P) (ha : ∀ p ∈ P, cell M p.1 p.2 = 1) (h1 : o ∈ Ks L) (h2 : o ∉ Vs P) : Aug M P L ρ P o := ⟨(apart_iff.mp hP).1, (apart_iff.mp hP).2, ha, h1, h2, fun _ => Iff.rfl, fun _ h => .inl h, fun _ h => .inl h, rfl⟩
/-- one step -/
theorem aug_step {M : Mat} {P L : List Pr} {ρ : Nat → Nat} {S : Nat → Prop} {D : List Pr} {o : Nat} (hP : Apart P) (hS : ∀ i, S i → i ∉ Ks P) (hL : (Ks L).Nodup) (w : Way M P S L ρ) (A : Aug M P L ρ D o) :
    ∃ i, valN L o = some i ∧ ((valN D i = none ∧ Grown M P (putN D i o)) ∨ ∃ o', valN D i = some o' ∧ ρ o' < ρ o ∧ Aug M P L ρ (putN D i o) o') := by
  obtain ⟨i, hi⟩ := mem_ks.mp A.inL
  obtain ⟨hc, hw⟩ := w (o, i) hi
  have ask' : ∀ p ∈ putN D i o, cell M p.1 p.2 = 1 := fun p hp => by
    rcases mem_put.mp hp with rfl | ⟨_, h⟩
    · exact hc
    · exact A.ask p h
  refine ⟨i, (val_some hL).mpr hi, ?_⟩
  rcases hw with hs | ⟨o', h1, h2, h3⟩
  · have ni : i ∉ Ks D := fun z => hS i hs ((A.keys i).mp z)
    refine .inl ⟨val_none.mpr ni, put_nodup A.ks, vs_put A.ks A.vs A.out, ask', fun x hx => ?_, fun j hj => ?_, by rw [put_len_new ni, A.len]⟩
    · obtain ⟨v, hv⟩ := mem_ks.mp ((A.keys x).mpr hx)
      exact mem_ks.mpr ⟨v, mem_put.mpr (.inr ⟨fun e => ni (by have e' : x = i := e; rw [← e']; exact mem_ks.mpr ⟨v, hv⟩), hv⟩)⟩
    · rcases A.vals j hj with h | rfl
      · obtain ⟨x, hx⟩ := mem_vs.mp h
        exact mem_vs.mpr ⟨x, mem_put.mpr (.inr ⟨fun e => ni (by have e' : x = i := e; rw [← e']; exact mem_ks.mpr ⟨j, hx⟩), hx⟩)⟩
      · exact mem_vs.mpr ⟨i, mem_put.mpr (.inl rfl)⟩
  · have inD : (i, o') ∈ D := (A.old (i, o') h1).resolve_right (by show ¬ ρ o ≤ ρ o'; have h3' : ρ o' < ρ o := h3; omega)
    have ki : i ∈ Ks D := mem_ks.mpr ⟨o', inD⟩
    have no : o' ≠ o := fun e => by rw [e] at h3; exact Nat.lt_irrefl _ h3
    refine .inr ⟨o', (val_some A.ks).mpr inD, h3, put_nodup A.ks, vs_put A.ks A.vs A.out, ask', h2, fun z => ?_, fun x => by rw [put_ks_old ki]; exact A.keys x, fun j hj => ?_, fun p hp => ?_, by rw [put_len_old ki]; exact A.len⟩
    · obtain ⟨x, hx⟩ := mem_vs.mp z
      rcases mem_put.mp hx with e | ⟨n, h⟩
      · exact no (congrArg Prod.snd e)
      · exact n (val_fun A.vs h inD)
    · rcases A.vals j hj with h | rfl
      · obtain ⟨x, hx⟩ := mem_vs.mp h
        by_cases hxi : x = i
        · rw [hxi] at hx
          exact .inr (key_fun A.ks hx inD)
        · exact .inl (mem_vs.mpr ⟨x, mem_put.mpr (.inr ⟨hxi, hx⟩)⟩)
      · exact .inl (mem_vs.mpr ⟨i, mem_put.mpr (.inl rfl)⟩)
    · have h3' : ρ o' < ρ o := h3
      rcases A.old p hp with h | h
      · by_cases hpi : p.1 = i
        · right
          have e : p.2 = o' := key_fun A.ks (show (p.1, p.2) ∈ D from h) (by rw [hpi]; exact inD)
          rw [e]
          exact Nat.le_refl _
        · exact .inl (mem_put.mpr (.inr ⟨hpi, h⟩))
      · exact .inr (by omega)
/-! the cover of what is reached -/
structure Shut (M : Mat) (n : Nat) (P L : List Pr) : Prop where
  ks : (Ks L).Nodup
  free : ∀ i j, i < n → i ∉ Ks P → cell M i j = 1 → j ∈ Ks L
  back : ∀ i o j, (i, o) ∈ P → o ∈ Ks L → cell M i j = 1 → j ∈ Ks L
def coverX (P L : List Pr) : List Nat := Ks (P.filter fun p => !(Ks L).contains p.2)
theorem shut_cov {M : Mat} {n : Nat} {P L : List Pr} (h : Shut M n P L) : Cov M n (coverX P L) (Ks L) := fun i j hi hc => by
  by_cases hk : i ∈ Ks P
  · obtain ⟨o, ho⟩ := mem_ks.mp hk
    by_cases hl : o ∈ Ks L
    · exact .inr (h.back i o j ho hl hc)
    · refine .inl (mem_ks.mpr ⟨o, List.mem_filter.mpr ⟨ho, ?_⟩⟩)
      show (!(Ks L).contains o) = true
      rw [Bool.not_eq_true', ← Bool.not_eq_true, List.contains_iff_mem]
      exact hl
  · exact .inr (h.free i j hi hk hc)
theorem filter_two {α : Type} (f : α → Bool) : ∀ xs : List α, (xs.filter f).length + (xs.filter fun x => !f x).length = xs.length
  | [] => rfl
  | x :: xs => by
    have ih := filter_two f xs
    cases h : f x with
    | true => rw [List.filter_cons_of_pos h, List.filter_cons_of_neg (by rw [h]; decide), List.length_cons, List.length_cons]; omega
    | false => rw [List.filter_cons_of_neg (by rw [h]; decide), List.filter_cons_of_pos (by rw [h]; rfl), List.length_cons, List.length_cons]; omega
theorem shut_size {M : Mat} {n : Nat} {P L : List Pr} (h : Shut M n P L) (hP : Apart P) (hv : ∀ o ∈ Ks L, o ∈ Vs P) : (coverX P L).length + (Ks L).length = P.length := by
  have e := filter_two (fun p : Pr => (Ks L).contains p.2) P
  have e1 : (coverX P L).length = (P.filter fun p => !(Ks L).contains p.2).length := by unfold coverX Ks; rw [List.length_map]
  have vn := (apart_iff.mp hP).2
  have a1 : (Ks L).length ≤ (Vs (P.filter fun p => (Ks L).contains p.2)).length := sub_len h.ks fun o ho => by
    obtain ⟨i, hi⟩ := mem_vs.mp (hv o ho)
    exact mem_vs.mpr ⟨i, List.mem_filter.mpr ⟨hi, List.contains_iff_mem.mpr ho⟩⟩
  have a2 : (Vs (P.filter fun p => (Ks L).contains p.2)).length ≤ (Ks L).length := sub_len (List.Pairwise.sublist ((List.filter_sublist).map _) vn) fun o ho => by
    obtain ⟨i, hi⟩ := mem_vs.mp ho
    exact List.contains_iff_mem.mp (List.mem_filter.mp hi).2
  have e2 : (Vs (P.filter fun p => (Ks L).contains p.2)).length = (P.filter fun p => (Ks L).contains p.2).length := by unfold Vs; rw [List.length_map]
  omega
/-! ### seats: outlets for keys -/
/-- E: who sits where ahead of the change; o is to be given up, what stands at it is no more its own -/
structure Sea (M : Mat) (E0 L : List Pr) (ρ : Nat → Nat) (E : List Pr) (o : Nat) : Prop where
  ks : (Ks E).Nodup
  inj : ∀ j1 j2 i, (j1, i) ∈ E → (j2, i) ∈ E → j1 ≠ o → j2 ≠ o → j1 = j2
  ask : ∀ p ∈ E, cell M p.2 p.1 = 1
  inL : o ∈ Ks L
  stale : ∀ i, (o, i) ∈ E → (o, i) ∈ E0
  ins : ∀ i, (∃ j, j ≠ o ∧ (j, i) ∈ E) ↔ i ∈ Vs E0
  old : ∀ p ∈ E0, (p ∈ E ∧ p.1 ≠ o) ∨ ρ o ≤ ρ p.1
  len : (E.length = E0.length ∧ o ∉ Ks E) ∨ (E.length = E0.length + 1 ∧ o ∈ Ks E)
/-- who sits where, rightly: seats below n -/
structure Seat (M : Mat) (n : Nat) (E : List Pr) : Prop where
  ks : (Ks E).Nodup
  vs : (Vs E).Nodup
  ask : ∀ p ∈ E, p.2 < n ∧ cell M p.2 p.1 = 1
def flipP (E : List Pr) : List Pr := E.map fun p => (p.2, p.1)
theorem mem_flip {E : List Pr} {i j : Nat} : (i, j) ∈ flipP E ↔ (j, i) ∈ E := by
  unfold flipP
  rw [List.mem_map]
  constructor
  · rintro ⟨p, hp, e⟩
    have e1 : p.2 = i := congrArg Prod.fst e
    have e2 : p.1 = j := congrArg Prod.snd e
    rw [← e1, ← e2]
    exact hp
  · exact fun h => ⟨_, h, rfl⟩
theorem ks_flip (E : List Pr) : Ks (flipP E) = Vs E := by unfold Ks Vs flipP; rw [List.map_map]; rfl
/-- seats, and a cover of no more places of the inlets below k -/
structure Best (M : Mat) (k : Nat) (E : List Pr) : Prop where
  seat : Seat M k E
  cov : ∃ X Y, Cov M k X Y ∧ X.length + Y.length ≤ E.length
/-! ### readings of such tables -/
theorem take_snoc {α : Type} {xs : List α} {k : Nat} {x : α} (h : xs[k]? = some x) : xs.take (k + 1) = xs.take k ++ [x] := by
  rw [List.take_add_one, h]
  rfl
theorem dc_m {α : Type} {wi : WI} {wg : WG} {wk wv : WE} {vs : List Nat} {ε : Env} {N : Nat} {RT : T → Nat → Prop} (xs : List α) (e : α → PyData) (k v : α → Nat) (hg : Gv wi ε N (xs.map e)) (hn : xs.length ≤ 40000) (hk : (xs.map k).Nodup)
    (hs : ∀ (x : α) (A : Int → Int → Nat → Prop), x ∈ xs → A (k x : Int) (v x : Int) N → wg (e x) (wipeE ε vs) fun ε2 => wk ε2 N fun d M2 => dInt d fun a => wv ε2 M2 fun f M3 => dInt f fun b => A a b M3) (hd : RT (.dic ((xs.map fun x => (k x, v x)).map cN)) N) : wDc wi wg wk wv vs ε N RT := by
  refine hg _ ⟨by rw [List.length_map]; exact hn, fun j kvs M => kvs = ((xs.take j).map fun x => (k x, v x)).map cN ∧ M = N, ⟨rfl, rfl⟩, fun j d kvs M hx hI => ?_, fun kvs M hI => ?_⟩
  · obtain ⟨rfl, rfl⟩ := hI
    rw [List.getElem?_map] at hx
    cases hj : xs[j]? with
    | none => rw [hj] at hx; cases hx
    | some x =>
      rw [hj] at hx
      have ex : e x = d := Option.some.inj hx
      subst ex
      refine hs x (fun a b M3 => putI (((xs.take j).map fun x => (k x, v x)).map cN) a b = ((xs.take (j + 1)).map fun x => (k x, v x)).map cN ∧ M3 = M) (List.mem_of_getElem? hj) ⟨?_, rfl⟩
      rw [putI_cN, put_new, take_snoc hj, List.map_append, List.map_append, List.map_append]
      · rfl
      · intro z
        obtain ⟨q, hq⟩ := mem_ks.mp z
        obtain ⟨y, hy, e1⟩ := List.mem_map.mp hq
        have e2 : k y = k x := congrArg Prod.fst e1
        have hk' : ((xs.take (j + 1)).map k).Nodup := List.Pairwise.sublist ((List.take_sublist _ _).map _) hk
        rw [take_snoc hj, List.map_append] at hk'
        exact (List.nodup_append.mp hk').2.2 (k y) (List.mem_map_of_mem hy) (k x) (List.mem_singleton.mpr rfl) e2
  · obtain ⟨rfl, rfl⟩ := hI
    rw [List.length_map, List.take_of_length_le (Nat.le_refl _)]
    exact hd
/-! ### going forth and back, turn by turn -/
def Come (P : List Pr) (S : Nat → Prop) (L : List Pr) (i : Nat) : Prop := S i ∨ ∃ o, (i, o) ∈ P ∧ o ∈ Ks L
theorem ks_app {L : List Pr} {o i x : Nat} : x ∈ Ks (L ++ [(o, i)]) ↔ x ∈ Ks L ∨ x = o := by
  unfold Ks
  rw [List.map_append, List.mem_append]
  exact ⟨fun h => h.imp id fun h => List.mem_singleton.mp h, fun h => h.imp id fun h => List.mem_singleton.mpr h⟩
theorem Come.more {P : List Pr} {S : Nat → Prop} {L : List Pr} {o i x : Nat} (h : Come P S L x) : Come P S (L ++ [(o, i)]) x := h.imp id fun ⟨y, a, b⟩ => ⟨y, a, ks_app.mpr (.inl b)⟩
structure Mid (M : Mat) (n : Nat) (P : List Pr) (S : Nat → Prop) (t : Nat) (C : List Nat) (L : List Pr) : Prop where
  ks : (Ks L).Nodup
  way : ∃ ρ, Way M P S L ρ ∧ ∀ o ∈ Ks L, ρ o < t
  com : ∀ i ∈ C, i < n ∧ Come P S L i
  clo : ∀ i j, i < n → Come P S L i → cell M i j = 1 → i ∈ C ∨ j ∈ Ks L
structure Row (M : Mat) (n : Nat) (P : List Pr) (S : Nat → Prop) (t i : Nat) (Z : Nat → Prop) (C : List Nat) (L : List Pr) : Prop where
  ks : (Ks L).Nodup
  way : ∃ ρ, Way M P S L ρ ∧ (∀ o ∈ Ks L, ρ o ≤ t) ∧ (S i ∨ ∃ o, (i, o) ∈ P ∧ o ∈ Ks L ∧ ρ o < t)
  lt : i < n
  com : ∀ i ∈ C, i < n ∧ Come P S L i
  clo : ∀ x j, x < n → Come P S L x → cell M x j = 1 → x ∈ C ∨ (x = i ∧ Z j) ∨ j ∈ Ks L
section
variable {M : Mat} {n : Nat} {P : List Pr} {S : Nat → Prop} {t i : Nat} {Z Z' : Nat → Prop} {C C' : List Nat} {L : List Pr}
theorem Mid.row (m : Mid M n P S t C L) (hi : i ∈ C) (h1 : ∀ x ∈ C, x ∈ C' ∨ x = i) (h2 : ∀ x ∈ C', x ∈ C) (hz : ∀ j, cell M i j = 1 → Z j) : Row M n P S t i Z C' L := by
  obtain ⟨ρ, w, b⟩ := m.way
  obtain ⟨l, c⟩ := m.com i hi
  refine ⟨m.ks, ⟨ρ, w, fun o ho => Nat.le_of_lt (b o ho), c.imp id fun ⟨o, x, y⟩ => ⟨o, x, y, b o y⟩⟩, l, fun x hx => m.com x (h2 x hx), fun x j hx hc ha => ?_⟩
  rcases m.clo x j hx hc ha with h | h
  · rcases h1 x h with h | h
    · exact .inl h
    · exact .inr (.inl ⟨h, hz j (h ▸ ha)⟩)
  · exact .inr (.inr h)
theorem Row.skip (r : Row M n P S t i Z C L) (h : ∀ j, Z j → cell M i j = 1 → Z' j ∨ j ∈ Ks L) : Row M n P S t i Z' C L := by
  refine ⟨r.ks, r.way, r.lt, r.com, fun x j hx hc ha => ?_⟩
  rcases r.clo x j hx hc ha with h1 | ⟨h1, h2⟩ | h1
  · exact .inl h1
  · rcases h j h2 (h1 ▸ ha) with h3 | h3
    · exact .inr (.inl ⟨h1, h3⟩)
    · exact .inr (.inr h3)
  · exact .inr (.inr h1)
theorem Row.add {o : Nat} (r : Row M n P S t i Z C L) (ho : o ∉ Ks L) (ha : cell M i o = 1) (hC : ∀ x ∈ C, x ∈ C') (hP : ∀ x, (x, o) ∈ P → x ∈ C') (hC' : ∀ x ∈ C', x ∈ C ∨ (x < n ∧ (x, o) ∈ P)) (h : ∀ j, Z j → cell M i j = 1 → Z' j ∨ j = o) : Row M n P S t i Z' C' (L ++ [(o, i)]) := by
  obtain ⟨ρ, w, b, c⟩ := r.way
  have c2 : S i ∨ ∃ y, (i, y) ∈ P ∧ y ∈ Ks (L ++ [(o, i)]) ∧ (if y = o then t else ρ y) < t := by
    rcases c with c | ⟨y, a1, a2, a3⟩
    · exact .inl c
    · refine .inr ⟨y, a1, ks_app.mpr (.inl a2), ?_⟩
      rw [if_neg fun (e : y = o) => ho (e ▸ a2)]
      exact a3
  refine ⟨?_, ⟨_, way_add w ho ha c, fun x hx => ?_, c2⟩, r.lt, fun x hx => ?_, fun x j hx hc hj => ?_⟩
  · have := put_nodup (k := o) (v := i) r.ks
    rw [put_new ho] at this
    exact this
  · show (if x = o then t else ρ x) ≤ t
    split
    · exact Nat.le_refl _
    · rename_i hne
      exact b x ((ks_app.mp hx).resolve_right hne)
  · rcases hC' x hx with h1 | ⟨h1, h2⟩
    · exact ⟨(r.com x h1).1, (r.com x h1).2.more⟩
    · exact ⟨h1, .inr ⟨o, h2, ks_app.mpr (.inr rfl)⟩⟩
  · have old : Come P S L x → x ∈ C' ∨ (x = i ∧ Z' j) ∨ j ∈ Ks (L ++ [(o, i)]) := fun hc' => by
      rcases r.clo x j hx hc' hj with h1 | ⟨h1, h2⟩ | h1
      · exact .inl (hC x h1)
      · rcases h j h2 (h1 ▸ hj) with h3 | h3
        · exact .inr (.inl ⟨h1, h3⟩)
        · exact .inr (.inr (ks_app.mpr (.inr h3)))
      · exact .inr (.inr (ks_app.mpr (.inl h1)))
    rcases hc with hs | ⟨y, a1, a2⟩
    · exact old (.inl hs)
    · rcases ks_app.mp a2 with h1 | h1
      · exact old (.inr ⟨y, a1, h1⟩)
      · rw [h1] at a1
        exact .inl (hP x a1)
theorem Row.mid (r : Row M n P S t i Z C L) (h : ∀ j, Z j → cell M i j ≠ 1) : Mid M n P S (t + 1) C L := by
  obtain ⟨ρ, w, b, c⟩ := r.way
  refine ⟨r.ks, ⟨ρ, w, fun o ho => Nat.lt_succ_of_le (b o ho)⟩, r.com, fun x j hx hc hj => ?_⟩
  rcases r.clo x j hx hc hj with h1 | ⟨h1, h2⟩ | h1
  · exact .inl h1
  · exact absurd (h1 ▸ hj) (h j h2)
  · exact .inr h1
theorem Mid.next (m : Mid M n P S t C L) : Mid M n P S (t + 1) C L := by
  obtain ⟨ρ, w, b⟩ := m.way
  exact ⟨m.ks, ⟨ρ, w, fun o ho => Nat.lt_succ_of_lt (b o ho)⟩, m.com, m.clo⟩
theorem Mid.first (hC : ∀ i, i ∈ C ↔ i < n ∧ S i) : Mid M n P S 0 C [] :=
  ⟨List.nodup_nil, ⟨fun _ => 0, (fun _ z => nomatch z), fun _ z => nomatch z⟩, fun i hi => ⟨((hC i).mp hi).1, .inl ((hC i).mp hi).2⟩, fun i j hi hc _ => .inl ((hC i).mpr ⟨hi, hc.resolve_right fun ⟨_, _, z⟩ => nomatch z⟩)⟩
theorem Mid.shut (m : Mid M n P (fun i => i < n ∧ i ∉ Ks P) t [] L) (hP : ∀ p ∈ P, p.1 < n) : Shut M n P L :=
  ⟨m.ks, fun i j hi hk ha => (m.clo i j hi (.inl ⟨hi, hk⟩) ha).resolve_left List.not_mem_nil, fun i o j hi ho ha => (m.clo i j (hP _ hi) (.inr ⟨o, hi, ho⟩) ha).resolve_left List.not_mem_nil⟩
/-- those that came, each once -/
structure Que (n : Nat) (P : List Pr) (S : Nat → Prop) (t : Nat) (U C : List Nat) (L : List Pr) : Prop where
  nd : (U ++ C).Nodup
  com : ∀ i ∈ U ++ C, i < n ∧ Come P S L i
  len : C = [] ∨ U.length = t
theorem Que.push {U : List Nat} {o x y : Nat} (q : Que n P S t U C L) (hk : (Ks P).Nodup) (hS : ∀ i, S i → i ∉ Ks P) (ho : o ∉ Ks L) (hx : x < n) (hp : (x, o) ∈ P) (hl : U.length = t) : Que n P S t U (C ++ [x]) (L ++ [(o, y)]) := by
  have nx : x ∉ U ++ C := fun z => by
    rcases (q.com x z).2 with h | ⟨o', h1, h2⟩
    · exact hS x h (mem_ks.mpr ⟨o, hp⟩)
    · exact ho (key_fun hk h1 hp ▸ h2)
  refine ⟨?_, fun i hi => ?_, .inr hl⟩
  · rw [← List.append_assoc]
    refine List.nodup_append.mpr ⟨q.nd, List.pairwise_singleton _ _, fun a ha b hb e => nx ?_⟩
    rw [← List.mem_singleton.mp hb, ← e]
    exact ha
  · rw [← List.append_assoc] at hi
    rcases List.mem_append.mp hi with h | h
    · exact ⟨(q.com i h).1, (q.com i h).2.more⟩
    · rw [List.mem_singleton.mp h]
      exact ⟨hx, .inr ⟨o, hp, ks_app.mpr (.inr rfl)⟩⟩
theorem Que.add {U : List Nat} {o y : Nat} (q : Que n P S t U C L) : Que n P S t U C (L ++ [(o, y)]) := ⟨q.nd, fun i hi => ⟨(q.com i hi).1, (q.com i hi).2.more⟩, q.len⟩
theorem Que.full {U : List Nat} (q : Que n P S n U C L) : C = [] := by
  rcases q.len with h | h
  · exact h
  · have := nodup_len q.nd fun x hx => (q.com x hx).1
    rw [List.length_append] at this
    exact List.length_eq_zero_iff.mp (by omega)
end
theorem in_nats_t {kd : Bool} {k : Nat} {ns : List Nat} {S : PyData → Prop} : oIn true (.int (k : Int)) (seqD kd (ns.map nD)) S = S (.bool (!ns.contains k)) := by
  have e : ns.map nD = (ns.map fun n : Nat => (n : Int)).map PyData.int := by rw [List.map_map]; rfl
  rw [e, oIn_seq, contains_nat]
  rfl
theorem in_nats_f {kd : Bool} {k : Nat} {ns : List Nat} {S : PyData → Prop} : oIn false (.int (k : Int)) (seqD kd (ns.map nD)) S = S (.bool (ns.contains k)) := by
  have e : ns.map nD = (ns.map fun n : Nat => (n : Int)).map PyData.int := by rw [List.map_map]; rfl
  rw [e, oIn_seq, contains_nat]
  rfl
theorem filter_map_if {α β : Type} (p : α → Bool) (f : α → β) : ∀ xs : List α, (xs.filterMap fun x => if p x = true then some (f x) else none) = (xs.filter p).map f
  | [] => rfl
  | x :: xs => by
    have ih := filter_map_if p f xs
    cases h : p x with
    | true => rw [List.filterMap_cons_some (by rw [h]; rfl), List.filter_cons_of_pos h, List.map_cons, ih]
    | false => rw [List.filterMap_cons_none (by rw [h]; rfl), List.filter_cons_of_neg (by rw [h]; decide), ih]
theorem cell_lt {M : Mat} {i j : Nat} (h : cell M i j = 1) : i < M.length ∧ j < (M.getD i []).length := by
  unfold cell at h
  constructor
  · refine Classical.byContradiction fun z => ?_
    rw [List.getD_eq_getElem?_getD (l := M), List.getElem?_eq_none (by omega)] at h
    simp at h
  · refine Classical.byContradiction fun z => ?_
    rw [List.getD_eq_getElem?_getD (i := j), List.getElem?_eq_none (by omega)] at h
    simp at h
theorem valI_some {L : List Pr} {k : Nat} : (valI (L.map cN) (k : Int)).isSome = (valN L k).isSome := by rw [valI_cN, Option.isSome_map]
theorem Way.small {M : Mat} {P : List Pr} {S : Nat → Prop} {L : List Pr} {ρ : Nat → Nat} (w : Way M P S L ρ) (hz : Sz M) {o : Nat} (ho : o ∈ Ks L) : o < 100 := by
  obtain ⟨i, hi⟩ := mem_ks.mp ho
  have h := cell_lt (w _ hi).1
  have hr : M.getD i [] ∈ M := by
    rw [List.getD_eq_getElem?_getD, List.getElem?_eq_getElem h.1]
    exact List.getElem_mem h.1
  have := hz.2 _ hr
  exact Nat.lt_of_lt_of_le h.2 this
theorem way_len {M : Mat} {P : List Pr} {S : Nat → Prop} {L : List Pr} {ρ : Nat → Nat} (w : Way M P S L ρ) (hz : Sz M) (hk : (Ks L).Nodup) : L.length ≤ 100 := by
  have := nodup_len hk fun x hx => w.small hz hx
  unfold Ks at this
  rw [List.length_map] at this
  exact this
end Cg

set_option Elab.async false
set_option linter.all false
set_option maxRecDepth 100000
set_option maxHeartbeats 1000000
namespace Cg
open PySem PySem.Spec PyProof.Rows L2 Evl
/-! ### the same, step by step: what is told is one and the same each time -/
def iterS {σ : Type} (f : σ → σ) : Nat → σ → σ
  | 0, s => s
  | n + 1, s => f (iterS f n s)
theorem iter_stop {σ : Type} {f : σ → σ} {s0 s : σ} {t : Nat} (h : iterS f t s0 = s) (hf : f s = s) : ∀ d : Nat, iterS f (t + d) s0 = s
  | 0 => h
  | d + 1 => by
    show f (iterS f (t + d) s0) = s
    rw [iter_stop h hf d, hf]
theorem iter_end {σ : Type} {f : σ → σ} {s0 s : σ} {t T : Nat} (h : iterS f t s0 = s) (hf : f s = s) (ht : t ≤ T) : iterS f T s0 = s := by
  have := iter_stop h hf (T - t)
  rw [show t + (T - t) = T by omega] at this
  exact this
def freeN (M : Mat) (P : List Pr) : List Nat := (List.range M.length).filter fun i => !(Ks P).contains i
def rowStep (P : List Pr) (i : Nat) (s : List Pr × List Nat) (q : Int × Nat) : List Pr × List Nat :=
  if q.1 = 1 ∧ q.2 ∉ Ks s.1 then (s.1 ++ [(q.2, i)], s.2 ++ (valN (flipP P) q.2).toList) else s
def turnS (M : Mat) (P : List Pr) (s : List Pr × List Nat) : List Pr × List Nat := match s.2.getLast? with
  | none => s
  | some i => (M.getD i []).zipIdx.foldl (rowStep P i) (s.1, s.2.dropLast)
def reachF (M : Mat) (P : List Pr) : List Pr := (iterS (turnS M P) 200 ([], freeN M P)).1
def overS (L : List Pr) (s : List Pr × Option Nat) : List Pr × Option Nat := match s.2 with
  | none => s
  | some o => match valN L o with
    | none => s
    | some i => (putN s.1 i o, valN s.1 i)
def overF (L P : List Pr) (o : Nat) : List Pr := (iterS (overS L) 300 (P, some o)).1
def lexB (p q : Pr) : Bool := decide (p.1 < q.1) || (decide (p.1 = q.1) && decide (p.2 ≤ q.2))
def sortF (D : List Pr) : List Pr := D.mergeSort lexB
def grownF (M : Mat) (P : List Pr) : Option (List Pr) := match ((Ks (reachF M P)).filter fun o => !(Vs P).contains o).head? with
  | none => none
  | some o => some (sortF (overF (reachF M P) P o))
theorem lexB_iff {p q : Pr} : lexB p q = true ↔ p.1 < q.1 ∨ (p.1 = q.1 ∧ p.2 ≤ q.2) := by
  unfold lexB
  rw [Bool.or_eq_true, Bool.and_eq_true, decide_eq_true_eq, decide_eq_true_eq, decide_eq_true_eq]
theorem ks_perm {A B : List Pr} (h : A.Perm B) : (Ks A).Perm (Ks B) := List.Perm.map _ h
theorem vs_perm {A B : List Pr} (h : A.Perm B) : (Vs A).Perm (Vs B) := List.Perm.map _ h
theorem sort_perm (D : List Pr) : (sortF D).Perm D := List.mergeSort_perm _ _
theorem sort_rise {D : List Pr} (h : (Ks D).Nodup) : (sortF D).Pairwise fun p q => p.1 < q.1 := by
  have h1 : (sortF D).Pairwise fun p q => lexB p q = true := List.pairwise_mergeSort (le := lexB) (fun a b c h1 h2 => by
    rw [lexB_iff] at *
    omega) (fun a b => by
    rw [Bool.or_eq_true, lexB_iff, lexB_iff]
    omega) D
  have h2 : (sortF D).Pairwise fun p q => p.1 ≠ q.1 := by
    have : (Ks (sortF D)).Nodup := (List.Perm.nodup_iff (ks_perm (sort_perm D))).mpr h
    exact List.pairwise_map.mp this
  exact (h1.and h2).imp fun {p q} hpq => by
    have := lexB_iff.mp hpq.1
    have := hpq.2
    omega
theorem rise_uniq : ∀ {ps qs : List Pr}, ps.Pairwise (fun p q => p.1 < q.1) → qs.Pairwise (fun p q => p.1 < q.1) → ps.Perm qs → ps = qs
  | [], qs, _, _, h => h.nil_eq
  | p :: ps, [], _, _, h => absurd h.length_eq (by simp)
  | p :: ps, q :: qs, h1, h2, h => by
    obtain ⟨a1, a2⟩ := List.pairwise_cons.mp h1
    obtain ⟨b1, b2⟩ := List.pairwise_cons.mp h2
    have e : p = q := by
      rcases List.mem_cons.mp (h.mem_iff.mp (List.mem_cons_self ..)) with e | e
      · exact e
      · rcases List.mem_cons.mp (h.mem_iff.mpr (List.mem_cons_self ..)) with e2 | e2
        · exact e2.symm
        · have := b1 p e
          have := a1 q e2
          omega
    subst e
    rw [rise_uniq a2 b2 ((List.perm_cons p).mp h)]
/-- a row of pairs, sorted -/
theorem sorted_is {D : List Pr} {qs : List (Int × Int)} (h : (Ks D).Nodup) (hp : qs.Perm (D.map cN)) (hs : qs.Pairwise lexP) : qs = (sortF D).map cN := by
  have e : ∀ q ∈ qs, cN (q.1.toNat, q.2.toNat) = q := fun q hq => by
    obtain ⟨p, _, rfl⟩ := List.mem_map.mp (hp.mem_iff.mp hq)
    rfl
  have eq : qs = (qs.map fun q => (q.1.toNat, q.2.toNat)).map cN := by
    rw [List.map_map]
    exact (List.map_id qs).symm.trans (List.map_congr_left fun q hq => (e q hq).symm)
  have pf : (qs.map fun q : Int × Int => (q.1.toNat, q.2.toNat)).Perm D := by
    have := hp.map fun q : Int × Int => (q.1.toNat, q.2.toNat)
    rw [List.map_map] at this
    exact this.trans (.of_eq ((List.map_congr_left fun p _ => rfl).trans (List.map_id _)))
  generalize (qs.map fun q : Int × Int => (q.1.toNat, q.2.toNat)) = ps at eq pf
  rw [eq] at hs
  have nd : ps.Pairwise fun p q => p.1 ≠ q.1 := List.pairwise_map.mp ((List.Perm.nodup_iff (ks_perm pf)).mpr h)
  have hr : ps.Pairwise fun p q => p.1 < q.1 := ((List.pairwise_map.mp hs).and nd).imp fun {a b} hab => by
    rcases hab.1 with h | h
    · have : ((a.1 : Int) < (b.1 : Int)) := h
      omega
    · have : ((a.1 : Int) = (b.1 : Int)) := h.1
      exact absurd (by omega) hab.2
  rw [eq, rise_uniq hr (sort_rise h) (pf.trans (sort_perm D).symm)]
theorem sort_prs {M : Mat} {D : List Pr} (h1 : (Ks D).Nodup) (h2 : (Vs D).Nodup) (ha : ∀ p ∈ D, cell M p.1 p.2 = 1) : Prs M (sortF D) :=
  prs_of (fun p hp => ha p ((sort_perm D).mem_iff.mp hp)) ((sort_rise h1).imp fun h => .inl h) (apart_iff.mpr ⟨(List.Perm.nodup_iff (ks_perm (sort_perm D))).mpr h1, (List.Perm.nodup_iff (vs_perm (sort_perm D))).mpr h2⟩)
theorem cleansM {α : Type} {f : α → T} : ∀ {xs : List α}, (∀ x ∈ xs, (f x).clean = true) → T.cleans (xs.map f) = true
  | [], _ => by rw [List.map_nil]; unfold T.cleans; rfl
  | x :: xs, h => by
    rw [List.map_cons]
    unfold T.cleans
    rw [h x (List.mem_cons_self ..), cleansM fun y hy => h y (List.mem_cons_of_mem _ hy)]
    rfl
theorem dataP (ps : List Pr) : (T.lst (ps.map fun p => T.sh (pD p))).data = .list (ps.map pD) := by
  show PyData.list (T.datas _) = _
  rw [datas_map, List.map_map]
  rfl
theorem sortP_is {D : List Pr} {S : List PyData → Prop} (h : (Ks D).Nodup) (hS : S ((sortF D).map pD)) : oSortP [.list (D.map pD)] S := by
  refine ⟨D.map cN, by rw [List.map_map]; rfl, fun qs hp hs => ?_⟩
  rw [sorted_is h hp hs, List.map_map]
  exact hS
theorem eqvNil {a : List PyData} : PyData.eqv (.list a) (.list []) = a.isEmpty := by cases a <;> rfl
theorem tab_data (M : Mat) : (T.lst (M.map fun r => .lst (r.map fun x => .sh (.int x)))).data = tabD true true M := by
  show PyData.list (T.datas _) = _
  rw [datas_map, List.map_map]
  unfold tabD
  show PyData.list _ = PyData.list _
  congr 1
  refine List.map_congr_left fun r _ => ?_
  show PyData.list (T.datas _) = _
  rw [datas_map, List.map_map]
  rfl
theorem eraseM {α β : Type} (f : α → β) : ∀ (l : List α) (i : Nat), (l.map f).eraseIdx i = (l.eraseIdx i).map f
  | [], _ => rfl
  | _ :: _, 0 => rfl
  | x :: l, i + 1 => by
    show f x :: (l.map f).eraseIdx i = f x :: (l.eraseIdx i).map f
    rw [eraseM f l i]
theorem eraseP {α : Type} : ∀ {l : List α} {i : Nat} (h : i < l.length), (l[i] :: l.eraseIdx i).Perm l
  | [], _, h => absurd h (Nat.not_lt_zero _)
  | x :: l, 0, _ => List.Perm.refl _
  | x :: l, i + 1, h => by
    have ih := eraseP (l := l) (i := i) (Nat.lt_of_succ_lt_succ h)
    show (l[i]'(Nat.lt_of_succ_lt_succ h) :: x :: l.eraseIdx i).Perm (x :: l)
    exact (List.Perm.swap _ _ _).trans (ih.cons x)
theorem wIt_eq {we : WE} {ε : Env} {N : Nat} {R : List PyData → Nat → Prop} : wIt we ε N R = we ε N fun d N1 => dSeq d fun ds => R ds N1 := propext Iff.rfl
theorem ints_nD (ns : List Nat) : intsOf (ns.map nD) = some (ns.map fun n : Nat => (n : Int)) := by
  have e : ns.map nD = (ns.map fun n : Nat => (n : Int)).map PyData.int := by rw [List.map_map]; rfl
  rw [e, intsOf_map]
end Cg

set_option Elab.async false
set_option linter.all false
set_option maxRecDepth 100000
set_option maxHeartbeats 1000000
namespace Cg
open PySem PySem.Spec PyProof.Rows L2 Evl
/-! ### x = y, both their own: y is no more -/
def wMove (i j : Nat) : WS := fun D ε N => atIs ε[j]? fun t => D.nx ((ε.set j .no).set i (.is t)) N
theorem sim_move {i j : Nat} : SimS (tAsg (tVar j) (gName i)) (wMove i j) := fun {c bs F σ H ε N DW D} r w m => by
  have w' : match ε[j]? with | some (.is t) => DW.nx ((ε.set j .no).set i (.is t)) N | _ => False := w
  split at w'
  · rename_i t hl
    obtain ⟨x, A, F1, F2, q1, q2, rfl, q4⟩ := r.env.at hl
    cases q2 with
    | is q2 =>
      rename_i v
      refine ⟨v, q1, ?_⟩
      show D.nx (σ.set i (some v)) H
      have hm : ∀ a ∈ F1 ++ ([] ++ F2), a ∈ F1 ++ (A ++ F2) := fun a ha => by
        rcases List.mem_append.mp ha with h | h
        · exact List.mem_append_left _ h
        · exact List.mem_append_right _ (List.mem_append_right _ h)
      have env := q4 (cs := bs) (H' := H) (y := some v) (m := .no) r.nt (Same.refl _) (fun _ _ _ e => e) .no
      rw [set_same q1] at env
      have r1 : Rel c bs (F1 ++ ([] ++ F2)) σ H (ε.set j .no) N := ⟨env, nodup_mid r.nd List.nodup_nil (fun _ z => nomatch z), fun a ha => r.sub a (hm a ha), fun a ha => r.off a (hm a ha), fun a ha => r.nb a (hm a ha), r.up, r.bb, r.offb, r.live, r.nt, r.box, r.pin, r.vis⟩
      have inA : ∀ a ∈ A, a ∈ F1 ++ (A ++ F2) := fun a ha => List.mem_append_right _ (List.mem_append_left _ ha)
      have ndA : A.Nodup := (List.nodup_append.mp (List.nodup_append.mp r.nd).2.1).1
      obtain ⟨F', r2, _⟩ := r1.put (i := i) q2 ndA fun a ha => ⟨r.sub a (inA a ha), fun z => by
        obtain ⟨_, p2, p3⟩ := List.nodup_append.mp r.nd
        rcases List.mem_append.mp z with h | h
        · exact p3 a h a (List.mem_append_left _ ha) rfl
        · exact (List.nodup_append.mp p2).2.2 a ha a h rfl, r.off a (inA a ha), r.nb a (inA a ha)⟩
      exact m.nx r2 w'
  · exact w'.elim
theorem wMove_eq {i j : Nat} {D : EW} {ε : Env} {N : Nat} : wMove i j D ε N = atIs ε[j]? fun t => D.nx ((ε.set j .no).set i (.is t)) N := propext Iff.rfl
/-- return (x, e), x its own, e new -/
def wRetVT (i : Nat) (wt : WT) : WS := fun D ε N => atIs ε[i]? fun t => wt ε N fun u N' => D.rt (.tup [t, u]) N'
theorem wRetVT_eq {i : Nat} {wt : WT} {D : EW} {ε : Env} {N : Nat} : wRetVT i wt D ε N = atIs ε[i]? fun t => wt ε N fun u N' => D.rt (.tup [t, u]) N' := propext Iff.rfl
theorem sim_retVT {i : Nat} {te : TE} {wt : WT} (h : SimT te wt) : SimS (tRet (tTup (tCons (tVar i) (tCons te tNil)))) (wRetVT i wt) := fun {c bs F σ H ε N DW D} r w m => by
  obtain ⟨t, e1, w⟩ := atIs_some w
  obtain ⟨y, A0, G1, G2, hx, hr0, eF, _⟩ := r.env.at e1
  cases hr0 with
  | is hr0 =>
    rename_i v
    refine ⟨v, hx, h r w fun v2 u B N' H' hR o n => ?_⟩
    have r1 := r.hide o n.new n.rep.own
    obtain ⟨y', A, F1, F2, hx', hr, rfl, _⟩ := r1.env.at e1
    cases hr with
    | is hr =>
      rename_i v'
      have ev : v' = v := by
        rw [hx] at hx'
        cases hx'
        rfl
      subst ev
      refine ⟨by show 2 ≤ sizeLine; decide, fun p np => ?_⟩
      have ex : Same H' (upd H' p (.tup [v', v2])) := Ex.new np
      have hA : ∀ a ∈ A, a ∈ F1 ++ (A ++ F2) := fun a ha => List.mem_append_right _ (List.mem_append_left _ ha)
      have ndA : A.Nodup := (List.nodup_append.mp (List.nodup_append.mp r.nd).2.1).1
      have dis : ∀ a ∈ A, a ∉ B := fun a ha hb => r.live a (r.sub a (hA a ha)) (n.new a hb)
      have kp : Same (hid (B ++ bs) H') (hid ((A ++ (B ++ [])) ++ c.bs0) (upd H' p (.tup [v', v2]))) := (hid_perm (fun a ha => by
        rcases List.mem_append.mp ha with z | z
        · rcases List.mem_append.mp z with z | z
          · exact r1.sub a (hA a z)
          · rw [List.append_nil] at z; exact List.mem_append_left _ z
        · exact r1.up a z)).trans (same_hid ex)
      have all : ∀ a ∈ A ++ (B ++ []), a ∈ A ∨ a ∈ B := fun a ha => (List.mem_append.mp ha).imp id fun z => by rw [List.append_nil] at z; exact z
      refine m.rt ⟨.tup upd_same (.cons (Rep.chg r1.nt kp (fun a _ o e => ex a o e) hr) (.cons (Rep.chg r1.nt kp (fun a _ o e => ex a o e) n.rep) .nil)), ?_, fun a ha => ?_, fun a ha => ?_, fun a ha => (o.box a ha).mono ex, r1.pin.trans ex⟩ hR
      · rw [List.append_nil]
        exact nodup_app ndA n.nd dis
      · rcases all a ha with z | z
        · exact r1.off a (hA a z)
        · exact pin_none r (n.new a z)
      · rcases all a ha with z | z
        · exact r1.nb a (hA a z)
        · exact fun q => r.live a (r.up a q) (n.new a z)
end Cg

set_option Elab.async false
set_option linter.all false
set_option maxRecDepth 100000
set_option maxHeartbeats 1000000
namespace Cg
open PySem PySem.Spec PyProof.Rows L2 Evl
section
variable {X : Cx}
/-! xs.count(d), data of any depth -/
end
/-! min(xs), a list of ints -/
/-! if not f(box, x.pop(k)): .. -/
end Cg

set_option Elab.async false
set_option linter.all false
set_option maxRecDepth 100000
set_option maxHeartbeats 1000000
namespace Cg
open PySem PySem.Spec PyProof.Rows L2 Evl
/-! ### sums over places -/
def sm (n : Nat) (g : Nat → Int) : Int := ((List.range n).map g).sum
theorem sm_zero (g : Nat → Int) : sm 0 g = 0 := rfl
theorem sm_succ (n : Nat) (g : Nat → Int) : sm (n + 1) g = sm n g + g n := by
  unfold sm
  rw [List.range_succ, List.map_append, List.sum_append]
  simp
theorem sm_cg {n : Nat} {g h : Nat → Int} (e : ∀ i, i < n → g i = h i) : sm n g = sm n h := by
  unfold sm
  rw [List.map_congr_left fun i hi => e i (List.mem_range.mp hi)]
theorem sm_add (n : Nat) (g h : Nat → Int) : sm n (fun i => g i + h i) = sm n g + sm n h := by
  induction n with
  | zero => rfl
  | succ n ih => rw [sm_succ, sm_succ, sm_succ, ih]; omega
theorem sm_sub (n : Nat) (g h : Nat → Int) : sm n (fun i => g i - h i) = sm n g - sm n h := by
  induction n with
  | zero => rfl
  | succ n ih => rw [sm_succ, sm_succ, sm_succ, ih]; omega
theorem sm_const (n : Nat) (c : Int) : sm n (fun _ => c) = n * c := by
  induction n with
  | zero => rw [sm_zero]; simp
  | succ n ih => rw [sm_succ, ih, Int.natCast_add, Int.add_mul]; simp
theorem sm_mul (n : Nat) (g : Nat → Int) (c : Int) : sm n (fun i => g i * c) = sm n g * c := by
  induction n with
  | zero => rw [sm_zero, sm_zero]; simp
  | succ n ih => rw [sm_succ, sm_succ, ih, Int.add_mul]
theorem sm_le {n : Nat} {g h : Nat → Int} (e : ∀ i, i < n → g i ≤ h i) : sm n g ≤ sm n h := by
  induction n with
  | zero => exact Int.le_refl _
  | succ n ih =>
    rw [sm_succ, sm_succ]
    have := ih fun i hi => e i (by omega)
    have := e n (by omega)
    omega
theorem sm_nn {n : Nat} {g : Nat → Int} (e : ∀ i, i < n → 0 ≤ g i) : 0 ≤ sm n g := by
  have := sm_le (n := n) (g := fun _ => 0) (h := g) e
  rw [sm_const] at this
  omega
theorem sm_all0 {n : Nat} {g : Nat → Int} (e : ∀ i, i < n → 0 ≤ g i) (z : sm n g = 0) : ∀ i, i < n → g i = 0 := by
  induction n with
  | zero => intro i hi; omega
  | succ n ih =>
    rw [sm_succ] at z
    have h1 := sm_nn (n := n) (g := g) fun i hi => e i (by omega)
    have h2 := e n (by omega)
    intro i hi
    by_cases hn : i = n
    · subst hn; omega
    · exact ih (fun i hi => e i (by omega)) (by omega) i (by omega)
theorem sm_swap (n m : Nat) (g : Nat → Nat → Int) : sm n (fun i => sm m fun j => g i j) = sm m fun j => sm n fun i => g i j := by
  induction n with
  | zero => rw [sm_zero]; rw [sm_cg (n := m) (h := fun _ => 0) fun j _ => sm_zero _, sm_const]; simp
  | succ n ih =>
    rw [sm_succ, ih, ← sm_add]
    exact sm_cg fun j _ => (sm_succ _ _).symm
/-- one place alone -/
theorem sm_one {n k : Nat} (c : Int) (h : k < n) : sm n (fun i => if i = k then c else 0) = c := by
  induction n with
  | zero => omega
  | succ n ih =>
    rw [sm_succ]
    by_cases e : n = k
    · subst e
      rw [if_pos rfl, sm_cg (h := fun _ => 0) fun i hi => if_neg (by omega), sm_const]
      simp
    · rw [if_neg e, ih (by omega)]
      simp
/-- how many of these are below n -/
theorem sm_mem (n : Nat) (X : List Nat) : sm n (fun i => if i ∈ X then 1 else 0) ≤ X.length := by
  have e : sm n (fun i => if i ∈ X then 1 else 0) = (((List.range n).filter fun i => decide (i ∈ X)).length : Nat) := by
    induction n with
    | zero => rfl
    | succ n ih =>
      rw [sm_succ, ih, List.range_succ, List.filter_append, List.length_append]
      by_cases h : n ∈ X
      · rw [if_pos h, List.filter_cons_of_pos (by simpa using h)]; rfl
      · rw [if_neg h, List.filter_cons_of_neg (by simpa using h)]; rfl
  rw [e]
  have := sub_len (List.Pairwise.filter (fun i => decide (i ∈ X)) (List.nodup_range (n := n))) (ys := X) fun x hx => by simpa using (List.mem_filter.mp hx).2
  omega
/-! ### numbers whose rows and columns all give b -/
structure Reg (n : Nat) (b : Int) (f : Nat → Nat → Int) : Prop where
  nn : ∀ i j, i < n → j < n → 0 ≤ f i j
  row : ∀ i, i < n → sm n (f i) = b
  col : ∀ j, j < n → sm n (fun i => f i j) = b
theorem Reg.cov {n : Nat} {b : Int} {f : Nat → Nat → Int} (h : Reg n b f) (hb : 0 < b) {X Y : List Nat} (c : ∀ i j, i < n → j < n → 0 < f i j → i ∈ X ∨ j ∈ Y) : n ≤ X.length + Y.length := by
  have h1 : sm n (fun i => sm n fun j => f i j) = n * b := by
    rw [← sm_const]
    exact sm_cg fun i hi => h.row i hi
  have h2 : sm n (fun i => sm n fun j => f i j) ≤ sm n (fun i => sm n fun j => (if i ∈ X then 1 else 0) * f i j + (if j ∈ Y then 1 else 0) * f i j) := by
    refine sm_le fun i hi => sm_le fun j hj => ?_
    have h0 := h.nn i j hi hj
    by_cases hx : i ∈ X
    · rw [if_pos hx]
      split <;> omega
    · rw [if_neg hx]
      by_cases hy : j ∈ Y
      · rw [if_pos hy]; omega
      · rw [if_neg hy]
        have : ¬ 0 < f i j := fun z => (c i j hi hj z).elim hx hy
        omega
  have h3 : sm n (fun i => sm n fun j => (if i ∈ X then 1 else 0) * f i j + (if j ∈ Y then 1 else 0) * f i j) = sm n (fun i => if i ∈ X then 1 else 0) * b + sm n (fun j => if j ∈ Y then 1 else 0) * b := by
    rw [sm_cg (h := fun i => (if i ∈ X then 1 else 0) * b + sm n fun j => (if j ∈ Y then 1 else 0) * f i j) (fun i hi => by
      rw [sm_add, ← h.row i hi]
      congr 1
      rw [sm_cg (h := fun j => f i j * (if i ∈ X then 1 else 0)) (fun j _ => Int.mul_comm _ _), sm_mul, Int.mul_comm]), sm_add, sm_mul, sm_swap]
    congr 1
    rw [← sm_mul]
    refine sm_cg fun j hj => ?_
    rw [sm_cg (h := fun i => f i j * (if j ∈ Y then 1 else 0)) (fun i _ => Int.mul_comm _ _), sm_mul, h.col j hj, Int.mul_comm]
  have h4 := sm_mem n X
  have h5 := sm_mem n Y
  rw [h1, h3, ← Int.add_mul] at h2
  have h6 := Int.le_of_mul_le_mul_right h2 hb
  omega
/-- pairs that take each place once -/
theorem Reg.less {n : Nat} {b : Int} {f : Nat → Nat → Int} (h : Reg n b f) {P : List Pr} (ha : Apart P) (hl : n ≤ P.length) (hp : ∀ p ∈ P, p.1 < n ∧ p.2 < n ∧ 0 < f p.1 p.2) : Reg n (b - 1) fun i j => f i j - if (i, j) ∈ P then 1 else 0 := by
  obtain ⟨a1, a2⟩ := apart_iff.mp ha
  have full : ∀ {ns : List Nat}, ns.Nodup → (∀ x ∈ ns, x < n) → n ≤ ns.length → ∀ i, i < n → i ∈ ns := fun {ns} nd lt ln i hi => by
    refine Classical.byContradiction fun hc => ?_
    have := nodup_len (List.nodup_cons.mpr ⟨hc, nd⟩) (n := n) fun x hx => by
      rcases List.mem_cons.mp hx with rfl | hx
      · exact hi
      · exact lt x hx
    rw [List.length_cons] at this
    omega
  have k1 : ∀ i, i < n → i ∈ Ks P := full a1 (fun x hx => by
    obtain ⟨y, hy⟩ := mem_ks.mp hx
    exact (hp _ hy).1) (by unfold Ks; rw [List.length_map]; exact hl)
  have k2 : ∀ j, j < n → j ∈ Vs P := full a2 (fun x hx => by
    obtain ⟨p, hy, rfl⟩ := List.mem_map.mp hx
    exact (hp _ hy).2.1) (by unfold Vs; rw [List.length_map]; exact hl)
  refine ⟨fun i j hi hj => ?_, fun i hi => ?_, fun j hj => ?_⟩
  · show 0 ≤ f i j - _
    by_cases hm : (i, j) ∈ P
    · rw [if_pos hm]
      have : 0 < f i j := (hp _ hm).2.2
      omega
    · rw [if_neg hm]
      have := h.nn i j hi hj
      omega
  · rw [sm_sub, h.row i hi]
    obtain ⟨y, hy⟩ := mem_ks.mp (k1 i hi)
    rw [sm_cg (h := fun j => if j = y then 1 else 0) (fun j _ => by
      by_cases e : j = y
      · subst e; rw [if_pos hy, if_pos rfl]
      · rw [if_neg e, if_neg fun z => e (key_fun a1 z hy)]), sm_one _ (hp _ hy).2.1]
  · rw [sm_sub, h.col j hj]
    obtain ⟨p, hy, rfl⟩ := List.mem_map.mp (k2 j hj)
    rw [sm_cg (h := fun i => if i = p.1 then 1 else 0) (fun i _ => by
      by_cases e : i = p.1
      · subst e; rw [if_pos hy, if_pos rfl]
      · rw [if_neg e, if_neg fun z => e (val_fun a2 z (show (p.1, p.2) ∈ P from hy))]), sm_one _ (hp _ hy).1]
theorem Reg.zero {n : Nat} {f : Nat → Nat → Int} (h : Reg n 0 f) : ∀ i j, i < n → j < n → f i j = 0 := fun i j hi hj => sm_all0 (fun j hj => h.nn i j hi hj) (h.row i hi) j hj
end Cg

set_option Elab.async false
set_option linter.all false
set_option maxRecDepth 100000
set_option maxHeartbeats 1000000
namespace Cg
open PySem PySem.Spec PyProof.Rows L2 Evl
/-! ### a law that walks over boxes: what stands behind the box, by value -/
/-- all slots unknown but the cells and the box -/
def boxE (len s b : Nat) (ms : List Int) : Env := ((List.replicate len Sl.no).set s (.is (.sh (.list (ms.map PyData.int))))).set b .box
/-- the turn's ends: it goes on, the cells stand -/
def turnW (len s : Nat) (ms : List Int) : EW := ⟨fun ε _ => ε.length = len ∧ ε[s]? = some (.is (.sh (.list (ms.map PyData.int)))), fun _ _ => False, fun _ _ => False, fun ε _ => ε.length = len ∧ ε[s]? = some (.is (.sh (.list (ms.map PyData.int)))), fun _ _ _ => False, fun _ _ _ => False, fun _ _ _ _ => False⟩
theorem env_no {b bs : List Addr} {H : Hp} : ∀ {σ : L2.St}, RelE b bs H σ (List.replicate σ.length .no) []
  | [] => .nil
  | x :: σ => by
    show RelE b bs H (x :: σ) (.no :: List.replicate σ.length .no) []
    exact .no env_no
theorem law_loopB {K : PySem.W.Frag} {ts : TS} {ws : WS} (h : SimS ts ws) {σ : L2.St} {H : Hp} {D : Ends} {ta : TA} {n s k b : Nat} {l : Addr} {ms : List Int} (ha : EvA ta σ H [.int (n : Int)]) (hn : n ≤ 1000) (hs : σ[s]? = some (some (.ref l))) (hsk : k ≠ s) (hsb : b ≠ s) (hkb : b ≠ k) (hk : k < σ.length) (hb : b < σ.length)
    (hS : H l = some (.lst (ms.map V.int))) (hw : ws (turnW σ.length s ms) (boxE σ.length s b ms) 0) (hD : ∀ H', D.rt (.bl true) H') :
    tSeq (tFor (iRng1 ta) (gName k) (tSeq (tAsg (tCall (spBox K) [] E0 (tCons (tVar s) (tCons (tVar k) tNil))) (gName b)) ts)) (tRet (tC (.bl true))) D σ H := by
  refine ha H (Ex.refl _) _ fun H1 e1 => ⟨n, rfl, by omega, by omega, ?_⟩
  have toN : ((n : Int)).toNat = n := by omega
  rw [toN]
  refine for_range (lo := 0) (n := n) (fun i σ' H' => ∃ l', σ'[s]? = some (some (.ref l')) ∧ σ'.length = σ.length ∧ H' l' = some (.lst (ms.map V.int))) ⟨l, hs, rfl, e1 _ _ hS⟩ (fun i σ' H' hi hP => ?_) fun σ' H' _ => hD H'
  obtain ⟨l', p1, p2, p3⟩ := hP
  have e0 : (0 : Int) + (i : Int) = (i : Int) := Int.zero_add _
  rw [e0]
  refine ⟨.ref l', set_get_ne p1 hsk, .int (i : Int), set_get_eq (by omega), l', ms, i, rfl, SqL.of p3, by omega, fun bx H2 e2 nb hB => ?_⟩
  have hlen : ((σ'.set k (some (.int (i : Int)))).set b (some (.ref bx))).length = σ.length := by rw [List.length_set, List.length_set, p2]
  have hl2 : H2 l' = some (.lst (ms.map V.int)) := e2 _ _ p3
  have lb : l' ≠ bx := fun z => by rw [z, nb] at p3; cases p3
  have dq : Dq (hid [bx] H2) (.ref l') (.list (ms.map PyData.int)) := .lst (by rw [hid_out (fun z => lb (List.mem_singleton.mp z))]; exact hl2) (DqAll.ints ms)
  let c : Base := ⟨[bx], [bx], hid [bx] H2, hid [bx] H2⟩
  have lv : Live [bx] H2 := fun a ha => by rw [List.mem_singleton.mp ha]; exact hB.is
  have nt : NoTup [bx] H2 := fun a ha xs => by rw [List.mem_singleton.mp ha]; exact box_tup hB
  -- the slots
  have s1 : ((σ'.set k (some (.int (i : Int)))).set b (some (.ref bx)))[s]? = some (some (.ref l')) := set_get_ne (set_get_ne p1 hsk) hsb
  have s2 : ((σ'.set k (some (.int (i : Int)))).set b (some (.ref bx)))[b]? = some (some (.ref bx)) := set_get_eq (by rw [List.length_set, p2]; exact hb)
  have env0 : RelE [bx] [bx] H2 ((σ'.set k (some (.int (i : Int)))).set b (some (.ref bx))) (List.replicate σ.length .no) [] := by
    have := env_no (b := [bx]) (bs := [bx]) (H := H2) (σ := (σ'.set k (some (.int (i : Int)))).set b (some (.ref bx)))
    rw [hlen] at this
    exact this
  have hsl : s < σ.length := by
    have := (List.getElem?_eq_some_iff.mp p1).1
    omega
  obtain ⟨x1, A1, F1, G1, q1, q2, q3, q4⟩ := env0.at (i := s) (l := .no) (by rw [List.getElem?_replicate, if_pos hsl])
  have env1 := q4 (cs := [bx]) (H' := H2) (y := some (.ref l')) (m := .is (.sh (.list (ms.map PyData.int)))) (B := []) nt (Same.refl _) (fun _ _ _ e => e) (.is (.sh dq))
  rw [set_same s1] at env1
  have f1 : F1 ++ ([] ++ G1) = [] := by
    have : F1 ++ (A1 ++ G1) = [] := q3.symm
    obtain ⟨a1, a2⟩ := List.append_eq_nil_iff.mp this
    obtain ⟨a3, a4⟩ := List.append_eq_nil_iff.mp a2
    rw [a1, a4]
    rfl
  rw [f1] at env1
  have hbl : ((List.replicate σ.length Sl.no).set s (.is (.sh (.list (ms.map PyData.int)))))[b]? = some .no := by
    rw [List.getElem?_set_ne (fun e => hsb e.symm), List.getElem?_replicate, if_pos hb]
  obtain ⟨x2, A2, F2, G2, t1, t2, t3, t4⟩ := env1.at (i := b) (l := .no) hbl
  have env2 := t4 (cs := [bx]) (H' := H2) (y := some (.ref bx)) (m := .box) (B := []) nt (Same.refl _) (fun _ _ _ e => e) (.box rfl)
  rw [set_same s2] at env2
  have f2 : F2 ++ ([] ++ G2) = [] := by
    have : F2 ++ (A2 ++ G2) = [] := t3.symm
    obtain ⟨a1, a2⟩ := List.append_eq_nil_iff.mp this
    obtain ⟨a3, a4⟩ := List.append_eq_nil_iff.mp a2
    rw [a1, a4]
    rfl
  rw [f2] at env2
  have r : Rel c [bx] [] ((σ'.set k (some (.int (i : Int)))).set b (some (.ref bx))) H2 (boxE σ.length s b ms) 0 := ⟨env2, List.nodup_nil, (fun _ z => nomatch z), (fun _ z => nomatch z), (fun _ z => nomatch z), fun _ h => h, fun _ h => h, fun a ha => hid_in ha, lv, nt, fun a ha => by rw [List.mem_singleton.mp ha]; exact hB, hid_same, Same.refl _⟩
  have go : ∀ {bs F : List Addr} {σ2 : L2.St} {H3 : Hp} {ε : Env} {N : Nat}, Rel c bs F σ2 H3 ε N → ε.length = σ.length ∧ ε[s]? = some (.is (.sh (.list (ms.map PyData.int)))) → ∃ l', σ2[s]? = some (some (.ref l')) ∧ σ2.length = σ.length ∧ H3 l' = some (.lst (ms.map V.int)) := fun {bs F σ2 H3 ε N} r2 e => by
    obtain ⟨e1', e⟩ := e
    have hl2 : σ2.length = σ.length := r2.env.len.trans e1'
    obtain ⟨y, A, F1, F2, q1, q2, _, _⟩ := r2.env.at e
    cases q2 with
    | is q2 => cases q2 with
      | sh hd =>
        obtain ⟨a, xs, rfl, e4, h4⟩ := hd.list_inv
        rw [ints_inv h4] at e4
        exact ⟨a, q1, hl2, (hid_some e4).2⟩
  exact h r hw ⟨fun r2 w2 => go r2 w2, fun _ w2 => w2.elim, fun _ w2 => w2.elim, fun r2 w2 => go r2 w2, fun _ _ _ _ w2 => w2.elim, fun _ _ w2 => w2.elim⟩
end Cg

set_option Elab.async false
set_option linter.all false
set_option maxRecDepth 100000
set_option maxHeartbeats 1000000
namespace Cg
open PySem PySem.Spec PyProof.Rows L2 Evl
/-! ### the parts of what is its own -/
def T.kids : T → List T
  | .lst ts => ts
  | .tup ts => ts
  | .tpa _ ts => ts
  | .ins _ _ _ ts => ts
  | .rc _ _ ts => ts
  | .dct _ _ ts => ts
  | .lsa _ ts => ts
  | _ => []
def T.rekid : T → List T → T
  | .lst _, ts => .lst ts
  | .tup _, ts => .tup ts
  | .tpa a _, ts => .tpa a ts
  | .ins a C ns _, ts => .ins a C ns ts
  | .rc a ns _, ts => .rc a ns ts
  | .dct a ks _, ts => .dct a ks ts
  | .lsa a _, ts => .lsa a ts
  | t, _ => t
def atP : List Nat → T → Option T
  | [], t => some t
  | k :: π, t => match t.kids[k]? with
    | some u => atP π u
    | none => none
def putP : List Nat → T → T → T
  | [], _, s => s
  | k :: π, t, s => match t.kids[k]? with
    | some u => t.rekid (t.kids.set k (putP π u s))
    | none => t
/-- the values that stand in it -/
def Kd (H : Hp) (v : V) (vs : List V) : Prop := ∃ a, v = .ref a ∧ (H a = some (.lst vs) ∨ H a = some (.tup vs) ∨ (∃ (C dx : Addr) (ns : List Str), H a = some (.ins C dx (ns.zip vs)) ∧ ns.length = vs.length) ∨ (∃ ns : List Str, H a = some (.dK (kz ns vs)) ∧ ns.length = vs.length) ∨ ∃ ks : DKs, H a = some (ks.ob vs) ∧ ks.len = vs.length)
theorem zip_inj {α β : Type} : ∀ {ns ms : List α} {vs us : List β}, ns.length = vs.length → ms.length = us.length → ns.zip vs = ms.zip us → ns = ms ∧ vs = us
  | [], [], [], [], _, _, _ => ⟨rfl, rfl⟩
  | [], _ :: _, [], _ :: _, _, _, h => by cases h
  | _ :: _, [], _ :: _, [], _, _, h => by cases h
  | n :: ns, m :: ms, v :: vs, u :: us, h1, h2, h => by
    rw [List.zip_cons_cons, List.zip_cons_cons] at h
    injection h with h3 h4
    injection h3 with h5 h6
    obtain ⟨h7, h8⟩ := zip_inj (by simpa using h1) (by simpa using h2) h4
    rw [h5, h6, h7, h8]
    exact ⟨rfl, rfl⟩
theorem map_inj {α β : Type} {f : α → β} (hf : ∀ {x y}, f x = f y → x = y) : ∀ {xs ys : List α}, xs.map f = ys.map f → xs = ys
  | [], [], _ => rfl
  | [], _ :: _, h => by cases h
  | _ :: _, [], h => by cases h
  | x :: xs, y :: ys, h => by
    rw [List.map_cons, List.map_cons] at h
    injection h with h1 h2
    rw [hf h1, map_inj hf h2]
theorem kz_inj {ns ms : List Str} {vs us : List V} (h1 : ns.length = vs.length) (h2 : ms.length = us.length) (h : kz ns vs = kz ms us) : ns = ms ∧ vs = us := by
  refine zip_inj h1 h2 (map_inj (fun {x y} z => ?_) h)
  obtain ⟨x1, x2⟩ := x
  obtain ⟨y1, y2⟩ := y
  injection z with z1 z2
  injection z1 with z1
  have z1 : x1 = y1 := z1
  have z2 : x2 = y2 := z2
  rw [z1, z2]
theorem kzi_inj {ks : List Int} {ns : List Str} {vs us : List V} (h1 : ks.length = vs.length) (h2 : ns.length = us.length) (h : ((ks.zip vs).map fun p => ((.inl p.1 : Key), p.2)) = kz ns us) : vs = us := by
  cases ks with
  | nil =>
    cases vs with
    | nil =>
      cases ns with
      | nil => cases us with | nil => rfl | cons _ _ => cases h2
      | cons _ _ => cases us with | nil => cases h2 | cons _ _ => cases h
    | cons _ _ => cases h1
  | cons k ks =>
    cases vs with
    | nil => cases h1
    | cons v vs =>
      cases ns with
      | nil => cases h
      | cons n ns =>
        cases us with
        | nil => cases h2
        | cons u us =>
          injection h with h3 h4
          injection h3 with h5 h6
          cases h5
theorem ob_inj {ks ms : DKs} {vs us : List V} (h1 : ks.len = vs.length) (h2 : ms.len = us.length) (h : ks.ob vs = ms.ob us) : vs = us := by
  cases ks <;> cases ms
  · injection h with h
    exact (zip_inj h1 h2 (map_inj (fun {x y} z => by
      obtain ⟨x1, x2⟩ := x
      obtain ⟨y1, y2⟩ := y
      injection z with z1 z2
      injection z1 with z1
      have z1 : x1 = y1 := z1
      have z2 : x2 = y2 := z2
      rw [z1, z2]) h)).2
  · cases h
  · cases h
  · injection h with h
    exact (zip_inj h1 h2 (map_inj (fun {x y} z => by
      obtain ⟨⟨x0, x1⟩, x2⟩ := x
      obtain ⟨⟨y0, y1⟩, y2⟩ := y
      injection z with z1 z2
      injection z1 with z1 z3
      injection z1 with z1
      injection z3 with z3 _
      injection z3 with z3
      have z1 : x0 = y0 := z1
      have z3 : x1 = y1 := z3
      have z2 : x2 = y2 := z2
      rw [z1, z2, z3]) h)).2
theorem ob_kz {ks : DKs} {ns : List Str} {vs us : List V} (h1 : ks.len = vs.length) (h2 : ns.length = us.length) (h : ks.ob vs = .dK (kz ns us)) : vs = us := by
  cases ks with
  | i ks => injection h with h; exact kzi_inj h1 h2 h
  | p ks => cases h
theorem ob_ne {ks : DKs} {vs : List V} {P : Prop} : (∀ xs, ks.ob vs = .lst xs → P) ∧ (∀ xs, ks.ob vs = .tup xs → P) ∧ ∀ C dx fs, ks.ob vs = .ins C dx fs → P := by
  cases ks <;> exact ⟨fun _ h => (nomatch h), fun _ h => (nomatch h), fun _ _ _ h => (nomatch h)⟩
theorem Kd.fn {H : Hp} {v : V} {vs us : List V} (h : Kd H v vs) (k : Kd H v us) : vs = us := by
  obtain ⟨a, rfl, h⟩ := h
  obtain ⟨a', e, k⟩ := k
  cases e
  rcases h with h | h | ⟨C, dx, ns, h, l⟩ | ⟨ns, h, l⟩ | ⟨ks, h, l⟩ <;> rcases k with k | k | ⟨C', dx', ns', k, l'⟩ | ⟨ns', k, l'⟩ | ⟨ks', k, l'⟩ <;> rw [h] at k <;> have k := Option.some.inj k <;> first | (cases k; done) | exact ob_inj l l' k | exact ob_kz l l' k | exact (ob_kz l' l k.symm).symm | exact ob_ne.1 _ k | exact ob_ne.2.1 _ k | exact ob_ne.2.2 _ _ _ k | exact ob_ne.1 _ k.symm | exact ob_ne.2.1 _ k.symm | exact ob_ne.2.2 _ _ _ k.symm | skip
  · injection k
  · injection k
  · injection k with _ _ k
    exact (zip_inj l l' k).2
  · injection k with k
    exact (kz_inj l l' k).2
/-- along the path from v stands u -/
def VAt (H : Hp) : V → List Nat → V → Prop
  | v, [], u => v = u
  | v, k :: π, u => ∃ vs w, Kd H v vs ∧ vs[k]? = some w ∧ VAt H w π u
theorem VAt.fn {H : Hp} : ∀ {π : List Nat} {v u w : V}, VAt H v π u → VAt H v π w → u = w
  | [], _, _, _, h, k => h.symm.trans k
  | _ :: π, _, _, _, ⟨vs, x, h1, h2, h3⟩, ⟨us, y, k1, k2, k3⟩ => by
    have e := h1.fn k1
    subst e
    have e2 := Option.some.inj (h2.symm.trans k2)
    subst e2
    exact h3.fn k3
section
variable {bs cs : List Addr} {H H' : Hp}
/-- a node and its parts -/
theorem Rep.kids {v : V} {t u : T} {k : Nat} {A : List Addr} (h : Rep bs H v t A) (hk : t.kids[k]? = some u) : ∃ vs A0 A1, A = A0 ++ A1 ∧ Kd H v vs ∧ RepL bs H vs t.kids A1 ∧
    ∀ {cs : List Addr} {H' : Hp} {ts : List T} {B : List Addr}, NoTup bs H → Same (hid bs H) (hid cs H') → (∀ a ∈ A0, ∀ o, H a = some o → H' a = some o) → RepL cs H' vs ts B → Rep cs H' v (t.rekid ts) (A0 ++ B) ∧ Kd H' v vs := by
  cases h with
  | sh h => cases hk
  | lst e h =>
    rename_i a vs ts A
    exact ⟨vs, [a], A, rfl, ⟨a, rfl, .inl e⟩, h, fun {cs H' ts B} _ _ k2 r => ⟨.lst (k2 a (List.mem_singleton.mpr rfl) _ e) r, ⟨a, rfl, .inl (k2 a (List.mem_singleton.mpr rfl) _ e)⟩⟩⟩
  | tup e h =>
    rename_i a vs ts
    exact ⟨vs, [], A, rfl, ⟨a, rfl, .inr (.inl e)⟩, h, fun {cs H' ts B} hn k1 _ r => have e' := (hid_some (k1 _ _ (by rw [hid_out (fun z => hn _ z _ e)]; exact e))).2; ⟨.tup e' r, ⟨a, rfl, .inr (.inl e')⟩⟩⟩
  | tpa e h =>
    rename_i a vs ts
    exact ⟨vs, [], A, rfl, ⟨a, rfl, .inr (.inl e)⟩, h, fun {cs H' ts B} hn k1 _ r => have e' := (hid_some (k1 _ _ (by rw [hid_out (fun z => hn _ z _ e)]; exact e))).2; ⟨.tpa e' r, ⟨a, rfl, .inr (.inl e')⟩⟩⟩
  | shr h => cases hk
  | dic e => cases hk
  | ins e e2 l h =>
    rename_i a C dx ns vs ts A
    exact ⟨vs, [a, dx], A, rfl, ⟨a, rfl, .inr (.inr (.inl ⟨C, dx, ns, e, l⟩))⟩, h, fun {cs H' ts B} _ _ k2 r => ⟨.ins (k2 a (List.mem_cons_self ..) _ e) (k2 dx (List.mem_cons_of_mem _ (List.mem_cons_self ..)) _ e2) l r, ⟨a, rfl, .inr (.inr (.inl ⟨C, dx, ns, k2 a (List.mem_cons_self ..) _ e, l⟩))⟩⟩⟩
  | lsa e h =>
    rename_i a vs ts A
    exact ⟨vs, [a], A, rfl, ⟨a, rfl, .inl e⟩, h, fun {cs H' ts B} _ _ k2 r => ⟨.lsa (k2 a (List.mem_singleton.mpr rfl) _ e) r, ⟨a, rfl, .inl (k2 a (List.mem_singleton.mpr rfl) _ e)⟩⟩⟩
  | rc e l h =>
    rename_i a ns vs ts A
    exact ⟨vs, [a], A, rfl, ⟨a, rfl, .inr (.inr (.inr (.inl ⟨ns, e, l⟩)))⟩, h, fun {cs H' ts B} _ _ k2 r => ⟨.rc (k2 a (List.mem_singleton.mpr rfl) _ e) l r, ⟨a, rfl, .inr (.inr (.inr (.inl ⟨ns, k2 a (List.mem_singleton.mpr rfl) _ e, l⟩)))⟩⟩⟩
  | dct e l nd h =>
    rename_i a ks vs ts A
    exact ⟨vs, [a], A, rfl, ⟨a, rfl, .inr (.inr (.inr (.inr ⟨ks, e, l⟩)))⟩, h, fun {cs H' ts B} _ _ k2 r => ⟨.dct (k2 a (List.mem_singleton.mpr rfl) _ e) l nd r, ⟨a, rfl, .inr (.inr (.inr (.inr ⟨ks, k2 a (List.mem_singleton.mpr rfl) _ e, l⟩)))⟩⟩⟩
/-- the part k of a row, put back otherwise -/
theorem RepL.part : ∀ {vs : List V} {ts : List T} {A : List Addr}, RepL bs H vs ts A → ∀ {k : Nat} {t : T}, ts[k]? = some t → ∃ v A1 Av A2, vs[k]? = some v ∧ Rep bs H v t Av ∧ A = A1 ++ (Av ++ A2) ∧
    ∀ {cs : List Addr} {H' : Hp} {t' : T} {B : List Addr}, NoTup bs H → Same (hid bs H) (hid cs H') → (∀ a ∈ A1 ++ A2, ∀ o, H a = some o → H' a = some o) → Rep cs H' v t' B → RepL cs H' vs (ts.set k t') (A1 ++ (B ++ A2))
  | _, _, _, .nil, k, t, e => by cases e
  | _, _, _, .cons (v := v) (A := A) (B := B) h q, 0, t, e => by
    have e' := Option.some.inj e
    subst e'
    exact ⟨v, [], A, B, rfl, h, rfl, fun {cs H' t' B'} hn k1 k2 r => RepL.cons (A := B') (B := B) r (q.chg hn k1 k2)⟩
  | _, _, _, .cons (v := v) (A := A) (B := B) h q, k + 1, t, e => by
    obtain ⟨v2, A1, Av, A2, p1, p2, p3, p5⟩ := q.part (k := k) (t := t) e
    refine ⟨v2, A ++ A1, Av, A2, p1, p2, by rw [p3, List.append_assoc], fun {cs H' t' B'} hn k1 k2 r => ?_⟩
    rw [List.append_assoc]
    refine .cons (h.chg hn k1 fun a ha => k2 a ?_) (p5 hn k1 (fun a ha => k2 a ?_) r)
    · exact List.mem_append_left _ (List.mem_append_left _ ha)
    · rcases List.mem_append.mp ha with z | z
      · exact List.mem_append_left _ (List.mem_append_right _ z)
      · exact List.mem_append_right _ z
/-- the part at π -/
theorem Rep.zoom : ∀ {π : List Nat} {v : V} {t s : T} {A : List Addr}, Rep bs H v t A → atP π t = some s → ∃ u A1 B A2, A = A1 ++ (B ++ A2) ∧ VAt H v π u ∧ Rep bs H u s B ∧
    ∀ {cs : List Addr} {H' : Hp} {s' : T} {B' : List Addr}, NoTup bs H → Same (hid bs H) (hid cs H') → (∀ a ∈ A1 ++ A2, ∀ o, H a = some o → H' a = some o) → Rep cs H' u s' B' → Rep cs H' v (putP π t s') (A1 ++ (B' ++ A2))
  | [], v, t, s, A, h, e => by
    have e' : t = s := Option.some.inj e
    subst e'
    refine ⟨v, [], A, [], (List.append_nil A).symm, rfl, h, fun {cs H' s' B'} _ _ _ r => ?_⟩
    rw [List.append_nil]
    exact r
  | k :: π, v, t, s, A, h, e => by
    have e' : (match t.kids[k]? with | some u => atP π u | none => none) = some s := e
    split at e'
    · rename_i u hk
      obtain ⟨vs, A0, A1, eA, hkd, hr, back⟩ := h.kids hk
      obtain ⟨w, B1, Bv, B2, p1, p2, p3, p4⟩ := hr.part hk
      obtain ⟨x, C1, D, C2, q1, q2, q3, q4⟩ := p2.zoom e'
      refine ⟨x, A0 ++ (B1 ++ C1), D, C2 ++ B2, ?_, ⟨vs, w, hkd, p1, q2⟩, q3, fun {cs H' s' B'} hn k1 k2 r => ?_⟩
      · rw [eA, p3, q1]
        simp only [List.append_assoc]
      · have e1 : putP (k :: π) t s' = t.rekid (t.kids.set k (putP π u s')) := by
          show (match t.kids[k]? with | some u => t.rekid (t.kids.set k (putP π u s')) | none => t) = _
          rw [hk]
        rw [e1]
        have m1 : ∀ a, a ∈ A0 → a ∈ (A0 ++ (B1 ++ C1)) ++ (C2 ++ B2) := fun a ha => List.mem_append_left _ (List.mem_append_left _ ha)
        have r1 : Rep cs H' w (putP π u s') (C1 ++ (B' ++ C2)) := q4 hn k1 (fun a ha => k2 a (by
          rcases List.mem_append.mp ha with z | z
          · exact List.mem_append_left _ (List.mem_append_right _ (List.mem_append_right _ z))
          · exact List.mem_append_right _ (List.mem_append_left _ z))) r
        have r2 : RepL cs H' vs (t.kids.set k (putP π u s')) (B1 ++ ((C1 ++ (B' ++ C2)) ++ B2)) := p4 hn k1 (fun a ha => k2 a (by
          rcases List.mem_append.mp ha with z | z
          · exact List.mem_append_left _ (List.mem_append_right _ (List.mem_append_left _ z))
          · exact List.mem_append_right _ (List.mem_append_right _ z))) r1
        have r3 := (back hn k1 (fun a ha => k2 a (m1 a ha)) r2).1
        have e2 : A0 ++ (B1 ++ C1) ++ (B' ++ (C2 ++ B2)) = A0 ++ (B1 ++ ((C1 ++ (B' ++ C2)) ++ B2)) := by simp only [List.append_assoc]
        rw [e2]
        exact r3
    · cases e'
theorem VAt.chg (hn : NoTup bs H) (k1 : Same (hid bs H) (hid cs H')) : ∀ {π : List Nat} {v u : V} {t s : T} {A : List Addr}, Rep bs H v t A → atP π t = some s → (∀ a ∈ A, ∀ o, H a = some o → H' a = some o) → VAt H v π u → VAt H' v π u
  | [], v, u, t, s, A, _, _, _, h => h
  | k :: π, v, u, t, s, A, hr, e, hA, h => by
    have e' : (match t.kids[k]? with | some u => atP π u | none => none) = some s := e
    split at e'
    · rename_i x hk
      obtain ⟨vs, A0, A1, rfl, hkd, hl, back⟩ := hr.kids hk
      obtain ⟨w, B1, Bv, B2, p1, p2, rfl, _⟩ := hl.part hk
      obtain ⟨vs', w', g1, g2, g3⟩ := h
      have ev := hkd.fn g1
      subst ev
      have ew := Option.some.inj (p1.symm.trans g2)
      subst ew
      refine ⟨vs, w, (back hn k1 (fun a ha => hA a (List.mem_append_left _ ha)) (hl.chg hn k1 fun a ha => hA a (List.mem_append_right _ ha))).2, p1, VAt.chg hn k1 p2 e' (fun a ha => hA a (List.mem_append_right _ (List.mem_append_right _ (List.mem_append_left _ ha)))) g3⟩
    · cases e'
end
end Cg

set_option Elab.async false
set_option linter.all false
set_option maxRecDepth 100000
set_option maxHeartbeats 1000000
namespace Cg
open PySem PySem.Spec PyProof.Rows L2 Evl
section
variable {c : Base} {b bs cs F A B : List Addr} {σ τ : L2.St} {H H1 H2 H' : Hp} {ε δ : Env} {N N1 N2 N' : Nat} {u v : V} {t s : T} {d : PyData}
/-! ### rows of slots -/
theorem RelE.app {G : List Addr} (k : RelE b bs H τ δ G) : ∀ {σ : L2.St} {ε : Env} {F : List Addr}, RelE b bs H σ ε F → RelE b bs H (σ ++ τ) (ε ++ δ) (F ++ G)
  | _, _, _, .nil => k
  | _, _, _, .no h => .no (RelE.app k h)
  | _, _, _, .box e h => .box e (RelE.app k h)
  | _, _, _, .is r h => by rw [List.append_assoc]; exact .is r (RelE.app k h)
  | _, _, _, .dic e h => by rw [List.append_assoc]; exact .dic e (RelE.app k h)
  | _, _, _, .dcF e h => .dcF e (RelE.app k h)
  | _, _, _, .pin h => .pin (RelE.app k h)
theorem RelE.unapp : ∀ {σ : L2.St} {ε : Env} {F : List Addr}, σ.length = ε.length → RelE b bs H (σ ++ τ) (ε ++ δ) F → ∃ F1 F2, F = F1 ++ F2 ∧ RelE b bs H σ ε F1 ∧ RelE b bs H τ δ F2
  | [], [], F, _, h => ⟨[], F, rfl, .nil, h⟩
  | [], _ :: _, _, e, _ => by cases e
  | _ :: _, [], _, e, _ => by cases e
  | x :: σ, l :: ε, F, e, h0 => by
    have e' : σ.length = ε.length := Nat.succ.inj e
    have h' : RelE b bs H (x :: (σ ++ τ)) (l :: (ε ++ δ)) F := h0
    clear h0
    cases h' with
    | no h => obtain ⟨F1, F2, rfl, p, q⟩ := RelE.unapp e' h; exact ⟨F1, F2, rfl, .no p, q⟩
    | box z h => obtain ⟨F1, F2, rfl, p, q⟩ := RelE.unapp e' h; exact ⟨F1, F2, rfl, .box z p, q⟩
    | is r h => obtain ⟨F1, F2, rfl, p, q⟩ := RelE.unapp e' h; exact ⟨_, F2, (List.append_assoc ..).symm, .is r p, q⟩
    | dic z h => obtain ⟨F1, F2, rfl, p, q⟩ := RelE.unapp e' h; exact ⟨_, F2, (List.append_assoc ..).symm, .dic z p, q⟩
    | dcF z h => obtain ⟨F1, F2, rfl, p, q⟩ := RelE.unapp e' h; exact ⟨F1, F2, rfl, .dcF z p, q⟩
    | pin h => obtain ⟨F1, F2, rfl, p, q⟩ := RelE.unapp e' h; exact ⟨F1, F2, rfl, .pin p, q⟩
/-- fewer slots -/
theorem Rel.sub' {G : List Addr} (r : Rel c bs F σ H ε N) (h : RelE c.b bs H τ δ G) (hG : G.Sublist F) : Rel c bs G τ H δ N := ⟨h, r.nd.sublist hG, fun a ha => r.sub a (hG.subset ha), fun a ha => r.off a (hG.subset ha), fun a ha => r.nb a (hG.subset ha), r.up, r.bb, r.offb, r.live, r.nt, r.box, r.pin, r.vis⟩
theorem Rel.cut (r : Rel c bs F (σ ++ τ) H (ε ++ δ) N) (hl : σ.length = ε.length) : ∃ G, Rel c bs G σ H ε N ∧ G.Sublist F := by
  obtain ⟨F1, F2, rfl, p, q⟩ := RelE.unapp hl r.env
  exact ⟨F1, r.sub' p (List.sublist_append_left ..), List.sublist_append_left ..⟩
/-- one slot more -/
theorem Rel.pend (r : Rel c bs F σ H ε N) (h : Rep bs H v t A) (nd : A.Nodup) (hA : ∀ a ∈ A, a ∈ bs ∧ a ∉ F ∧ c.P a = none ∧ a ∉ c.bs0) : Rel c bs (F ++ A) (σ ++ [some v]) H (ε ++ [.is t]) N := by
  have e : RelE c.b bs H [some v] [.is t] A := by
    have := RelE.is (b := c.b) h RelE.nil
    rw [List.append_nil] at this
    exact this
  refine ⟨RelE.app e r.env, nodup_app r.nd nd fun a ha z => (hA a z).2.1 ha, fun a ha => ?_, fun a ha => ?_, fun a ha => ?_, r.up, r.bb, r.offb, r.live, r.nt, r.box, r.pin, r.vis⟩
  · exact (List.mem_append.mp ha).elim (r.sub a) fun z => (hA a z).1
  · exact (List.mem_append.mp ha).elim (r.off a) fun z => (hA a z).2.2.1
  · exact (List.mem_append.mp ha).elim (r.nb a) fun z => (hA a z).2.2.2
/-- the last slot taken off -/
theorem Rel.unpend (r : Rel c bs F (σ ++ [some v]) H (ε ++ [.is t]) N) (hl : σ.length = ε.length) : ∃ G A, Rel c bs G σ H ε N ∧ Rep bs H v t A ∧ A.Nodup ∧ ∀ a ∈ A, a ∈ bs ∧ a ∉ G ∧ c.P a = none ∧ a ∉ c.bs0 := by
  obtain ⟨F1, F2, rfl, p, q⟩ := RelE.unapp hl r.env
  have q' : RelE c.b bs H (some v :: []) (.is t :: []) F2 := q
  cases q' with
  | is h h2 =>
    rename_i A F3
    cases h2
    rw [List.append_nil] at r
    obtain ⟨n1, n2, n3⟩ := List.nodup_append.mp r.nd
    have m : ∀ a ∈ A, a ∈ F1 ++ A := fun a ha => List.mem_append_right _ ha
    exact ⟨F1, A, r.sub' p (List.sublist_append_left ..), h, n2, fun a ha => ⟨r.sub a (m a ha), fun z => n3 a z a ha rfl, r.off a (m a ha), r.nb a (m a ha)⟩⟩
/-! ### expressions that change what slots own: told, and the slots behind -/
abbrev WX := Env → Nat → (T → Env → Nat → Prop) → Prop
abbrev WXs := Env → Nat → (List T → Env → Nat → Prop) → Prop
/-! statements of them -/
end
end Cg

set_option Elab.async false
set_option linter.all false
set_option maxRecDepth 100000
set_option maxHeartbeats 1000000
namespace Cg
open PySem PySem.Spec PyProof.Rows L2 Evl
def T.root : T → Option Addr
  | .ins a _ _ _ => some a
  | .rc a _ _ => some a
  | .dct a _ _ => some a
  | .tpa a _ => some a
  | .shr a _ => some a
  | .lsa a _ => some a
  | _ => none
/-! ### defs whose parameters are changed: their promise -/
abbrev WFX := List T → Nat → (T → List T → Nat → Prop) → Prop
def dropB : Bool → Env → (Env → Prop) → Prop
  | false, ε, k => k ε
  | true, _ :: ε, k => k ε
  | true, [], _ => False
section
variable {c : Base} {b bs cs F A B : List Addr} {σ τ : L2.St} {H H1 H2 H' : Hp} {ε δ : Env} {N N1 N2 N' : Nat} {u v : V} {t s : T} {d : PyData} {ts : TS} {ws : WS}
theorem Rep.root {a : Addr} (h : Rep bs H v t A) (e : t.root = some a) : v = .ref a := by
  cases h with
  | ins _ _ _ _ => cases e; rfl
  | rc _ _ _ => cases e; rfl
  | dct _ _ _ _ => cases e; rfl
  | tpa _ _ => cases e; rfl
  | shr _ => cases e; rfl
  | lsa _ _ => cases e; rfl
  | _ => cases e
/-! ### a call with one thing that is changed -/
end
end Cg

set_option Elab.async false
set_option linter.all false
set_option maxRecDepth 100000
set_option maxHeartbeats 1000000
namespace Cg
open PySem PySem.Spec PyProof.Rows L2 Evl
/-! ### fields by their places -/
/-! ### records as data -/
section
variable {K : PySem.W.Frag} {te tp ta : TE} {we : WE} {C : Addr} {ns : List Str} {f : Str} {k : Nat}
/-! ### places -/
abbrev WP := Env → Nat → (List Nat → Nat → Prop) → Prop
end
end Cg

set_option Elab.async false
set_option linter.all false
set_option maxRecDepth 100000
set_option maxHeartbeats 1000000
namespace L2
open PySem PySem.Spec PyProof.Rows
section
variable {X : Cx} {CX : CXT} {k n : Nat} {f C : Addr} {fd : FuncData} {ps ks : List Str} {sp : Sp} {E : XK} {m : Str} {pos apos : Pos} {e o : Expr} {es : List Expr} {kws : List Keyword} {ta : TE} {t tk : TA} {g : List Value → List Value → List Value} {gV : List V → List V → List V}
end
end L2
namespace Cg
open PySem PySem.Spec PyProof.Rows L2 Evl
section
variable {K : PySem.W.Frag} {te tp ta : TE} {we : WE} {wt : WT} {C : Addr} {ns : List Str} {f m : Str} {k i : Nat} {tas tks : TA} {was wks : WA} {wp : WP}
/-! ### f(.., x, ..), x changed -/
abbrev WAP := Env → Nat → (List PyData → List Nat → List PyData → Nat → Prop) → Prop
end
end Cg

set_option Elab.async false
set_option linter.all false
set_option maxRecDepth 100000
set_option maxHeartbeats 1000000
namespace Cg
open PySem PySem.Spec PyProof.Rows L2 Evl
section
variable {K : PySem.W.Frag} {te tp ta tk : TE} {we wk : WE} {wt : WT} {C : Addr} {ns : List Str} {f m : Str} {k i : Nat} {tas tks : TA} {was wks : WA} {wp : WP}
/-! ### C(..): a new instance -/
/-! ### what stands at a place, changed -/
end
end Cg

set_option Elab.async false
set_option linter.all false
set_option maxRecDepth 100000
set_option maxHeartbeats 1000000
namespace Cg
open PySem PySem.Spec PyProof.Rows L2 Evl
section
variable {te tp : TE} {we wk : WE} {wt : WT} {C : Addr} {ns : List Str} {f m : Str} {k i : Nat} {tas tks : TA} {was wks : WA} {wp : WP} {wx : WX} {ws : WXs}
/-! ### {"k": e, ..} -/
end
/-! ### equations -/
section
variable {we wk : WE} {wt : WT} {C : Addr} {ns ns' : List Str} {k i j n kn nn : Nat} {was wks : WA} {wp : WP} {wx : WX} {ws : WXs} {wts : WTs} {wa : WAP} {ε : Env} {N : Nat} {D : EW} {fx : WFX} {fw : WF} {g : List PyData → List PyData → List PyData} {dds : List PyData}
end
end Cg
namespace Cg
open PySem PySem.Spec PyProof.Rows L2 Evl
/-- a method's def as it stands behind the top, and its promise -/
structure Dm (P : Program) (w : World) (K : PySem.W.Frag) (mg : Str → Option Value) (base : Heap) (k : Nat) (x q : Str) (st : Stmt) (ps : List Str) (f : Addr) (fd : FuncData) (sp : Sp) : Prop where
  F : Fun K x q st f fd
  G : FnOk P w K mg base CX0 k f fd ps sp
end Cg

set_option Elab.async false
set_option linter.all false
namespace Cg
open PySem PySem.Spec PyProof.Rows L2 Evl
/-! ### sorted(set(xs)) of a list of ints -/
section
variable {P : Program} {w : World} {A : Around} {E : Value → Shared → Prop} {s : Shared}
set_option maxRecDepth 100000 in
set_option maxHeartbeats 3200000 in
end
section
variable {X : Cx} {ta te : TE} {we : WE}
end
end Cg

set_option Elab.async false
set_option linter.all false
set_option maxRecDepth 100000
set_option maxHeartbeats 1000000
namespace Cg
open PySem PySem.Spec PyProof.Rows L2 Evl
/-! ### who is next, what is granted, what is accepted, how pointers pass -/
def hitB (ms : List Int) (p s : Nat) : Bool := ms.getD ((p + s) % ms.length) 0 == 1
def nxO (ms : List Int) (p : Nat) : Option Nat := ((List.range ms.length).find? (hitB ms p)).map fun s => (p + s) % ms.length
theorem nx_some {ms : List Int} {p i : Nat} (h : nxO ms p = some i) : i < ms.length ∧ ms.getD i 0 = 1 := by
  unfold nxO at h
  cases e : (List.range ms.length).find? (hitB ms p) with
  | none => rw [e] at h; cases h
  | some s =>
    rw [e] at h
    have h' : (p + s) % ms.length = i := Option.some.inj h
    have hs := List.find?_some e
    have hm := List.mem_range.mp (List.mem_of_find?_eq_some e)
    unfold hitB at hs
    rw [h'] at hs
    exact ⟨h' ▸ Nat.mod_lt _ (by omega), eq_of_beq hs⟩
def psN (parts : List Int) (q : Pr) (i : Nat) : Pr :=
  if (((if q.1 = i then q.2 + 1 else 1 : Nat) : Int) < parts.getD i 0) then (i, if q.1 = i then q.2 + 1 else 1) else ((i + 1) % parts.length, 0)
/-- what outlets grant: (outlet, inlet) -/
def grF (L : Mat) (qs : List Pr) (j : Nat) : Option Pr := (nxO (L.map fun r => r.getD j 0) (qs.getD j (0, 0)).1).map fun i => (j, i)
def grN (m : Nat) (L : Mat) (qs : List Pr) : List Pr := (List.range m).filterMap (grF L qs)
/-- what inlets accept: (inlet, outlet) -/
def acF (m : Nat) (G : List Pr) (pl : List Nat) (i : Nat) : Option Pr := (nxO ((List.range m).map fun j => if (j, i) ∈ G then (1 : Int) else 0) (pl.getD i 0)).map fun j => (i, j)
def acN (n m : Nat) (G : List Pr) (pl : List Nat) : List Pr := (List.range n).filterMap (acF m G pl)
/-- pointers and places behind -/
def mvF (m : Nat) (parts : Mat) (s : List Pr × List Nat) (p : Pr) : List Pr × List Nat := (s.1.set p.2 (psN (parts.getD p.2 []) (s.1.getD p.2 (0, 0)) p.1), s.2.set p.1 ((p.2 + 1) % m))
def mvN (m : Nat) (parts : Mat) (A : List Pr) (s : List Pr × List Nat) : List Pr × List Nat := A.foldl (mvF m parts) s
/-- what stands in a Grants of n inlets and m outlets -/
structure Gst (n m : Nat) (parts : Mat) (qs : List Pr) (pl : List Nat) : Prop where
  n1 : 1 ≤ n
  n2 : n ≤ 12
  m1 : 1 ≤ m
  m2 : m ≤ 12
  pa : parts.length = m ∧ ∀ r ∈ parts, r.length = n ∧ ∀ x ∈ r, 1 ≤ x ∧ x ≤ 9
  qs : qs.length = m ∧ ∀ q ∈ qs, q.1 < n
  pl : pl.length = n ∧ ∀ x ∈ pl, x < m
theorem Gst.part {n m j : Nat} {parts : Mat} {qs : List Pr} {pl : List Nat} (g : Gst n m parts qs pl) (h : j < m) : (parts.getD j []).length = n ∧ ∀ x ∈ parts.getD j [], 1 ≤ x ∧ x ≤ 9 := by
  have hl := g.pa.1 ▸ h
  rw [List.getD_eq_getElem?_getD, List.getElem?_eq_getElem hl]
  exact g.pa.2 _ (List.getElem_mem hl)
theorem psN_lt {ps : List Int} {q : Pr} {i : Nat} (h : i < ps.length) : (psN ps q i).1 < ps.length := by
  unfold psN
  by_cases hc : (((if q.1 = i then q.2 + 1 else 1 : Nat) : Int) < ps.getD i 0)
  · rw [if_pos hc]; exact h
  · rw [if_neg hc]; exact Nat.mod_lt _ (by omega)
theorem Gst.mv1 {n m : Nat} {parts : Mat} {s : List Pr × List Nat} {p : Pr} (g : Gst n m parts s.1 s.2) (hi : p.1 < n) (hj : p.2 < m) : Gst n m parts (mvF m parts s p).1 (mvF m parts s p).2 := by
  refine ⟨g.n1, g.n2, g.m1, g.m2, g.pa, ⟨by unfold mvF; rw [List.length_set]; exact g.qs.1, fun q hq => ?_⟩, ⟨by unfold mvF; rw [List.length_set]; exact g.pl.1, fun x hx => ?_⟩⟩
  · rcases List.mem_or_eq_of_mem_set hq with z | z
    · exact g.qs.2 q z
    · rw [z]
      have := psN_lt (ps := parts.getD p.2 []) (q := s.1.getD p.2 (0, 0)) (i := p.1) (by rw [(g.part hj).1]; exact hi)
      rw [(g.part hj).1] at this
      exact this
  · rcases List.mem_or_eq_of_mem_set hx with z | z
    · exact g.pl.2 x z
    · rw [z]; exact Nat.mod_lt _ (by have := g.m1; omega)
theorem Gst.mv {n m : Nat} {parts : Mat} : ∀ {A : List Pr} {s : List Pr × List Nat}, Gst n m parts s.1 s.2 → (∀ p ∈ A, p.1 < n ∧ p.2 < m) → Gst n m parts (mvN m parts A s).1 (mvN m parts A s).2
  | [], _, g, _ => g
  | p :: A, s, g, h => Gst.mv (A := A) (g.mv1 (h p (List.mem_cons_self ..)).1 (h p (List.mem_cons_self ..)).2) fun q hq => h q (List.mem_cons_of_mem _ hq)
theorem gr_mem {n m : Nat} {L : Mat} {qs : List Pr} {p : Pr} (hL : L.length = n) (h : p ∈ grN m L qs) : p.1 < m ∧ p.2 < n ∧ cell L p.2 p.1 = 1 := by
  obtain ⟨j, hj, e⟩ := List.mem_filterMap.mp h
  unfold grF at e
  cases z : nxO (L.map fun r => r.getD j 0) (qs.getD j (0, 0)).1 with
  | none => rw [z] at e; cases e
  | some i =>
    rw [z] at e
    have e' : (j, i) = p := Option.some.inj e
    subst e'
    obtain ⟨h1, h2⟩ := nx_some z
    rw [List.length_map] at h1
    refine ⟨List.mem_range.mp hj, hL ▸ h1, ?_⟩
    rw [List.getD_eq_getElem?_getD, List.getElem?_map, List.getElem?_eq_getElem h1] at h2
    unfold cell
    rw [List.getD_eq_getElem?_getD (l := L), List.getElem?_eq_getElem h1]
    exact h2
theorem ac_mem {n m : Nat} {G : List Pr} {pl : List Nat} {p : Pr} (h : p ∈ acN n m G pl) : p.1 < n ∧ p.2 < m ∧ (p.2, p.1) ∈ G := by
  obtain ⟨i, hi, e⟩ := List.mem_filterMap.mp h
  unfold acF at e
  cases z : nxO ((List.range m).map fun j => if (j, i) ∈ G then (1 : Int) else 0) (pl.getD i 0) with
  | none => rw [z] at e; cases e
  | some j =>
    rw [z] at e
    have e' : (i, j) = p := Option.some.inj e
    subst e'
    obtain ⟨h1, h2⟩ := nx_some z
    rw [List.length_map, List.length_range] at h1
    refine ⟨List.mem_range.mp hi, h1, ?_⟩
    rw [List.getD_eq_getElem?_getD, List.getElem?_map, List.getElem?_range h1] at h2
    have h3 : (if (j, i) ∈ G then (1 : Int) else 0) = 1 := h2
    by_cases hg : (j, i) ∈ G
    · exact hg
    · rw [if_neg hg] at h3; omega
end Cg
namespace Cg
open PySem PySem.Spec PyProof.Rows L2 Evl
/-! ### rounds of a beat -/
abbrev Rd2 := List Pr × List Pr
def nextL (A : List Pr) (L : Mat) : Mat := leftN (A.map (·.1)) (A.map (·.2)) L
/-- so many rounds at most, pointers and places as they are -/
def rdsP (n m : Nat) (qs : List Pr) (pl : List Nat) : Nat → Mat → List Rd2
  | 0, _ => []
  | r + 1, L => if grN m L qs = [] then [] else (grN m L qs, acN n m (grN m L qs) pl) :: rdsP n m qs pl r (nextL (acN n m (grN m L qs) pl) L)
/-- a beat: the first round moves them -/
def behP (n m : Nat) (parts : Mat) (r : Nat) (L : Mat) (qs : List Pr) (pl : List Nat) : List Pr × List Nat :=
  if r = 0 ∨ grN m L qs = [] then (qs, pl) else mvN m parts (acN n m (grN m L qs) pl) (qs, pl)
theorem nextL_size {n m : Nat} {A : List Pr} {L : Mat} (h : L.length = n ∧ ∀ x ∈ L, x.length = m) : (nextL A L).length = n ∧ ∀ x ∈ nextL A L, x.length = m := by
  refine ⟨(left_len ..).trans h.1, fun x hx => ?_⟩
  obtain ⟨r, hr, e⟩ := left_row hx
  rw [e]
  exact h.2 r hr
end Cg

set_option Elab.async false
set_option linter.all false
set_option maxRecDepth 100000
set_option maxHeartbeats 1000000
namespace Cg
open PySem PySem.Spec PyProof.Rows L2 Evl
/-- a table by its rule -/
def tabF (n m : Nat) (f : Nat → Nat → Int) : Mat := (List.range n).map fun i => (List.range m).map fun j => f i j
end Cg

set_option Elab.async false
set_option linter.all false
set_option maxRecDepth 100000
set_option maxHeartbeats 1000000
namespace Cg
open PySem PySem.Spec PyProof.Rows L2 Evl
/-! ### sum(rows, []) -/
section
variable {prog : Program} {w : World} {A : Around} {R : Result → Shared → Prop} {E : Value → Shared → Prop} {I : Addr} {fp wr : List Addr} {n : Nat} {P : Nat → Value → Prop} {St : Nat → Heap → Prop}
end
section
variable {X : Cx}
end
end Cg

set_option Elab.async false
set_option linter.all false
set_option maxRecDepth 100000
set_option maxHeartbeats 1000000
namespace Cg
open PySem PySem.Spec PyProof.Rows L2 Evl
section
variable {n m : Nat} {parts : Mat} {qs : List Pr} {pl : List Nat} {L : Mat}
end
end Cg

set_option Elab.async false
set_option linter.all false
set_option maxRecDepth 100000
set_option maxHeartbeats 1000000
namespace Cg
open PySem PySem.Spec PyProof.Rows L2 Evl
/-! ### expressions that change slots, put together -/
section
variable {c : Base} {b bs cs F A B : List Addr} {σ τ : L2.St} {H H1 H2 H' : Hp} {ε δ : Env} {N N1 N2 N' : Nat} {u v : V} {t s : T} {d : PyData}
/-- a slot in the midst, taken out -/
theorem Rel.mid {x : Option V} {l : Sl} (r : Rel c bs F ((σ ++ [x]) ++ τ) H ((ε ++ [l]) ++ δ) N) (hs : σ.length = ε.length) : ∃ G, Rel c bs G (σ ++ τ) H (ε ++ δ) N := by
  obtain ⟨F1, F2, rfl, p, q⟩ := RelE.unapp (by rw [List.length_append, List.length_append, hs]; rfl) r.env
  obtain ⟨F3, F4, rfl, p1, _⟩ := RelE.unapp hs p
  refine ⟨F3 ++ F2, r.sub' (RelE.app q p1) ?_⟩
  rw [List.append_assoc]
  exact List.Sublist.append (List.Sublist.refl _) (List.sublist_append_right ..)
end
section
variable {K : PySem.W.Frag} {ta tb te tp : TE} {wa wb wx : WX} {we : WE} {wt : WT} {C : Addr} {ns : List Str} {f m : Str} {k i : Nat} {tas tks : TA} {was wks : WA} {wp : WP} {ws : WXs} {t u : TT} {w w' : WB}
/-! methods of what is told just now -/
/-! ### tests -/
abbrev WXB := Env → Nat → (Bool → Env → Nat → Prop) → Prop
/-! ### statements -/
end
/-! ### equations -/
section
variable {wa wb wx : WX} {we : WE} {wt : WT} {C : Addr} {ns : List Str} {k i n kn nn : Nat} {was wks : WA} {ws : WXs} {w : WB} {wxb wyb : WXB} {ε : Env} {N : Nat} {D : EW} {fx : WFX} {fw : WF} {g : List PyData → List PyData → List PyData} {dds : List PyData} {wg : WG} {wu wv : WS}
end
end Cg

set_option Elab.async false
set_option linter.all false
set_option maxRecDepth 100000
set_option maxHeartbeats 1000000
namespace Cg
open PySem PySem.Spec PyProof.Rows L2 Evl
/-! ### a law that walks over boxes, and ends somehow: what stands behind the box, by value -/
end Cg

set_option Elab.async false
set_option linter.all false
set_option maxRecDepth 100000
set_option maxHeartbeats 1000000
namespace Cg
open PySem PySem.Spec PyProof.Rows L2 Evl
/-! ### accepts of rounds -/
def accP (rs : List Rd2) : List Pr := rs.flatMap (·.2)
theorem accP_cons {x : Rd2} {rs : List Rd2} : accP (x :: rs) = x.2 ++ accP rs := rfl
theorem cell_left {I O : List Nat} {M : Mat} {i j : Nat} : cell (leftN I O M) i j = 1 ↔ cell M i j = 1 ∧ cutB I O i j = false := by
  have := mem_asks (M := leftN I O M) (p := (i, j))
  rw [← this, asks_left_eq, List.mem_filter, mem_asks]
  simp
theorem cut_f {I O : List Nat} {i j : Nat} : cutB I O i j = false ↔ i ∉ I ∧ j ∉ O := by
  unfold cutB
  simp
section
variable {n m : Nat} {parts : Mat} {q q' qs : List Pr} {p p' pl : List Nat} {L : Mat} {G A : List Pr}
abbrev SzM (n m : Nat) (L : Mat) : Prop := L.length = n ∧ ∀ x ∈ L, x.length = m
theorem cell_bd (h : SzM n m L) {i j : Nat} (hc : cell L i j = 1) : i < n ∧ j < m := by
  obtain ⟨h1, h2⟩ := cell_lt hc
  refine ⟨h.1 ▸ h1, ?_⟩
  rw [List.getD_eq_getElem?_getD, List.getElem?_eq_getElem h1, Option.getD_some, h.2 _ (List.getElem_mem h1)] at h2
  exact h2
theorem gr_fun {j i i' : Nat} (h : (j, i) ∈ grN m L q) (h' : (j, i') ∈ grN m L q) : i = i' := by
  obtain ⟨a, _, e⟩ := List.mem_filterMap.mp h
  obtain ⟨b, _, e'⟩ := List.mem_filterMap.mp h'
  have fst : ∀ {a : Nat} {x : Pr}, grF L q a = some x → x.1 = a := fun {a x} e => by
    unfold grF at e
    cases z : nxO (L.map fun r => r.getD a 0) (q.getD a (0, 0)).1 with
    | none => rw [z] at e; cases e
    | some i => rw [z] at e; cases e; rfl
  have e1 := fst e
  have e2 := fst e'
  have e3 : a = b := e1.symm.trans e2
  subst e3
  rw [e] at e'
  injection e' with e'
  injection e' with _ e'
theorem ac_rising : (acN n m G p).Pairwise fun x y => x.1 < y.1 := by
  unfold acN
  rw [List.pairwise_filterMap]
  refine List.pairwise_lt_range.imp fun {a b} hab x hx y hy => ?_
  have fst : ∀ {a : Nat} {x : Pr}, acF m G p a = some x → x.1 = a := fun {a x} e => by
    unfold acF at e
    cases z : nxO ((List.range m).map fun j => if (j, a) ∈ G then (1 : Int) else 0) (p.getD a 0) with
    | none => rw [z] at e; cases e
    | some i => rw [z] at e; cases e; rfl
  rw [fst hx, fst hy]
  exact hab
theorem ac_apart : Apart (acN n m (grN m L q) p) := by
  have h := ac_rising (n := n) (m := m) (G := grN m L q) (p := p)
  refine List.Pairwise.imp_of_mem (fun {a b} ha hb hab => ⟨Nat.ne_of_lt hab, fun e => ?_⟩) h
  have h1 := (ac_mem ha).2.2
  have h2 := (ac_mem hb).2.2
  rw [e] at h1
  have := gr_fun h1 h2
  omega
theorem ac_cell (hL : L.length = n) {x : Pr} (hx : x ∈ acN n m (grN m L q) p) : x.1 < n ∧ x.2 < m ∧ cell L x.1 x.2 = 1 := by
  obtain ⟨h1, h2, h3⟩ := ac_mem hx
  exact ⟨h1, h2, (gr_mem hL h3).2.2⟩
/-! pointers of those that stand in no pair stay -/
theorem next_cell {i j : Nat} : cell (nextL A L) i j = 1 ↔ cell L i j = 1 ∧ i ∉ Ks A ∧ j ∉ Vs A := by
  unfold nextL
  rw [cell_left, cut_f]
  rfl
/-! what is accepted -/
theorem acc_cell : ∀ {r : Nat} {L : Mat}, SzM n m L → ∀ x ∈ accP (rdsP n m q p r L), x.1 < n ∧ x.2 < m ∧ cell L x.1 x.2 = 1
  | 0, _, _ => fun _ z => nomatch z
  | r + 1, L, hL => fun x hx => by
    have hx' : x ∈ accP (if grN m L q = [] then [] else (grN m L q, acN n m (grN m L q) p) :: rdsP n m q p r (nextL (acN n m (grN m L q) p) L)) := hx
    by_cases hG : grN m L q = []
    · rw [if_pos hG] at hx'; cases hx'
    · rw [if_neg hG, accP_cons] at hx'
      rcases List.mem_append.mp hx' with h | h
      · exact ac_cell hL.1 h
      · obtain ⟨h1, h2, h3⟩ := acc_cell (nextL_size hL) x h
        exact ⟨h1, h2, (next_cell.mp h3).1⟩
theorem acc_apart : ∀ {r : Nat} {L : Mat}, SzM n m L → Apart (accP (rdsP n m q p r L))
  | 0, _, _ => List.Pairwise.nil
  | r + 1, L, hL => by
    show Apart (accP (if grN m L q = [] then [] else (grN m L q, acN n m (grN m L q) p) :: rdsP n m q p r (nextL (acN n m (grN m L q) p) L)))
    by_cases hG : grN m L q = []
    · rw [if_pos hG]; exact List.Pairwise.nil
    · rw [if_neg hG, accP_cons]
      refine List.pairwise_append.mpr ⟨ac_apart, acc_apart (nextL_size hL), fun a ha b hb => ?_⟩
      obtain ⟨_, _, h3⟩ := acc_cell (nextL_size hL) b hb
      obtain ⟨_, h4, h5⟩ := next_cell.mp h3
      exact ⟨fun e => h4 (mem_ks.mpr ⟨a.2, by rw [← e]; exact ha⟩), fun e => h5 (mem_vs.mpr ⟨a.1, by rw [← e]; exact ha⟩)⟩
theorem beh_gst {r : Nat} (g : Gst n m parts q p) : Gst n m parts (behP n m parts r L q p).1 (behP n m parts r L q p).2 := by
  unfold behP
  split
  · exact g
  · exact Gst.mv (s := (q, p)) g fun x hx => ⟨(ac_mem hx).1, (ac_mem hx).2.1⟩
theorem prs_rds {r : Nat} (hL : SzM n m L) : Prs L (sortF (accP (rdsP n m q p r L))) := by
  have h := apart_iff.mp (acc_apart (q := q) (p := p) (r := r) hL)
  exact sort_prs h.1 h.2 fun x hx => (acc_cell hL x hx).2.2
end
end Cg

set_option Elab.async false
set_option linter.all false
set_option maxRecDepth 100000
set_option maxHeartbeats 1000000
namespace Cg
open PySem PySem.Spec PyProof.Rows L2 Evl
/-! ### a round more; full pairs and the most; asks that go -/
section
variable {n m : Nat} {parts : Mat} {q qs : List Pr} {p pl : List Nat} {L M : Mat}
/-! one ask less -/
def zero1 (M : Mat) (x : Pr) : Mat := M.set x.1 ((M.getD x.1 []).set x.2 0)
theorem zero_cell {x : Pr} {i j : Nat} : cell (zero1 M x) i j = 1 ↔ cell M i j = 1 ∧ (i, j) ≠ x := by
  unfold zero1 cell
  simp only [List.getD_eq_getElem?_getD]
  by_cases hi : x.1 = i
  · subst hi
    by_cases hx : x.1 < M.length
    · rw [List.getElem?_set_self hx, List.getElem?_eq_getElem hx]
      simp only [Option.getD_some]
      by_cases hj : x.2 = j
      · subst hj
        by_cases hy : x.2 < (M[x.1]).length
        · rw [List.getElem?_set_self hy]
          simp
        · rw [List.getElem?_eq_none (by rw [List.length_set]; omega), List.getElem?_eq_none (by omega)]
          simp
      · rw [List.getElem?_set_ne hj]
        exact ⟨fun h => ⟨h, fun z => hj (by rw [← z])⟩, fun h => h.1⟩
    · rw [List.set_eq_of_length_le (by omega)]
      have : M[x.1]? = none := List.getElem?_eq_none (by omega)
      rw [this]
      simp
  · rw [List.getElem?_set_ne hi]
    exact ⟨fun h => ⟨h, fun z => hi (by rw [← z])⟩, fun h => h.1⟩
theorem asks_nodup (M : Mat) : (asksN M).Nodup := (asks_lex M).imp fun {a b} h e => by
  subst e
  unfold lexN at h
  omega
theorem zero_le {x : Pr} : (asksN (zero1 M x)).length ≤ (asksN M).length := sub_len (asks_nodup _) fun y hy => mem_asks.mpr (zero_cell.mp (mem_asks.mp hy)).1
end
end Cg

set_option Elab.async false
set_option linter.all false
set_option maxRecDepth 100000
set_option maxHeartbeats 1000000
namespace Cg
open PySem PySem.Spec PyProof.Rows L2 Evl
end Cg

set_option Elab.async false
set_option linter.all false
set_option maxRecDepth 100000
set_option maxHeartbeats 1000000
namespace Cg
open PySem PySem.Spec PyProof.Rows L2 Evl
/-! ### what is ahead of an ask -/
/-! ### a pointer whose place is always granted its own: it goes round by shares -/
section
variable {ps : List Int}
end
section
variable {n m : Nat}
end
end Cg

set_option Elab.async false
set_option linter.all false
set_option maxRecDepth 100000
set_option maxHeartbeats 1000000
namespace Cg
open PySem PySem.Spec PyProof.Rows L2 Evl
/-! ### tuples made by tuple(..): it is known that they have no dict, so their methods may be called -/
section
variable {X : Cx} {ta : TE}
variable {o e : Expr} {es : List Expr} {to : TE} {t : TA} {name : Str} {apos cpos : Pos} {id : String} {r : V → List V → Hp → VK → Prop}
end
/-! by value -/
section
variable {ta : TE} {we : WE} {tas : TA} {was : WA}
end
/-! ### range(a, b, -1) -/
section
variable {hs : List Addr} {H : Hp} {ta tb tc : TE} {wa wb wc : WE} {ε : Env} {N : Nat}
end
end Cg

set_option Elab.async false
set_option linter.all false
set_option maxRecDepth 100000
set_option maxHeartbeats 1000000
namespace Cg
open PySem PySem.Spec PyProof.Rows L2 Evl
/-! ### len(set(xs)), xs tuples of ints, no two alike -/
section
variable {X : Cx} {ta : TE} {we : WE}
end
end Cg

set_option Elab.async false
set_option linter.all false
set_option maxRecDepth 100000
set_option maxHeartbeats 1000000
namespace Cg
open PySem PySem.Spec PyProof.Rows L2 Evl
/-! ### str of a list or a tuple of data, where no repr is under way -/
end Cg

set_option Elab.async false
set_option linter.all false
set_option maxRecDepth 100000
set_option maxHeartbeats 1000000
namespace Cg
open PySem PySem.Spec PyProof.Rows L2 Evl
/-! ### lists at places, changed by their methods; other names of what stands at a place -/
section
variable {c : Base} {b bs cs F A B : List Addr} {σ τ : L2.St} {H H1 H2 H' : Hp} {ε δ : Env} {N N1 N2 N' : Nat} {u v : V} {t s : T} {d : PyData} {i : Nat} {π : List Nat} {ts : List T}
end
section
variable {K : PySem.W.Frag} {te tp ta tk : TE} {we wk : WE} {wt : WT} {i j : Nat} {wp : WP}
end
end Cg

set_option Elab.async false
set_option linter.all false
set_option maxRecDepth 100000
set_option maxHeartbeats 1000000
namespace Cg
open PySem PySem.Spec PyProof.Rows L2 Evl
/-! ### own things lent to a call: all slots but one are data meanwhile -/
section
variable {c : Base} {b bs cs F A B : List Addr} {σ τ : L2.St} {H H1 H2 H' : Hp} {ε δ : Env} {N N1 N2 N' : Nat} {u v : V} {t s : T} {d : PyData} {i : Nat}
end
section
variable {te : TE} {wx : WX} {i : Nat}
end
end Cg

set_option Elab.async false
set_option linter.all false
set_option maxRecDepth 100000
set_option maxHeartbeats 1000000
namespace Cg
open PySem PySem.Spec PyProof.Rows L2 Evl
/-! ### other names of what stands at a place -/
section
variable {c : Base} {b bs cs F A B : List Addr} {σ τ : L2.St} {H H1 H2 H' : Hp} {ε δ : Env} {N N1 N2 N' : Nat} {u v : V} {t s : T} {d : PyData} {i j : Nat} {π : List Nat}
/-- what stands along the path -/
theorem Rel.along (r : Rel c bs F σ H ε N) (e : ε[i]? = some (.is t)) (h : atP π t = some s) : ∃ v u B, σ[i]? = some (some v) ∧ VAt H v π u ∧ Rep bs H u s B ∧ ∀ a ∈ B, a ∈ F := by
  obtain ⟨x, A, F1, F2, h1, h2, h3, _⟩ := r.env.at e
  cases h2 with
  | is hr =>
    obtain ⟨u, A1, B, A2, q1, q2, q3, _⟩ := hr.zoom h
    refine ⟨_, u, B, h1, q2, q3, fun a ha => ?_⟩
    rw [h3, q1]
    exact List.mem_append_right _ (List.mem_append_left _ (List.mem_append_right _ (List.mem_append_left _ ha)))
def T.nm : T → Addr → T
  | .lst ts, a => .lsa a ts
  | .tup ts, a => .tpa a ts
  | t, _ => t
theorem Rep.named (h : Rep bs H v s B) : ∃ a, (∀ {B : List Addr}, Rep bs H v s B → Rep bs H v (s.nm a) B) ∧ ∀ p, (s.nm a).root = some p → v = .ref p := by
  cases h with
  | lst e h => exact ⟨_, fun h => (by cases h with | lst e h => exact .lsa e h), fun p e => by cases e; rfl⟩
  | lsa e h => exact ⟨0, fun h => h, fun p e => by cases e; rfl⟩
  | ins e e2 l h => exact ⟨0, fun h => h, fun p e => by cases e; rfl⟩
  | rc e l h => exact ⟨0, fun h => h, fun p e => by cases e; rfl⟩
  | dct e l nd h => exact ⟨0, fun h => h, fun p e => by cases e; rfl⟩
  | sh h => exact ⟨0, fun h => h, fun p e => by cases e⟩
  | shr h => exact ⟨0, fun h => h, fun p e => by cases e; rfl⟩
  | tup e h => exact ⟨_, fun h => (by cases h with | tup e h => exact .tpa e h), fun p e => by cases e; rfl⟩
  | tpa e h => exact ⟨0, fun h => h, fun p e => by cases e; rfl⟩
  | dic e => exact ⟨0, fun h => h, fun p e => by cases e⟩
end
section
variable {te tp ta : TE} {we : WE} {wt : WT} {wb : WB} {i j : Nat} {wp : WP} {wx : WX} {K : PySem.W.Frag}
/-! what is read by other names: the view, these names too -/
end
end Cg

set_option Elab.async false
set_option linter.all false
set_option maxRecDepth 100000
set_option maxHeartbeats 1000000
namespace Cg
open PySem PySem.Spec PyProof.Rows L2 Evl
/-! ### own lists put away into another one, their names stay -/
section
variable {c : Base} {b bs cs F A B : List Addr} {σ τ : L2.St} {H H1 H2 H' : Hp} {ε δ : Env} {N N1 N2 N' : Nat} {u v : V} {t s : T} {d : PyData} {i j k : Nat} {π : List Nat}
/-- what a slot owns, taken out -/
theorem Rel.take (r : Rel c bs F σ H ε N) (e : ε[j]? = some (.is t)) : ∃ v F', σ[j]? = some (some v) ∧ Rel c bs F' (σ ++ [some v]) H (ε.set j .no ++ [.is t]) N := by
  obtain ⟨y, A, F1, F2, hx, hr, rfl, q4⟩ := r.env.at e
  cases hr with
  | is hr =>
    rename_i v
    have hA : ∀ a ∈ A, a ∈ F1 ++ (A ++ F2) := fun a ha => List.mem_append_right _ (List.mem_append_left _ ha)
    have env := q4 (cs := bs) (H' := H) (y := some v) (m := .no) (B := []) r.nt (Same.refl _) (fun _ _ _ e => e) .no
    rw [set_same hx] at env
    have sl : (F1 ++ ([] ++ F2)).Sublist (F1 ++ (A ++ F2)) := List.Sublist.append_left (List.Sublist.append_right (List.nil_sublist _) _) _
    obtain ⟨n1, n2, n3⟩ := List.nodup_append.mp r.nd
    obtain ⟨n4, n5, n6⟩ := List.nodup_append.mp n2
    refine ⟨v, _, hx, (r.sub' env sl).pend hr n4 fun a ha => ⟨r.sub a (hA a ha), fun z => ?_, r.off a (hA a ha), r.nb a (hA a ha)⟩⟩
    rcases List.mem_append.mp z with z | z
    · exact n3 a z a (List.mem_append_left _ ha) rfl
    · exact n6 a ha a z rfl
end
section
variable {K : PySem.W.Frag} {i j k : Nat}
end
/-! a list that is walked, its parts changed one by one by an expression: [f(x) for x in xs] -/
section
variable {K : PySem.W.Frag} {i j : Nat} {te : TE} {wx : WX}
end
end Cg

set_option Elab.async false
set_option linter.all false
set_option maxRecDepth 100000
set_option maxHeartbeats 1000000
namespace Cg
open PySem PySem.Spec PyProof.Rows L2 Evl
/-! ### own lists that are walked, their parts changed by other names -/
section
variable {c : Base} {b bs cs F A B : List Addr} {σ τ : L2.St} {H H1 H2 H' : Hp} {ε δ : Env} {N N1 N2 N' : Nat} {u v : V} {t s : T} {d : PyData} {i j k : Nat} {π : List Nat}
/-- what is bound in a turn -/
abbrev WT1 := Nat → Env → (Env → Prop) → Prop
end
section
variable {K : PySem.W.Frag} {i : Nat} {g : TG} {G : WT1} {ts : TS} {wb : WS}
end
section
variable {K : PySem.W.Frag} {tp : TE} {i : Nat} {wp : WP}
end
end Cg

set_option Elab.async false
set_option linter.all false
set_option maxRecDepth 100000
set_option maxHeartbeats 1000000
namespace Cg
open PySem PySem.Spec PyProof.Rows L2 Evl
/-! ### dict([(k, v), ..]), d.get(k, e) -/
section
variable {K : PySem.W.Frag} {te tf : TE} {we wf : WE} {i : Nat} {hs : List Addr} {H : Hp}
end
/-! any(xs), xs ints -/
section
variable {X : Cx}
end
end Cg

set_option Elab.async false
set_option linter.all false
set_option maxRecDepth 100000
set_option maxHeartbeats 1000000
namespace Cg
open PySem PySem.Spec PyProof.Rows L2 Evl
/-! ### own things given away to a call: several may be changed there, the giver has them no more -/
section
variable {c : Base} {b bs cs F G A B : List Addr} {σ τ : L2.St} {H H1 H2 H' : Hp} {ε δ : Env} {N N1 N2 N' : Nat} {u v : V} {t s : T} {d : PyData} {i j k : Nat}
theorem Rel.over (r : Rel c bs G σ H ε N) (hA : ∀ a ∈ A, a ∈ bs ∧ a ∉ G ∧ c.P a = none ∧ a ∉ c.bs0) (kp : Keep (A ++ c.b) H H') (bx : ∀ a ∈ c.b, Box H' a N') (c1 : ∀ a ∈ cs, a ∈ bs ∨ H a = none) (c2 : ∀ a ∈ bs, a ∉ A → a ∈ cs) (lv : Live cs H') (nt : NoTup cs H') : Rel c cs G σ H' ε N' := by
  have keep : ∀ a ∈ G, ∀ o, H a = some o → H' a = some o := fun a ha o e => kp.get (fun z => (List.mem_append.mp z).elim (fun z => (hA a z).2.1 ha) fun z => r.fb a ha z) e
  have vis : Same (hid bs H) (hid cs H') := fun a o e => by
    obtain ⟨h1, h2⟩ := hid_some e
    have h3 : a ∉ cs := fun z => (c1 a z).elim h1 fun z => by rw [h2] at z; cases z
    rw [hid_out h3]
    exact kp.get (fun z => (List.mem_append.mp z).elim (fun z => h1 (hA a z).1) fun z => h1 (r.bin a z)) h2
  refine ⟨RelE.chg r.nt vis keep r.env, r.nd, fun a ha => c2 a (r.sub a ha) fun z => (hA a z).2.1 ha, r.off, r.nb, fun a ha => c2 a (r.up a ha) fun z => (hA a z).2.2.2 ha, r.bb, r.offb, lv, nt, bx, fun a o e => ?_, r.vis.trans vis⟩
  refine kp.get (fun z => ?_) (r.pin a o e)
  rcases List.mem_append.mp z with z | z
  · rw [(hA a z).2.2.1] at e; cases e
  · rw [r.offb a z] at e; cases e
end
end Cg

set_option Elab.async false
set_option linter.all false
set_option maxRecDepth 100000
set_option maxHeartbeats 1000000
namespace Cg
open PySem PySem.Spec PyProof.Rows L2 Evl
/-! ### own things given to a call and given back: several may be changed -/
section
variable {c : Base} {b bs cs F G A B : List Addr} {σ τ : L2.St} {H H1 H2 H' : Hp} {ε δ : Env} {N N1 N2 N' : Nat} {u v : V} {t s : T} {d : PyData} {i j k : Nat}
end
end Cg

set_option Elab.async false
set_option linter.all false
set_option maxRecDepth 100000
set_option maxHeartbeats 1000000
namespace Cg
open PySem PySem.Spec PyProof.Rows L2 Evl
/-! ### p[k], y = e, f: two data, one to a place, one to a name -/
section
variable {ta tb tk te : TE} {wa wb wk : WE} {tp : TE} {wp : WP} {i j : Nat}
end
/-! ### the least of three -/
end Cg
namespace Cg
open PySem PySem.Spec PyProof.Rows L2 Evl
end Cg

set_option Elab.async false
set_option linter.all false
set_option maxRecDepth 100000
set_option maxHeartbeats 1000000
namespace L2
open PySem PySem.Spec PyProof.Rows
section
variable {X : Cx} {CX : CXT} {k : Nat} {f C : Addr} {fd : FuncData} {ps : List Str} {sp : Sp} {E : XK}
end
end L2
namespace L2
open PySem PySem.Spec PyProof.Rows
end L2
namespace Cg
open PySem PySem.Spec PyProof.Rows L2 Evl
end Cg
namespace Cg
open PySem PySem.Spec PyProof.Rows L2 Evl
section
variable {K : PySem.W.Frag} {te tp ta tb : TE} {we wa wb : WE} {wt : WT} {wx : WX} {C : Addr} {ns : List Str} {f m : Str} {k i : Nat} {wp : WP}
end
end Cg

set_option Elab.async false
set_option linter.all false
set_option maxRecDepth 100000
set_option maxHeartbeats 1000000
namespace Cg
open PySem PySem.Spec PyProof.Rows L2 Evl
/-! ### a def that is given some of its arguments: they may be bound anew there, and nothing of them comes back (0 data, 1 changed and given back, 2 given) -/
def kept {α : Type} : List Nat → List α → List α
  | 2 :: md, _ :: us => kept md us
  | _ :: md, u :: us => u :: kept md us
  | _, _ => []
def outG : List Nat → List T → Env → (List T → Prop) → Prop
  | [], [], _, k => k []
  | 0 :: md, .sh d :: ts, _ :: ε, k => outG md ts ε fun os => k (.sh d :: os)
  | 1 :: md, t :: ts, .is t' :: ε, k => t'.root = t.root ∧ t.root ≠ none ∧ outG md ts ε fun os => k (t' :: os)
  | 2 :: md, _ :: ts, _ :: ε, k => outG md ts ε k
  | _, _, _, _ => False
def EW.fnG (bx : Bool) (md : List Nat) (ts : List T) (R : T → List T → Nat → Prop) : EW :=
  ⟨fun ε N => dropB bx ε fun ε' => outG md ts ε' fun os => R (.sh .none) os N, fun _ _ => False, fun _ _ => False, fun _ _ => False, fun t ε N => dropB bx ε fun ε' => outG md ts ε' fun os => R t os N, fun _ _ _ => False, fun _ _ _ _ => False⟩
section
variable {c : Base} {b bs cs F G A B : List Addr} {σ τ : L2.St} {H H1 H2 H' : Hp} {ε δ : Env} {N N1 N2 N' : Nat} {u v : V} {t s : T} {d : PyData} {ts : TS} {ws : WS}
end
section
variable {c : Base} {b bs cs F G A B : List Addr} {σ τ : L2.St} {H H1 H2 H' : Hp} {ε δ : Env} {N N1 N2 N' : Nat} {u v : V} {t s : T} {d : PyData} {i j k : Nat}
end
section
variable {ε : Env} {N : Nat} {k : Nat}
end
section
variable {K : PySem.W.Frag} {i j : Nat}
end
end Cg

set_option Elab.async false
set_option linter.all false
set_option maxRecDepth 100000
set_option maxHeartbeats 1000000
namespace Cg
open PySem PySem.Spec PyProof.Rows L2 Evl
/-! ### pointers under their shares, what moves on (as in k19) -/
section
variable {n m : Nat} {parts : Mat} {qs : List Pr} {pl : List Nat}
end
/-! ### what is left falls: a pointer that moves on by a winner ahead of an ask stands nearer to it -/
def SP (n : Nat) (ps : List Int) (p k : Nat) : Int := ((List.range k).map fun s => ps.getD ((p + s) % n) 0).sum
section
variable {n m : Nat} {parts L : Mat} {q : List Pr} {pl : List Nat}
end
end Cg

set_option Elab.async false
set_option linter.all false
set_option maxRecDepth 100000
set_option maxHeartbeats 1000000
namespace Cg
open PySem PySem.Spec PyProof.Rows L2 Evl
/-! ### t >= u, t > u of tuples of ints -/
/-! ### a triple that falls, as words do, ends -/
def Lex3 (a b c a' b' c' : Int) : Prop := a < a' ∨ (a = a' ∧ (b < b' ∨ (b = b' ∧ c < c')))
theorem Lex3.le {a b c a' b' c' : Int} (h : Lex3 a b c a' b' c') : a ≤ a' := by
  rcases h with h | ⟨rfl, _⟩ <;> omega
/-! ### counts are kept; what is ahead, from 0 to nine for each inlet -/
section
variable {n m r : Nat} {parts L : Mat} {q : List Pr} {pl : List Nat}
end
end Cg

set_option Elab.async false
set_option linter.all false
set_option maxRecDepth 100000
set_option maxHeartbeats 1000000
namespace Cg
open PySem PySem.Spec PyProof.Rows L2 Evl
/-! ### p["f"] = e, f stands already -/
section
variable {i k : Nat} {ns : List Str} {f : Str} {tp te : TE} {wp : WP} {wt : WT}
end
end Cg

set_option Elab.async false
set_option linter.all false
set_option maxRecDepth 100000
set_option maxHeartbeats 1000000
namespace Cg
open PySem PySem.Spec PyProof.Rows L2 Evl
section
variable {c : Base} {b bs cs F A B : List Addr} {σ τ : L2.St} {H H1 H2 H' : Hp} {ε δ : Env} {N N1 N2 N' : Nat} {u v : V} {t s : T} {d : PyData} {i : Nat} {K : PySem.W.Frag} {tp te : TE} {wp : WP} {wt : WT}
end
/-! t + u, t a tuple that isn't empty -/
end Cg

set_option Elab.async false
set_option linter.all false
set_option maxRecDepth 100000
set_option maxHeartbeats 1000000
namespace Cg
open PySem PySem.Spec PyProof.Rows L2 Evl
def markF (M : Mat) : Mat := M.map fun r => r.map fun x => if x > 0 then 1 else 0
/-! ### a whole Switch, by value: what it holds, and what each of its methods makes of that -/
namespace Sw
abbrev Qu := List (List (List Nat))
abbrev Wq := List (List (Nat × List Nat))
abbrev Tr := Nat × Nat × Nat
def cntM (Q : Qu) : Mat := Q.map fun r => r.map fun q => (q.length : Int)
/-- what never changes -/
structure P where
  n : Nat
  m : Nat
  rounds : Nat
  way : Str
  wide : Nat
  gT : T
  parts : Mat
/-- what does -/
structure S where
  qs : List Pr
  pl : List Nat
  tot : Nat
  Q : Qu
  W : Wq
  wf : Nat
  oi : List Nat
  oo : List Nat
  bt : Nat
  cr : List PyData
def SzQ {α : Type} (n m : Nat) (Q : List (List α)) : Prop := Q.length = n ∧ ∀ r ∈ Q, r.length = m
def qAt (Q : Qu) (i j : Nat) : List Nat := (Q.getD i []).getD j []
def put (Q : Qu) (i j : Nat) (q : List Nat) : Qu := Q.set i ((Q.getD i []).set j q)
def pop1 (Q : Qu) (u : Pr) : Qu := put Q u.1 u.2 ((qAt Q u.1 u.2).drop 1)
def popN (Q : Qu) (ps : List Pr) : Qu := ps.foldl pop1 Q
def quadN (b : Nat) (t : Tr) : PyData := .tuple [.int (b : Nat), .int (t.1 : Nat), .int (t.2.1 : Nat), .int (t.2.2 : Nat)]
def sentN (Q : Qu) (u : Pr) : Tr := (u.2, u.1, (qAt Q u.1 u.2).headD 0)
section
variable {n m : Nat} {Q : Qu} {W : Wq}
theorem cnt_sz (hQ : SzQ n m Q) : SzM n m (cntM Q) := by
  unfold cntM
  refine ⟨by rw [List.length_map, hQ.1], fun r hr => ?_⟩
  obtain ⟨z, hz, rfl⟩ := List.mem_map.mp hr
  rw [List.length_map, hQ.2 z hz]
theorem SzQ.row {α : Type} {Q : List (List α)} (h : SzQ n m Q) {i : Nat} (hi : i < n) : ∃ r, Q[i]? = some r ∧ Q.getD i [] = r ∧ r.length = m := by
  have hl : i < Q.length := by rw [h.1]; exact hi
  exact ⟨Q[i], List.getElem?_eq_getElem hl, by rw [List.getD_eq_getElem?_getD, List.getElem?_eq_getElem hl]; rfl, h.2 _ (List.getElem_mem _)⟩
theorem SzQ.put (h : SzQ n m Q) {i j : Nat} (hi : i < n) {q : List Nat} : SzQ n m (put Q i j q) := by
  refine ⟨by show (Q.set _ _).length = n; rw [List.length_set, h.1], fun r hr => ?_⟩
  rcases List.mem_or_eq_of_mem_set hr with hr | rfl
  · exact h.2 r hr
  · obtain ⟨r, _, e, hl⟩ := h.row hi
    rw [List.length_set, e, hl]
theorem put_at (h : SzQ n m Q) {i j : Nat} (hi : i < n) (hj : j < m) {q : List Nat} (i' j' : Nat) : qAt (put Q i j q) i' j' = if i' = i ∧ j' = j then q else qAt Q i' j' := by
  obtain ⟨r, e1, e2, hl⟩ := h.row hi
  have hil : i < Q.length := by rw [h.1]; exact hi
  unfold qAt Sw.put
  rw [e2]
  by_cases e : i' = i
  · subst e
    rw [List.getD_eq_getElem?_getD (l := Q.set _ _), List.getElem?_set_self hil, e2]
    show (r.set j q).getD j' [] = _
    by_cases e3 : j' = j
    · subst e3
      rw [if_pos ⟨rfl, rfl⟩, List.getD_eq_getElem?_getD, List.getElem?_set_self (by omega)]
      rfl
    · rw [if_neg fun z => e3 z.2, List.getD_eq_getElem?_getD, List.getElem?_set_ne (fun z => e3 z.symm), ← List.getD_eq_getElem?_getD]
  · rw [if_neg fun z => e z.1, List.getD_eq_getElem?_getD (l := Q.set _ _), List.getElem?_set_ne (fun z => e z.symm), ← List.getD_eq_getElem?_getD]
theorem popN_sz : ∀ {ps : List Pr} {Q : Qu}, SzQ n m Q → (∀ u ∈ ps, u.1 < n) → SzQ n m (popN Q ps)
  | [], _, h, _ => h
  | u :: ps, Q, h, hp => popN_sz (ps := ps) (Q := pop1 Q u) (h.put (hp u (List.mem_cons_self ..))) fun v hv => hp v (List.mem_cons_of_mem _ hv)
theorem popN_at : ∀ {ps : List Pr} {Q : Qu}, SzQ n m Q → (∀ u ∈ ps, u.1 < n ∧ u.2 < m) → ps.Nodup → ∀ i j, qAt (popN Q ps) i j = if (i, j) ∈ ps then (qAt Q i j).drop 1 else qAt Q i j
  | [], _, _, _, _, i, j => by rw [if_neg List.not_mem_nil]; rfl
  | u :: ps, Q, h, hp, hn, i, j => by
    obtain ⟨h1, h2⟩ := hp u (List.mem_cons_self ..)
    obtain ⟨n1, n2⟩ := List.nodup_cons.mp hn
    show qAt (popN (pop1 Q u) ps) i j = _
    rw [popN_at (Q := pop1 Q u) (h.put h1) (fun v hv => hp v (List.mem_cons_of_mem _ hv)) n2, show qAt (pop1 Q u) i j = _ from put_at h h1 h2 i j]
    by_cases e : i = u.1 ∧ j = u.2
    · have eu : (i, j) = u := by rw [e.1, e.2]
      rw [if_pos e, eu, if_neg n1, if_pos (List.mem_cons_self ..), e.1, e.2]
    · have eu : (i, j) ≠ u := fun z => e (by rw [← z]; exact ⟨rfl, rfl⟩)
      rw [if_neg e]
      by_cases hm : (i, j) ∈ ps
      · rw [if_pos hm, if_pos (List.mem_cons_of_mem _ hm)]
      · rw [if_neg hm, if_neg fun z => (List.mem_cons.mp z).elim eu hm]
theorem popN_sub (h : SzQ n m Q) {ps : List Pr} (hp : ∀ u ∈ ps, u.1 < n ∧ u.2 < m) (hn : ps.Nodup) {i j c : Nat} (hc : c ∈ qAt (popN Q ps) i j) : c ∈ qAt Q i j := by
  rw [popN_at h hp hn] at hc
  split at hc
  · exact List.mem_of_mem_drop hc
  · exact hc
theorem mark_at {i j : Nat} : cell (markF (cntM Q)) i j = 1 ↔ qAt Q i j ≠ [] := by
  unfold cell markF cntM qAt
  rw [List.map_map, List.getD_eq_getElem?_getD (l := Q.map _), List.getElem?_map, List.getD_eq_getElem?_getD (l := Q)]
  cases Q[i]? with
  | none => exact ⟨fun z => absurd z (by show ¬ (0 : Int) = 1; decide), fun z => absurd rfl z⟩
  | some r =>
    show ((r.map _).map fun x : Int => if x > 0 then (1 : Int) else 0).getD j 0 = 1 ↔ r.getD j [] ≠ []
    rw [List.map_map, List.getD_eq_getElem?_getD, List.getElem?_map, List.getD_eq_getElem?_getD]
    cases r[j]? with
    | none => exact ⟨fun z => absurd z (by show ¬ (0 : Int) = 1; decide), fun z => absurd rfl z⟩
    | some q =>
      show (if (q.length : Int) > 0 then (1 : Int) else 0) = 1 ↔ q ≠ []
      cases q with
      | nil => exact ⟨fun z => absurd z (by show ¬ (0 : Int) = 1; decide), fun z => absurd rfl z⟩
      | cons c q =>
        rw [if_pos (by rw [List.length_cons]; omega)]
        exact ⟨fun _ z => (nomatch z), fun _ => rfl⟩
end
/-! sorted threes -/
def key (t : Tr) : Nat := t.1 * 1000000 + t.2.1 * 1000 + t.2.2
def srtF (xs : List Tr) : List Tr := xs.mergeSort fun a b => decide (key a ≤ key b)
theorem srtF_perm (xs : List Tr) : (srtF xs).Perm xs := List.mergeSort_perm _ _
def Lo (xs : List Tr) : Prop := ∀ t ∈ xs, t.1 < 1000 ∧ t.2.1 < 1000 ∧ t.2.2 < 1000
/-! ### the methods -/
variable (p : P)
def tabS (s : S) : Mat := leftN s.oi s.oo (markF (cntM s.Q))
def sortN' (ns : List Nat) : List Nat := ns.mergeSort fun a b => decide (a ≤ b)
def wideS (s : S) (i : Nat) (os : List Nat) : S := { s with tot := s.tot + 1, W := s.W.set i (s.W.getD i [] ++ [(s.tot, sortN' os)]) }
def goN (taken oo os : List Nat) : List Nat := os.filter fun o => !taken.contains o && !oo.contains o
/-- inlet i's first wide cell -/
def wsend1 (oi oo : List Nat) (i : Nat) (taken : List Nat) (W : Wq) : List Tr × Wq :=
  if oi.contains i = true then ([], W) else match W.getD i [] with
  | [] => ([], W)
  | (k, os) :: rest => ((goN taken oo os).map fun o => (o, i, k), W.set i (if (os.filter fun o => !(goN taken oo os).contains o) = [] then rest else (k, os.filter fun o => !(goN taken oo os).contains o) :: rest))
/-- so many inlets, from one on -/
def wsendK (n wf : Nat) (oi oo : List Nat) (W : Wq) : Nat → List Tr × Wq
  | 0 => ([], W)
  | k + 1 => let r := wsendK n wf oi oo W k; let x := wsend1 oi oo ((wf + k) % n) (r.1.map (·.1)) r.2; (r.1 ++ x.1, x.2)
def nextW (n wf : Nat) : List Tr → Nat
  | [] => wf
  | t :: _ => (t.2.1 + 1) % n
def isWide (s : S) : Bool := decide (p.wide ≠ 0) && decide ((s.bt + 1) % p.wide = 0)
def prsS (s : S) : List Pr := if p.way = "first" then greedy (asksN (tabS s)) else sortF (accP (rdsP p.n p.m s.qs s.pl p.rounds (tabS s)))
def grS (s : S) : List Pr × List Nat := if isWide p s = true ∨ p.way = "first" then (s.qs, s.pl) else behP p.n p.m p.parts p.rounds (tabS s) s.qs s.pl
def sentS (s : S) : List Tr := if isWide p s = true then (wsendK p.n s.wf s.oi s.oo s.W p.n).1 else (prsS p s).map (sentN s.Q)
/-- what crosses -/
def crossS (s : S) : List Tr := srtF (sentS p s)
def beatS (s : S) : S :=
  { s with qs := (grS p s).1, pl := (grS p s).2, bt := s.bt + 1, cr := s.cr ++ (crossS p s).map (quadN (s.bt + 1)),
           Q := if isWide p s = true then s.Q else popN s.Q (prsS p s), W := if isWide p s = true then (wsendK p.n s.wf s.oi s.oo s.W p.n).2 else s.W,
           wf := if isWide p s = true then nextW p.n s.wf (sentS p s) else s.wf }
def goS (s : S) : Nat → S
  | 0 => s
  | k + 1 => beatS p (goS s k)
end Sw
end Cg

set_option Elab.async false
set_option linter.all false
set_option maxRecDepth 100000
set_option maxHeartbeats 1000000
namespace Cg
open PySem PySem.Spec PyProof.Rows L2 Evl
namespace Sw
/-! ### a Switch stays right -/
def WOk (n m tot : Nat) (W : Wq) : Prop := W.length = n ∧ ∀ r ∈ W, r.length ≤ tot ∧ ∀ e ∈ r, e.1 < tot ∧ (e.2.length ≤ 12 ∧ e.2.Nodup) ∧ ∀ o ∈ e.2, o < m
structure Ok (p : P) (s : S) : Prop where
  hg : p.gT.data = tabD true true p.parts
  g : Gst p.n p.m p.parts s.qs s.pl
  rr : 1 ≤ p.rounds ∧ p.rounds ≤ 1000
  wy : p.way = "first" ∨ p.way = "grants"
  sq : SzQ p.n p.m s.Q
  tl : s.tot ≤ 300
  qc : ∀ i j, (qAt s.Q i j).length ≤ s.tot ∧ ∀ c ∈ qAt s.Q i j, c < s.tot
  wo : WOk p.n p.m s.tot s.W
  wf : s.wf < p.n
  oi : s.oi.length ≤ 1000
  oo : s.oo.length ≤ 1000
  crl : s.cr.length ≤ 12 * s.bt
  cri : ∀ d ∈ s.cr, ∃ b t, d = quadN b t
section
variable {p : P} {s : S}
theorem WOk.up {n m tot k : Nat} {W : Wq} (h : WOk n m tot W) : WOk n m (tot + k) W := ⟨h.1, fun r hr => ⟨Nat.le_trans (h.2 r hr).1 (Nat.le_add_right ..), fun e he => ⟨Nat.lt_of_lt_of_le ((h.2 r hr).2 e he).1 (Nat.le_add_right ..), ((h.2 r hr).2 e he).2⟩⟩⟩
theorem WOk.at {n m tot i : Nat} {W : Wq} (h : WOk n m tot W) : (W.getD i []).length ≤ tot ∧ ∀ e ∈ W.getD i [], e.1 < tot ∧ (e.2.length ≤ 12 ∧ e.2.Nodup) ∧ ∀ o ∈ e.2, o < m := by
  rw [List.getD_eq_getElem?_getD]
  cases e : W[i]? with
  | none => exact ⟨Nat.zero_le _, fun _ z => nomatch z⟩
  | some r => exact h.2 r (List.mem_of_getElem? e)
theorem WOk.set {n m tot i : Nat} {W : Wq} {r : List (Nat × List Nat)} (h : WOk n m tot W) (hr : r.length ≤ tot ∧ ∀ e ∈ r, e.1 < tot ∧ (e.2.length ≤ 12 ∧ e.2.Nodup) ∧ ∀ o ∈ e.2, o < m) : WOk n m tot (W.set i r) := ⟨by rw [List.length_set]; exact h.1, fun q hq => by
  rcases List.mem_or_eq_of_mem_set hq with hq | rfl
  · exact h.2 q hq
  · exact hr⟩
theorem sortN'_perm (ns : List Nat) : (sortN' ns).Perm ns := List.mergeSort_perm _ _
theorem Ok.wide {i : Nat} {os : List Nat} (h : Ok p s) (ho : ∀ o ∈ os, o < p.m) (hl : os.Nodup) (ht : s.tot + 1 ≤ 300) : Ok p (wideS s i os) where
  hg := h.hg
  g := h.g
  rr := h.rr
  wy := h.wy
  sq := h.sq
  tl := ht
  qc := fun i' j' => ⟨Nat.le_succ_of_le (h.qc i' j').1, fun c hc => Nat.lt_succ_of_lt ((h.qc i' j').2 c hc)⟩
  wo := by
    obtain ⟨h1, h2⟩ := h.wo.at (i := i)
    refine (h.wo.up (k := 1)).set ⟨by rw [List.length_append]; exact Nat.succ_le_succ h1, fun e he => ?_⟩
    rcases List.mem_append.mp he with he | he
    · exact ⟨Nat.lt_succ_of_lt (h2 e he).1, (h2 e he).2⟩
    · rw [List.mem_singleton.mp he]
      exact ⟨Nat.lt_succ_self _, ⟨by show (sortN' os).length ≤ 12; rw [(sortN'_perm os).length_eq]; have := nodup_len hl ho; have := h.g.m2; omega, (List.Perm.nodup_iff (sortN'_perm os)).mpr hl⟩, fun o hz => ho o ((sortN'_perm os).mem_iff.mp hz)⟩
  wf := h.wf
  oi := h.oi
  oo := h.oo
  crl := h.crl
  cri := h.cri
theorem wsend1_ok {n m tot i : Nat} {oi oo taken : List Nat} {W : Wq} (h : WOk n m tot W) (hi : i < n) : WOk n m tot (wsend1 oi oo i taken W).2 ∧ (wsend1 oi oo i taken W).1.length ≤ 12 ∧ (∀ t ∈ (wsend1 oi oo i taken W).1, t.1 < m ∧ t.2.1 < n ∧ t.2.2 < tot) ∧ ((wsend1 oi oo i taken W).1.map (·.1)).Nodup ∧ ∀ t ∈ (wsend1 oi oo i taken W).1, t.1 ∉ taken ∧ t.1 ∉ oo := by
  unfold wsend1
  split
  · exact ⟨h, Nat.zero_le _, (fun _ z => nomatch z), List.nodup_nil, fun _ z => nomatch z⟩
  · obtain ⟨h1, h2⟩ := h.at (i := i)
    split
    · exact ⟨h, Nat.zero_le _, (fun _ z => nomatch z), List.nodup_nil, fun _ z => nomatch z⟩
    · rename_i k os rest e
      rw [e] at h1 h2
      obtain ⟨a1, ⟨a2, a4⟩, a3⟩ := h2 _ (List.mem_cons_self ..)
      refine ⟨h.set ?_, by rw [List.length_map]; exact Nat.le_trans (List.length_filter_le ..) a2, fun t ht => ?_, ?_, fun t ht => ?_⟩
      · split
        · exact ⟨Nat.le_trans (Nat.le_succ _) h1, fun e he => h2 e (List.mem_cons_of_mem _ he)⟩
        · refine ⟨h1, fun e he => ?_⟩
          rcases List.mem_cons.mp he with rfl | he
          · exact ⟨a1, ⟨Nat.le_trans (List.length_filter_le ..) a2, a4.sublist List.filter_sublist⟩, fun o ho => a3 o (List.mem_filter.mp ho).1⟩
          · exact h2 e (List.mem_cons_of_mem _ he)
      · obtain ⟨o, ho, rfl⟩ := List.mem_map.mp ht
        exact ⟨a3 o (List.mem_filter.mp ho).1, hi, a1⟩
      · rw [List.map_map]
        exact (List.map_id' _).symm ▸ a4.sublist List.filter_sublist
      · obtain ⟨o, ho, rfl⟩ := List.mem_map.mp ht
        have hc := (List.mem_filter.mp ho).2
        rw [Bool.and_eq_true, Bool.not_eq_true', Bool.not_eq_true'] at hc
        exact ⟨fun z => absurd hc.1 (by rw [List.contains_iff_mem.mpr z]; decide), fun z => absurd hc.2 (by rw [List.contains_iff_mem.mpr z]; decide)⟩
theorem wsendK_ok {n m tot wf : Nat} {oi oo : List Nat} {W : Wq} (h : WOk n m tot W) (hn : 0 < n) : ∀ k, WOk n m tot (wsendK n wf oi oo W k).2 ∧ (wsendK n wf oi oo W k).1.length ≤ 12 * k ∧ (∀ t ∈ (wsendK n wf oi oo W k).1, t.1 < m ∧ t.2.1 < n ∧ t.2.2 < tot) ∧ ((wsendK n wf oi oo W k).1.map (·.1)).Nodup ∧ ∀ t ∈ (wsendK n wf oi oo W k).1, t.1 ∉ oo
  | 0 => ⟨h, Nat.zero_le _, (fun _ z => nomatch z), List.nodup_nil, fun _ z => nomatch z⟩
  | k + 1 => by
    obtain ⟨h1, h2, h3, h4, h5⟩ := wsendK_ok h hn k
    obtain ⟨a1, a2, a3, a4, a5⟩ := wsend1_ok (i := (wf + k) % n) (oi := oi) (oo := oo) (taken := (wsendK n wf oi oo W k).1.map (·.1)) h1 (Nat.mod_lt _ hn)
    refine ⟨a1, ?_, fun t ht => ?_, ?_, fun t ht => ?_⟩
    · show ((wsendK n wf oi oo W k).1 ++ (wsend1 oi oo ((wf + k) % n) ((wsendK n wf oi oo W k).1.map (·.1)) (wsendK n wf oi oo W k).2).1).length ≤ _
      rw [List.length_append]
      omega
    · rcases List.mem_append.mp ht with ht | ht
      · exact h3 t ht
      · exact a3 t ht
    · show (((wsendK n wf oi oo W k).1 ++ (wsend1 oi oo ((wf + k) % n) ((wsendK n wf oi oo W k).1.map (·.1)) (wsendK n wf oi oo W k).2).1).map (·.1)).Nodup
      rw [List.map_append]
      refine List.nodup_append.mpr ⟨h4, a4, fun x hx y hy e => ?_⟩
      obtain ⟨t, ht, rfl⟩ := List.mem_map.mp hy
      exact (a5 t ht).1 (by rw [← e]; exact hx)
    · rcases List.mem_append.mp ht with ht | ht
      · exact h5 t ht
      · exact (a5 t ht).2
theorem wsend_len {n m tot wf : Nat} {oi oo : List Nat} {W : Wq} (h : WOk n m tot W) (hn : 0 < n) (k : Nat) : (wsendK n wf oi oo W k).1.length ≤ m := by
  obtain ⟨_, _, h3, h4, _⟩ := wsendK_ok (wf := wf) (oi := oi) (oo := oo) h hn k
  have := nodup_len h4 (n := m) fun x hx => by
    obtain ⟨t, ht, rfl⟩ := List.mem_map.mp hx
    exact (h3 t ht).1
  rwa [List.length_map] at this
theorem Ok.tab (h : Ok p s) : SzM p.n p.m (tabS s) := by
  have := cnt_sz h.sq
  have hm : SzM p.n p.m (markF (cntM s.Q)) := by
    unfold markF
    refine ⟨by rw [List.length_map]; exact this.1, fun r hr => ?_⟩
    obtain ⟨z, hz, rfl⟩ := List.mem_map.mp hr
    rw [List.length_map]
    exact this.2 z hz
  refine ⟨(left_len ..).trans hm.1, fun x hx => ?_⟩
  obtain ⟨r, hr, e⟩ := left_row hx
  rw [e]
  exact hm.2 r hr
theorem Ok.prs (h : Ok p s) : Prs (tabS s) (prsS p s) := by
  unfold prsS
  split
  · exact greedy_prs _
  · exact prs_rds h.tab
theorem Ok.prs_in (h : Ok p s) : ∀ u ∈ prsS p s, u.1 < p.n ∧ u.2 < p.m ∧ qAt s.Q u.1 u.2 ≠ [] := fun u hu => by
  have hc := h.prs.ask u hu
  obtain ⟨b1, b2⟩ := cell_bd h.tab hc
  exact ⟨b1, b2, mark_at.mp (cell_left.mp hc).1⟩
theorem Ok.prs_len (h : Ok p s) : (prsS p s).length ≤ 12 := by
  have := h.prs.len
  have := h.tab.1
  have := h.g.n2
  omega
theorem Ok.prs_nd (h : Ok p s) : (prsS p s).Nodup := (List.pairwise_map.mp h.prs.rise).imp fun h e => by rw [e] at h; exact absurd h (Nat.lt_irrefl _)
theorem Ok.sent (h : Ok p s) : (sentS p s).length ≤ 12 ∧ ∀ t ∈ sentS p s, t.1 < p.m ∧ t.2.1 < p.n ∧ t.2.2 < s.tot := by
  have n2 := h.g.n2
  unfold sentS
  split
  · obtain ⟨_, _, h3, _⟩ := wsendK_ok (wf := s.wf) (oi := s.oi) (oo := s.oo) h.wo (by have := h.g.n1; omega) p.n
    exact ⟨Nat.le_trans (wsend_len h.wo (by have := h.g.n1; omega) p.n) h.g.m2, h3⟩
  · refine ⟨by rw [List.length_map]; have := h.prs_len; omega, fun t ht => ?_⟩
    obtain ⟨u, hu, rfl⟩ := List.mem_map.mp ht
    obtain ⟨a1, a2, a3⟩ := h.prs_in u hu
    refine ⟨a2, a1, ?_⟩
    show (qAt s.Q u.1 u.2).headD 0 < s.tot
    cases e : qAt s.Q u.1 u.2 with
    | nil => exact absurd e a3
    | cons c q => exact (h.qc u.1 u.2).2 c (by rw [e]; exact List.mem_cons_self ..)
theorem Ok.lo (h : Ok p s) : Lo (sentS p s) := fun t ht => by
  obtain ⟨a1, a2, a3⟩ := h.sent.2 t ht
  have := h.g.n2
  have := h.g.m2
  have := h.tl
  exact ⟨by omega, by omega, by omega⟩
theorem Ok.cross_len (h : Ok p s) : (crossS p s).length ≤ 12 := by
  unfold crossS
  rw [(srtF_perm _).length_eq]
  exact h.sent.1
theorem Ok.beat (h : Ok p s) : Ok p (beatS p s) where
  hg := h.hg
  g := by
    show Gst p.n p.m p.parts (grS p s).1 (grS p s).2
    unfold grS
    split
    · exact h.g
    · exact beh_gst h.g
  rr := h.rr
  wy := h.wy
  sq := by
    show SzQ p.n p.m (if isWide p s = true then s.Q else popN s.Q (prsS p s))
    split
    · exact h.sq
    · exact popN_sz h.sq fun u hu => (h.prs_in u hu).1
  tl := h.tl
  qc := fun i j => by
    show (qAt (if isWide p s = true then s.Q else popN s.Q (prsS p s)) i j).length ≤ s.tot ∧ _
    have hh := h.qc i j
    split
    · rename_i e
      refine ⟨hh.1, fun c hc => hh.2 c ?_⟩
      have hc : c ∈ qAt (if isWide p s = true then s.Q else popN s.Q (prsS p s)) i j := hc
      rw [if_pos e] at hc
      exact hc
    · rename_i e
      have hin : ∀ u ∈ prsS p s, u.1 < p.n ∧ u.2 < p.m := fun u hu => ⟨(h.prs_in u hu).1, (h.prs_in u hu).2.1⟩
      refine ⟨?_, fun c hc => hh.2 c ?_⟩
      · rw [popN_at h.sq hin h.prs_nd]
        split
        · rw [List.length_drop]; omega
        · exact hh.1
      · have hc : c ∈ qAt (if isWide p s = true then s.Q else popN s.Q (prsS p s)) i j := hc
        rw [if_neg e] at hc
        exact popN_sub h.sq hin h.prs_nd hc
  wo := by
    show WOk p.n p.m s.tot (if isWide p s = true then _ else s.W)
    split
    · exact (wsendK_ok h.wo (by have := h.g.n1; omega) p.n).1
    · exact h.wo
  wf := by
    show (if isWide p s = true then nextW p.n s.wf (sentS p s) else s.wf) < p.n
    split
    · unfold nextW
      split
      · exact h.wf
      · exact Nat.mod_lt _ (by have := h.g.n1; omega)
    · exact h.wf
  oi := h.oi
  oo := h.oo
  crl := by
    show (s.cr ++ (crossS p s).map _).length ≤ 12 * (s.bt + 1)
    rw [List.length_append, List.length_map]
    have := h.crl
    have := h.cross_len
    omega
  cri := fun d hd => by
    rcases List.mem_append.mp hd with hd | hd
    · exact h.cri d hd
    · obtain ⟨t, _, rfl⟩ := List.mem_map.mp hd
      exact ⟨_, t, rfl⟩
theorem Ok.go (h : Ok p s) : ∀ k, Ok p (goS p s k)
  | 0 => h
  | k + 1 => (h.go k).beat
end
end Sw
end Cg

set_option Elab.async false
set_option linter.all false
set_option maxRecDepth 100000
set_option maxHeartbeats 1000000
namespace Cg
open PySem PySem.Spec PyProof.Rows L2 Evl
/-! ### a named own list that is walked, its parts changed by other names: it keeps its name -/
section
variable {K : PySem.W.Frag} {i : Nat} {g : TG} {G : WT1} {ts : TS} {wb : WS}
end
end Cg

set_option Elab.async false
set_option linter.all false
set_option maxRecDepth 100000
set_option maxHeartbeats 4000000
/-! E3: calls that may raise, wished for at the caller's slots -/
namespace Cg
open PySem PySem.Spec PyProof.Rows L2
section
variable {X : Cx} {CX : CXT} {k n : Nat} {f C : Addr} {fd : FuncData} {ps ks : List Str} {sp : Sp} {dvs : List V} {ds : List Value} {E : L2.St → XK} {x m : Str} {p pos apos : Pos} {e o : Expr} {es : List Expr} {kws : List Keyword} {ta : TE} {t tk : TA} {g : List Value → List Value → List Value} {gV : List V → List V → List V}
  {pins : List (Addr × Obj)} {σ : L2.St} {H : Hp} {s : Shared} {Q : VK} {us ws : List Value} {vs zs : List V}
end
end Cg

set_option Elab.async false
set_option linter.all false
set_option maxRecDepth 100000
set_option maxHeartbeats 1000000
namespace Cg
open PySem PySem.Spec PyProof.Rows L2 Evl
/-! ### raised -/
section
variable {c : Base} {b bs cs F A B : List Addr} {σ τ : L2.St} {H H1 H2 H' : Hp} {ε δ : Env} {N N1 N2 N' : Nat} {u v : V} {t s : T} {d : PyData} {ts : TS} {ws : WS} {te tp : TE} {we : WE} {tas tks : TA} {was wks : WA} {wp : WP} {C : Addr} {W : L2.WX} {ns : List Str} {m : Str}
/-- the last slot's data -/
theorem Rel.last (r : Rel c bs F (σ ++ [some v]) H (ε ++ [.is (.sh d)]) N) (hl : σ.length = ε.length) : ∃ G, Rel c bs G σ H ε N ∧ Dq (hid bs H) v d := by
  obtain ⟨G, A, r2, hr, _⟩ := r.unpend hl
  cases hr with
  | sh h => exact ⟨G, r2, h⟩
/-! ### defs that may raise, of what is shared alone -/
abbrev WFD := List PyData → Nat → (T → Nat → Prop) → (PyData → Nat → Prop) → Prop
/-! ### .. of what they change -/
abbrev WFE := List T → Nat → (T → List T → Nat → Prop) → (PyData → List T → Nat → Prop) → Prop
end
end Cg

set_option Elab.async false
set_option linter.all false
set_option maxRecDepth 100000
set_option maxHeartbeats 1000000
namespace Cg
open PySem PySem.Spec PyProof.Rows L2 Evl
/-! ### calls that may raise -/
abbrev WXE := Env → Nat → (T → Env → Nat → Prop) → (PyData → Env → Nat → Prop) → Prop
section
variable {c : Base} {b bs cs F A B : List Addr} {σ τ : L2.St} {H H1 H2 H' : Hp} {ε δ : Env} {N N1 N2 N' : Nat} {u v : V} {t s : T} {d : PyData} {ts : TS} {ws : WS} {te tp : TE} {we : WE} {tas tks : TA} {was wks : WA} {wp : WP} {C : Addr} {W : L2.WX} {ns : List Str} {m : Str} {i : Nat} {K : PySem.W.Frag}
/-! what is told of shared things alone -/
/-! within other expressions -/
/-! statements -/
end
end Cg

set_option Elab.async false
set_option linter.all false
set_option maxRecDepth 100000
set_option maxHeartbeats 1000000
namespace Cg
open PySem PySem.Spec PyProof.Rows L2 Evl
/-! ### exceptions that are caught, and what is asked of them -/
/-- the classes of the program's own exceptions: their names, where they stand, Python's chains behind them -/
structure Xs (K : PySem.W.Frag) (ns : List Str) (ks : List Addr) (bs : List (List Value)) : Prop where
  cl : ∀ i, i < ks.length → ∃ fI newId, XC K (ns.getD i "") (ks.getD i 0) fI newId (bs.getD i [])
  ok : ∀ b ∈ bs, b.contains (.type "BaseException") = true ∧ b.contains (.type "object") = true ∧ ∀ c : Addr, b.contains (.ref c) = false
  ln : ns.length = ks.length
  lb : bs.length = ks.length
  nd : ns.Nodup
  gs : PySem.W.specialIn K (.builtin "object.__class__") "__get__" = some (some (.builtin "getset_descriptor.__get__"))
  tk : PySem.W.takesIn K (.builtin "object.__class__") = some true
section
variable {K : PySem.W.Frag} {nms : List Str} {ks : List Addr} {bms : List (List Value)} {c : Base} {bs F A : List Addr} {σ : L2.St} {H H1 : Hp} {ε : Env} {N N1 : Nat} {i j : Nat} {te : TE} {we : WE} {W Wout : L2.WX} {C : Addr} {d : PyData}
theorem Xs.at (x : Xs K nms ks bms) {i : Nat} (hi : i < ks.length) : bms.getD i [] ∈ bms := by
  have h : i < bms.length := by rw [x.lb]; exact hi
  rw [List.getD_eq_getElem?_getD, List.getElem?_eq_getElem h]
  exact List.getElem_mem h
theorem Xs.inj (x : Xs K nms ks bms) {i j : Nat} (hi : i < ks.length) (hj : j < ks.length) (e : ks.getD i 0 = ks.getD j 0) : i = j := by
  obtain ⟨f1, n1, t1⟩ := x.cl i hi
  obtain ⟨f2, n2, t2⟩ := x.cl j hj
  rw [e] at t1
  refine Classical.byContradiction fun h => ?_
  have hi' : i < nms.length := by rw [x.ln]; exact hi
  have hj' : j < nms.length := by rw [x.ln]; exact hj
  refine t1.ne t2 (fun z => h ?_) rfl
  rw [List.getD_eq_getElem?_getD, List.getD_eq_getElem?_getD, List.getElem?_eq_getElem hi', List.getElem?_eq_getElem hj'] at z
  exact (List.getElem_inj x.nd).mp z
theorem Xs.dec (x : Xs K nms ks bms) {i j : Nat} (hi : i < ks.length) (hj : j < ks.length) : decide (ks.getD i 0 = ks.getD j 0) = decide (i = j) := by
  by_cases h : i = j
  · rw [h, decide_eq_true rfl, decide_eq_true rfl]
  · rw [decide_eq_false h, decide_eq_false fun z => h (x.inj hi hj z)]
theorem Xs.exm (x : Xs K nms ks bms) {i j : Nat} (hi : i < ks.length) (hj : j < ks.length) : PySem.W.exmOne K (.ref (ks.getD i 0)) (.ref (ks.getD j 0)) = some (decide (i = j)) := by
  obtain ⟨f1, n1, t1⟩ := x.cl i hi
  obtain ⟨f2, n2, t2⟩ := x.cl j hj
  rw [t1.exm t2 (x.ok _ (x.at hi)).1 (x.ok _ (x.at hj)).1 (x.ok _ (x.at hi)).2.2, x.dec hi hj]
theorem Xs.any (x : Xs K nms ks bms) {i : Nat} (hi : i < ks.length) : ∀ {js : List Nat}, (∀ j ∈ js, j < ks.length) → PySem.W.exmAny K (.ref (ks.getD i 0)) (js.map fun j => Value.ref (ks.getD j 0)) = some (decide (i ∈ js))
  | [], _ => by
    show some false = _
    rw [decide_eq_false List.not_mem_nil]
  | j :: js, h => by
    have e1 := x.exm hi (h j (List.mem_cons_self ..))
    have e2 := Xs.any x hi (js := js) fun j hj => h j (List.mem_cons_of_mem _ hj)
    rw [List.map_cons]
    unfold PySem.W.exmAny
    rw [e1, e2]
    show some (decide (i = j) || decide (i ∈ js)) = _
    congr 1
    by_cases z : i = j
    · rw [decide_eq_true z, Bool.true_or, decide_eq_true (by rw [z]; exact List.mem_cons_self ..)]
    · rw [decide_eq_false z, Bool.false_or]
      by_cases z2 : i ∈ js
      · rw [decide_eq_true z2, decide_eq_true (List.mem_cons_of_mem _ z2)]
      · rw [decide_eq_false z2, decide_eq_false fun z3 => (List.mem_cons.mp z3).elim z z2]
end
end Cg
namespace Cg
open PySem PySem.Spec PyProof.Rows L2 Evl
/-- defs that may raise -/
structure DfE (P : Program) (w : World) (K : PySem.W.Frag) (mg : Str → Option Value) (base : Heap) (k : Nat) (x : Str) (st : Stmt) (ps : List Str) (f : Addr) (fd : FuncData) (sp : Sp) : Prop where
  F : Fun K x x st f fd
  g : mg x = some (.ref f)
  b : Binds K fd ps []
  G : FnOk P w K mg base (L2.CX P w) k f fd ps sp
structure DmE (P : Program) (w : World) (K : PySem.W.Frag) (mg : Str → Option Value) (base : Heap) (k : Nat) (x q : Str) (st : Stmt) (ps : List Str) (f : Addr) (fd : FuncData) (sp : Sp) : Prop where
  F : Fun K x q st f fd
  G : FnOk P w K mg base (L2.CX P w) k f fd ps sp
end Cg
namespace Cg
open PySem PySem.Spec PyProof.Rows L2 Evl
section
variable {K : PySem.W.Frag} {nms : List Str} {ks : List Addr} {bms : List (List Value)} {te : TE} {we : WE}
end
end Cg

set_option Elab.async false
set_option linter.all false
set_option maxRecDepth 100000
set_option maxHeartbeats 1000000
/-! ED: equations of what may raise -/
namespace Cg
open PySem PySem.Spec PyProof.Rows L2 Evl
section
variable {D : EW} {ε : Env} {N i j : Nat} {C : Addr} {W : L2.WX} {we : WE} {wx wy : WXE} {wt : WB} {wX : WX} {wg : WG} {wp : WP} {was wks : WA} {wa : WAP} {R : T → Env → Nat → Prop} {RE : PyData → Env → Nat → Prop} {Q : PyData → Nat → Prop} {ns : List Str} {f : WFE} {fd : WFD} {ks : List Addr} {js : List Nat} {bms : List (List Value)} {wb : L2.WX → WS} {t : T} {e : PyData} {q : Env → Nat → Prop}
end
section
variable {ε : Env} {N : Nat} {R : T → Nat → Prop} {RE : PyData → Nat → Prop} {RX : T → List T → Nat → Prop} {RXE : PyData → List T → Nat → Prop} {E : XK} {bx : Bool} {md : List Bool} {ts : List T} {t : T} {e : PyData}
end
/-! the try's reading under a head of its own -/
section
variable {X : Cx} {n : Str} {t : Expr} {i j : Nat} {body suite : List Stmt} {b₀ : Stmt} {pos pos' : Pos} {tb : L2.WX → TS} {Wout : L2.WX}
end
end Cg

set_option Elab.async false
set_option linter.all false
set_option maxRecDepth 100000
set_option maxHeartbeats 1000000
namespace Cg
open PySem PySem.Spec PyProof.Rows L2 Evl
section
variable {c : Base} {b bs cs F A B : List Addr} {σ τ : L2.St} {H H1 H2 H' : Hp} {ε δ : Env} {N N1 N2 N' : Nat} {u v : V} {t s : T} {d : PyData} {te tp : TE} {wp : WP} {i j : Nat} {K : PySem.W.Frag} {R : T → Env → Nat → Prop}
end
end Cg

set_option Elab.async false
set_option linter.all false
set_option maxRecDepth 100000
set_option maxHeartbeats 1000000
namespace Cg
open PySem PySem.Spec PyProof.Rows L2 Evl
/-! ### a walk over several places, each by another name -/
section
variable {c : Base} {b bs cs F A B : List Addr} {σ τ : L2.St} {H H1 H2 H' : Hp} {ε δ : Env} {N N1 N2 N' : Nat} {u v : V} {t s : T} {d : PyData} {i j : Nat} {K : PySem.W.Frag} {ta : TA} {tp te : TE} {wp : WP} {we : WE} {wt : WT} {l : List (Nat × WP)} {ts : TS} {wb : WS}
/-! ### p.reverse(), p.remove(e) -/
theorem vals_ints : ∀ (ns : List Int), DqAll H (ns.map V.int) (ns.map PyData.int)
  | [] => .nil
  | n :: ns => .cons (.int n) (vals_ints ns)
end
/-! ### a method that tells a place in what it is asked of -/
theorem VAt.app {H : Hp} {u w : V} {π2 : List Nat} : ∀ {π : List Nat} {v : V}, VAt H v π u → VAt H u π2 w → VAt H v (π ++ π2) w
  | [], v, h, k => by
    have h' : v = u := h
    subst h'
    exact k
  | j :: π, v, ⟨us, x, h1, h2, h3⟩, k => ⟨us, x, h1, h2, h3.app k⟩
section
variable {c : Base} {b bs cs F A B : List Addr} {σ τ : L2.St} {H H1 H2 H' : Hp} {ε δ : Env} {N N1 N2 N' : Nat} {u v : V} {t s : T} {d : PyData} {i j : Nat} {K : PySem.W.Frag} {tas : TA} {tp te : TE} {wp : WP} {was : WA} {W : L2.WX} {C : Addr} {ns : List Str} {m : Str}
end
end Cg

set_option Elab.async false
set_option linter.all false
set_option maxRecDepth 100000
set_option maxHeartbeats 1000000
namespace Cg
open PySem PySem.Spec PyProof.Rows L2 Evl
/-! ### displays of what is its own -/
section
variable {c : Base} {b bs cs F A B : List Addr} {σ τ : L2.St} {H H1 H2 H' : Hp} {ε δ : Env} {N N1 N2 N' : Nat} {u v : V} {t s : T} {d : PyData} {i j : Nat} {K : PySem.W.Frag} {tas : TA} {te : TE} {wx : WX} {ws : WXs} {ns : List Str}
/-! a record -/
/-! x, y = e: its parts -/
/-! f(x, ..), x its own and kept, others change slots -/
end
end Cg

set_option Elab.async false
set_option linter.all false
set_option maxRecDepth 100000
set_option maxHeartbeats 1000000
namespace Cg
open PySem PySem.Spec PyProof.Rows L2 Evl
/-! ### a method that tells a place: if t: self.check(..); return self.f; self.check2(..); return self.g -/
end Cg

set_option Elab.async false
set_option linter.all false
set_option maxRecDepth 100000
set_option maxHeartbeats 1000000
/-! ### == and != of instances of a class with an __eq__ of its own -/
namespace L2
open PySem PySem.Spec PyProof.Rows
section
variable {M : Model} {prog : Program} {w : World} {A : Around} {E : Value → Shared → Prop} {s : Shared} {K : PySem.W.Frag} {x C f : Addr} {ox : Obj} {od : Option Obj} {b : Value}
end
section
variable {X : Cx} {CX : CXT} {n : Nat} {C f : Addr} {fd : FuncData} {ps : List Str} {sp : Sp} {E : XK}
end
end L2
namespace Cg
open PySem PySem.Spec PyProof.Rows L2 Evl
/-- what == != isinstance ask of an own class besides Cls -/
structure OwnC (K : PySem.W.Frag) (C : Addr) : Prop where
  cl : Cls K C
  mo : PySem.W.mroIn K C (.type "object") = some true
  ne : PySem.W.findIn K (.ref C) "__ne__" = some (some (.builtin "object.__ne__"))
  ca : PySem.W.findIn K (.ref C) "__class__" = some (some (.builtin "object.__class__"))
  cn : PySem.W.specialIn K (.builtin "object.__class__") "__get__" = some (some (.builtin "getset_descriptor.__get__"))
  ct : PySem.W.takesIn K (.builtin "object.__class__") = some true
end Cg
namespace Cg
open PySem PySem.Spec PyProof.Rows L2 Evl
/-! a place within a tuple of own things -/
section
variable {K : PySem.W.Frag} {tp tk : TE} {wk : WE} {wp : WP} {i : Nat}
end
end Cg
namespace Cg
open PySem PySem.Spec PyProof.Rows L2 Evl
/-! a list's name forgotten -/
section
variable {ts : TS} {ws : WS} {i j : Nat}
end
end Cg

set_option Elab.async false
set_option linter.all false
set_option maxRecDepth 100000
set_option maxHeartbeats 1000000
namespace Cg
open PySem PySem.Spec PyProof.Rows L2 Evl
/-! tuple(a list of its own) -/
section
variable {ta : TE} {wt : WT}
end
end Cg

set_option Elab.async false
set_option linter.all false
set_option maxRecDepth 100000
set_option maxHeartbeats 1000000
namespace Cg
open PySem PySem.Spec PyProof.Rows L2 Evl
/-! parts of an own thing told as data -/
mutual
inductive Wk : T → T → Prop
  | refl {t : T} : Wk t t
  | sh {t : T} : Wk t (.sh t.data)
  | lst {ts us : List T} (h : WkL ts us) : Wk (.lst ts) (.lst us)
  | tup {ts us : List T} (h : WkL ts us) : Wk (.tup ts) (.tup us)
  | tpa {a : Addr} {ts us : List T} (h : WkL ts us) : Wk (.tpa a ts) (.tpa a us)
  | ins {a C : Addr} {ns : List Str} {ts us : List T} (h : WkL ts us) : Wk (.ins a C ns ts) (.ins a C ns us)
  | rc {a : Addr} {ns : List Str} {ts us : List T} (h : WkL ts us) : Wk (.rc a ns ts) (.rc a ns us)
  | dct {a : Addr} {ks : DKs} {ts us : List T} (h : WkL ts us) : Wk (.dct a ks ts) (.dct a ks us)
  | lsa {a : Addr} {ts us : List T} (h : WkL ts us) : Wk (.lsa a ts) (.lsa a us)
inductive WkL : List T → List T → Prop
  | nil : WkL [] []
  | cons {t u : T} {ts us : List T} (h : Wk t u) (k : WkL ts us) : WkL (t :: ts) (u :: us)
end
theorem WkL.refl : ∀ {ts : List T}, WkL ts ts
  | [] => .nil
  | _ :: _ => .cons .refl WkL.refl
theorem WkL.map {α : Type} {f g : α → T} : ∀ {xs : List α}, (∀ x ∈ xs, Wk (f x) (g x)) → WkL (xs.map f) (xs.map g)
  | [], _ => .nil
  | x :: xs, h => .cons (h x (List.mem_cons_self ..)) (WkL.map fun y hy => h y (List.mem_cons_of_mem _ hy))
section
variable {bs : List Addr} {H : Hp}
mutual
theorem Rep.weak (nt : NoTup bs H) : ∀ {t t' : T} {v : V} {A : List Addr}, Wk t t' → Rep bs H v t A → A.Nodup → ∃ A', List.Sublist A' A ∧ ∀ {hs : List Addr}, NoTup hs H → (∀ a ∈ hs, a ∈ bs) → (∀ a ∈ A, a ∈ hs → a ∈ A') → Rep hs H v t' A'
  | _, _, _, A, .refl, r, _ => ⟨A, List.Sublist.refl _, fun _ hh _ => Rep.chg nt (hid_less hh) (fun _ _ _ e => e) r⟩
  | _, _, _, A, .sh, r, _ => ⟨[], List.nil_sublist _, fun hn hh hA => .sh (Rep.data hn hh (fun a ha z => nomatch hA a ha z) r)⟩
  | _, _, _, _, .lst w, .lst e h, nd => by
    obtain ⟨n1, n2⟩ := List.nodup_cons.mp nd
    obtain ⟨A', s, k⟩ := RepL.weak nt w h n2
    exact ⟨_ :: A', s.cons_cons _, fun hn hh hA => .lst e (k hn hh fun a ha z => (List.mem_cons.mp (hA a (List.mem_cons_of_mem _ ha) z)).elim (fun y => absurd (y ▸ ha) n1) id)⟩
  | _, _, _, _, .lsa w, .lsa e h, nd => by
    obtain ⟨n1, n2⟩ := List.nodup_cons.mp nd
    obtain ⟨A', s, k⟩ := RepL.weak nt w h n2
    exact ⟨_ :: A', s.cons_cons _, fun hn hh hA => .lsa e (k hn hh fun a ha z => (List.mem_cons.mp (hA a (List.mem_cons_of_mem _ ha) z)).elim (fun y => absurd (y ▸ ha) n1) id)⟩
  | _, _, _, _, .tup w, .tup e h, nd => by
    obtain ⟨A', s, k⟩ := RepL.weak nt w h nd
    exact ⟨A', s, fun hn hh hA => .tup e (k hn hh hA)⟩
  | _, _, _, _, .tpa w, .tpa e h, nd => by
    obtain ⟨A', s, k⟩ := RepL.weak nt w h nd
    exact ⟨A', s, fun hn hh hA => .tpa e (k hn hh hA)⟩
  | _, _, _, _, .rc w, .rc e l h, nd => by
    obtain ⟨n1, n2⟩ := List.nodup_cons.mp nd
    obtain ⟨A', s, k⟩ := RepL.weak nt w h n2
    exact ⟨_ :: A', s.cons_cons _, fun hn hh hA => .rc e l (k hn hh fun a ha z => (List.mem_cons.mp (hA a (List.mem_cons_of_mem _ ha) z)).elim (fun y => absurd (y ▸ ha) n1) id)⟩
  | _, _, _, _, .dct w, .dct e l n0 h, nd => by
    obtain ⟨n1, n2⟩ := List.nodup_cons.mp nd
    obtain ⟨A', s, k⟩ := RepL.weak nt w h n2
    exact ⟨_ :: A', s.cons_cons _, fun hn hh hA => .dct e l n0 (k hn hh fun a ha z => (List.mem_cons.mp (hA a (List.mem_cons_of_mem _ ha) z)).elim (fun y => absurd (y ▸ ha) n1) id)⟩
  | _, _, _, _, .ins w, .ins e e2 l h, nd => by
    obtain ⟨n1, nd2⟩ := List.nodup_cons.mp nd
    obtain ⟨n2, n3⟩ := List.nodup_cons.mp nd2
    obtain ⟨A', s, k⟩ := RepL.weak nt w h n3
    exact ⟨_ :: _ :: A', (s.cons_cons _).cons_cons _, fun hn hh hA => .ins e e2 l (k hn hh fun a ha z => (List.mem_cons.mp (hA a (List.mem_cons_of_mem _ (List.mem_cons_of_mem _ ha)) z)).elim (fun y => absurd (List.mem_cons_of_mem _ (y ▸ ha)) n1) fun y => (List.mem_cons.mp y).elim (fun y => absurd (y ▸ ha) n2) id)⟩
theorem RepL.weak (nt : NoTup bs H) : ∀ {ts us : List T} {vs : List V} {A : List Addr}, WkL ts us → RepL bs H vs ts A → A.Nodup → ∃ A', List.Sublist A' A ∧ ∀ {hs : List Addr}, NoTup hs H → (∀ a ∈ hs, a ∈ bs) → (∀ a ∈ A, a ∈ hs → a ∈ A') → RepL hs H vs us A'
  | _, _, _, _, .nil, .nil, _ => ⟨[], List.Sublist.refl _, fun _ _ _ => .nil⟩
  | _, _, _, _, .cons w ws, .cons h t, nd => by
    obtain ⟨n1, n2, n3⟩ := List.nodup_append.mp nd
    obtain ⟨A', s, k⟩ := Rep.weak nt w h n1
    obtain ⟨B', s2, k2⟩ := RepL.weak nt ws t n2
    exact ⟨A' ++ B', s.append s2, fun hn hh hA => .cons
      (k hn hh fun a ha z => (List.mem_append.mp (hA a (List.mem_append_left _ ha) z)).elim id fun y => absurd rfl (n3 a ha a (s2.subset y)))
      (k2 hn hh fun a ha z => (List.mem_append.mp (hA a (List.mem_append_right _ ha) z)).elim (fun y => absurd rfl (n3 a (s.subset y) a ha)) id)⟩
end
end
section
variable {c : Base} {bs F : List Addr} {σ : L2.St} {H : Hp} {ε : Env} {N : Nat}
theorem Rel.weak {i : Nat} {t t' : T} (r : Rel c bs F σ H ε N) (hl : ε[i]? = some (.is t)) (w : Wk t t') : ∃ bs' F', Rel c bs' F' σ H (ε.set i (.is t')) N := by
  obtain ⟨z, A, F1, F2, q1, q2, rfl, q4⟩ := r.env.at hl
  cases q2 with
  | is q2 =>
    rename_i v
    have hA : ∀ a ∈ A, a ∈ F1 ++ (A ++ F2) := fun a ha => List.mem_append_right _ (List.mem_append_left _ ha)
    obtain ⟨_, p2, p3⟩ := List.nodup_append.mp r.nd
    obtain ⟨ndA, _, p4⟩ := List.nodup_append.mp p2
    obtain ⟨A', sA, wk⟩ := Rep.weak r.nt w q2 ndA
    let bs' := bs.filter fun a => !(decide (a ∈ A) && !decide (a ∈ A'))
    have hs : ∀ a, a ∈ bs' ↔ a ∈ bs ∧ (a ∈ A → a ∈ A') := fun a => by
      show a ∈ bs.filter _ ↔ _
      rw [List.mem_filter]
      by_cases h1 : a ∈ A <;> by_cases h2 : a ∈ A' <;> simp [h1, h2]
    have less : Same (hid bs H) (hid bs' H) := hid_less fun a ha => ((hs a).mp ha).1
    have nt' : NoTup bs' H := fun a ha => r.nt a ((hs a).mp ha).1
    have rp : Rep bs' H v t' A' := wk nt' (fun a ha => ((hs a).mp ha).1) fun a ha z => ((hs a).mp z).2 ha
    have env := q4 (cs := bs') (H' := H) (y := some v) (m := .is t') r.nt less (fun _ _ _ e => e) (.is rp)
    rw [set_same q1] at env
    have hm : ∀ a ∈ F1 ++ (A' ++ F2), a ∈ F1 ++ (A ++ F2) ∧ (a ∈ A → a ∈ A') := fun a ha => by
      rcases List.mem_append.mp ha with h | h
      · exact ⟨List.mem_append_left _ h, fun z => absurd rfl (p3 a h a (List.mem_append_left _ z))⟩
      · rcases List.mem_append.mp h with h | h
        · exact ⟨hA a (sA.subset h), fun _ => h⟩
        · exact ⟨List.mem_append_right _ (List.mem_append_right _ h), fun z => absurd rfl (p4 a z a h)⟩
    exact ⟨bs', F1 ++ (A' ++ F2), env, nodup_mid r.nd (ndA.sublist sA) (fun a ha => ⟨fun z => p3 a z a (List.mem_append_left _ (sA.subset ha)) rfl, fun z => p4 a (sA.subset ha) a z rfl⟩), fun a ha => (hs a).mpr ⟨r.sub a (hm a ha).1, (hm a ha).2⟩, fun a ha => r.off a (hm a ha).1, fun a ha => r.nb a (hm a ha).1, fun a ha => (hs a).mpr ⟨r.up a ha, fun z => absurd ha (r.nb a (hA a z))⟩, r.bb, r.offb, fun a ha => r.live a ((hs a).mp ha).1, nt', r.box, r.pin, r.vis.trans less⟩
end
section
variable {ts : TS} {ws : WS} {i : Nat}
def EW.wk (D : EW) (i : Nat) : EW := { D with nx := fun ε N => atIs ε[i]? fun t => ∃ t', Wk t t' ∧ D.nx (ε.set i (.is t')) N }
end
end Cg

set_option Elab.async false
set_option linter.all false
set_option maxRecDepth 100000
set_option maxHeartbeats 1000000
/-! EM: what repr tells of numbers may be compared with == -/
namespace Cg
open PySem PySem.Spec PyProof.Rows L2 Evl
theorem sok_iff {x : Str} : PyData.strOk x = true ↔ ∀ c ∈ x.cps.toList, c < 0x110000 := by
  show (x.cps.all fun c => decide (c < 0x110000)) = true ↔ _
  rw [← Array.all_toList, List.all_eq_true]
  exact ⟨fun h c hc => of_decide_eq_true (h c hc), fun h c hc => decide_eq_true (h c hc)⟩
theorem sok_app {a b : Str} (h : PyData.strOk a = true) (k : PyData.strOk b = true) : PyData.strOk (a ++ b) = true := by
  rw [sok_iff] at *
  intro c hc
  have hc : c ∈ (a.cps ++ b.cps).toList := hc
  rw [Array.toList_append] at hc
  exact (List.mem_append.mp hc).elim (h c) (k c)
theorem sok_str (s : String) : PyData.strOk (Str.ofString s) = true := by
  rw [sok_iff]
  intro c hc
  have hc : c ∈ (cpsOfBytes 0 0 s.toByteArray.data.toList) := hc
  rw [cpsOfBytes_string] at hc
  obtain ⟨z, _, rfl⟩ := List.mem_map.mp hc
  have := z.valid
  rcases this with h | h
  · show z.val.toNat < _; have : z.val.toNat < 55296 := h; omega
  · show z.val.toNat < _; exact h.2
theorem sok_from : ∀ {ts : List Str} {k : Nat} {acc : Str}, PyData.strOk acc = true → (∀ t ∈ ts, PyData.strOk t = true) → PyData.strOk (textFrom k acc ts) = true
  | [], _, _, h, _ => h
  | t :: ts, k, acc, h, ht => sok_from (ts := ts) (sok_app (sok_app h (sok_str _)) (ht t (List.mem_cons_self ..))) fun u hu => ht u (List.mem_cons_of_mem _ hu)
theorem sok_join {sep : Str} (hs : PyData.strOk sep = true) : ∀ {ts : List Str}, (∀ t ∈ ts, PyData.strOk t = true) → PyData.strOk (Str.join sep ts) = true
  | [], _ => sok_iff.mpr fun c hc => nomatch (show c ∈ ([] : List Nat) from hc)
  | [x], h => h x (List.mem_cons_self ..)
  | x :: y :: r, h => sok_app (sok_app (h x (List.mem_cons_self ..)) hs) (sok_join hs (ts := y :: r) fun u hu => h u (List.mem_cons_of_mem _ hu))
mutual
/-- numbers alone, to any depth -/
def numD : PyData → Bool
  | .none => true
  | .bool _ => true
  | .int _ => true
  | .str _ => false
  | .list xs => numAll xs
  | .tuple xs => numAll xs
  | .dict _ => false
def numAll : List PyData → Bool
  | [] => true
  | x :: xs => numD x && numAll xs
end
mutual
theorem shown_ok : ∀ {d : PyData}, numD d = true → PyData.strOk d.shown = true
  | .none, _ => sok_str _
  | .bool b, _ => by cases b <;> exact sok_str _
  | .int i, _ => sok_str _
  | .str _, h => nomatch h
  | .list xs, h => sok_app (sok_from (sok_str _) (shownAll_ok (xs := xs) h)) (sok_str _)
  | .tuple xs, h => sok_app (sok_app (sok_str _) (sok_join (sok_str _) (shownAll_ok (xs := xs) h))) (by split <;> exact sok_str _)
  | .dict _, h => nomatch h
theorem shownAll_ok : ∀ {xs : List PyData}, numAll xs = true → ∀ t ∈ PyData.shownAll xs, PyData.strOk t = true
  | [], _, _, ht => nomatch ht
  | x :: xs, h, t, ht => by
    have h : (numD x && numAll xs) = true := h
    rw [Bool.and_eq_true] at h
    have ht : t ∈ x.shown :: PyData.shownAll xs := ht
    rcases List.mem_cons.mp ht with rfl | ht
    · exact shown_ok h.1
    · exact shownAll_ok h.2 t ht
end
end Cg

set_option Elab.async false
set_option linter.all false
set_option maxRecDepth 100000
set_option maxHeartbeats 1000000
/-! EN: a dict of defs at the module's top: word not in D; check = D[word]; return check(x) -/
namespace Cg
open PySem PySem.Spec PyProof.Rows L2 Evl
/-- at D: a dict of texts to functions, written at the top -/
structure TabF (K : PySem.W.Frag) (w : World) (D : Addr) (fs : List (Str × Addr)) : Prop where
  kd : ∃ es n, KDict K w D es n
  hit : ∀ q ∈ fs, PySem.W.nsIn K D q.1 = some (some (.ref q.2))
  miss : ∀ z, z ∉ fs.map (·.1) → PySem.W.nsIn K D z = some none
section
variable {X : Cx} {K : PySem.W.Frag} {w0 : World} {D : Addr} {fs : List (Str × Addr)}
theorem TabF.at (T : TabF K w0 D fs) {z : Str} {a : Addr} (h : (z, a) ∈ fs) : KDct K w0 D z (.ref a) := by
  obtain ⟨es, n, KD⟩ := T.kd
  exact ⟨es, n, .ref a, KD.at_, KD.lit, T.hit _ h, rfl⟩
end
section
variable {K : PySem.W.Frag} {w0 : World} {D : Addr} {fs : List (Str × Addr)} {te : TE} {we : WE} {ta : TA} {wa : WA}
end
end Cg
namespace Cg
open PySem PySem.Spec PyProof.Rows L2 Evl
end Cg

set_option Elab.async false
set_option linter.all false
set_option maxRecDepth 100000
set_option maxHeartbeats 4000000
/-! EO: sorted(x) of ints, x a list or a tuple -/
namespace SrtO
open PySem PySem.Spec PySem.W PyProof.Rows PyProof Builtin Builtin.List
variable {prog : Program} {w : World} {A : Around} {E : Value → Shared → Prop} {s : Shared}
end SrtO
namespace Cg
open PySem PySem.Spec PyProof.Rows L2 Evl
section
variable {X : Cx}
end
end Cg
namespace Cg
open PySem PySem.Spec PyProof.Rows L2 Evl
/-! a op b, where a is a call that may raise -/
section
variable {W : L2.WX} {ta tb : TE} {wb : WX} {ε : Env} {N : Nat} {R : T → Env → Nat → Prop} {RE : PyData → Env → Nat → Prop}
end
end Cg
namespace Cg
open PySem PySem.Spec PyProof.Rows L2 Evl
/-! x[a:b] of a tuple, not whole -/
section
variable {te : TE} {we : WE}
end
end Cg
namespace Cg
open PySem PySem.Spec PyProof.Rows L2 Evl
/-! len(set(x)), x a tuple of ints -/
section
variable {X : Cx} {ta te : TE} {we : WE}
end
/-! ### xs.index(b), a list of bools -/
section
open PySem PySem.Spec PyProof.Rows L2 Evl Cg
end
end Cg

set_option Elab.async false
set_option linter.all false
set_option maxRecDepth 100000
set_option maxHeartbeats 4000000
/-! tuples: slices of any kind, t + u of any, t[::-1] -/
namespace Cg
open PySem PySem.Spec PyProof.Rows L2 Evl
section
variable {te ta tb : TE} {we : WE}
end
/-! t[::-1] -/
section
open HT
variable {prog : Program} {w : World} {A : Around} {E : Value → Shared → Prop} {s : Shared}
end
section
variable {X : Cx} {te : TE} {we : WE}
end
/-! x in a list or tuple of texts -/
section
open PySem PySem.Spec PyProof.Rows L2 Evl
end
/-! truths as numbers: b + i, b - i, str of a number or a truth -/
section
open PySem PySem.Spec PyProof.Rows L2 Evl
variable {X : Cx}
end
end Cg

set_option Elab.async false
set_option linter.all false
set_option maxRecDepth 100000
set_option maxHeartbeats 1000000
/-! ### a small end: the top run in the kernel, what it leaves looked at by a test of one's own -/
namespace Cg
open PySem PySem.Spec PyProof.Rows L2 Evl
section
variable {fn : List He.DefD} {K : PySem.W.Frag} {B : List (PySem.W.Frag → Bool)}
end
end Cg

set_option Elab.async false
set_option linter.all false
set_option maxRecDepth 100000
set_option maxHeartbeats 1000000
/-! EQ: a record that grows; a comprehension over pairs whose element changes slots -/
namespace L2
open PySem PySem.Spec PyProof.Rows
section
variable {X : Cx}
end
end L2
namespace Cg
open PySem PySem.Spec PyProof.Rows L2 Evl
section
variable {c : Base} {b bs cs F A B : List Addr} {σ τ : L2.St} {H H1 H2 H' : Hp} {ε δ : Env} {N N1 N2 N' : Nat} {u v : V} {t s : T} {d : PyData} {i : Nat} {K : PySem.W.Frag} {tp te : TE} {wp : WP} {wt : WT}
end
end Cg
namespace Cg
open PySem PySem.Spec PyProof.Rows L2 Evl
section
variable {K : PySem.W.Frag} {c : Base} {bs F : List Addr} {σ τ : L2.St} {H : Hp} {ε δ : Env} {N : Nat} {te : TE} {wx : WX} {Q : VK}
end
end Cg
namespace Cg
open PySem PySem.Spec PyProof.Rows L2 Evl
section
variable {K : PySem.W.Frag} {te : TE} {wx : WX} {i : Nat} {ns ns2 ns3 : List Str}
end
end Cg
namespace Cg
open PySem PySem.Spec PyProof.Rows L2 Evl
/-! what is shared, read at a place within what is its own: no view of the whole -/
section
variable {K : PySem.W.Frag} {tp : TE} {wp : WP} {i : Nat} {tl th : TO} {wl wh : WO}
end
end Cg
namespace Cg
open PySem PySem.Spec PyProof.Rows L2 Evl
/-! p.insert(0, (e, x)), x a name of what is its own, moved in -/
section
variable {K : PySem.W.Frag} {tp te : TE} {wp : WP} {we : WE} {i j : Nat}
end
end Cg

set_option Elab.async false
set_option linter.all false
set_option maxRecDepth 100000
set_option maxHeartbeats 1000000
/-! ER: calls of defs by keywords, told as data -/
namespace Cg
open PySem PySem.Spec PyProof.Rows L2 Evl
section
variable {c : Base} {bs F : List Addr} {σ : L2.St} {H : Hp} {ε : Env} {N : Nat} {tas tks : TA} {was wks : WA}
end
section
variable {X : Cx} {CX : CXT} {k : Nat} {f : Addr} {fd : FuncData} {ps ks : List Str} {sp : Sp} {n : Nat} {x : Str} {p pos : Pos} {e : Expr} {es : List Expr} {kws : List (Option Str × Expr)} {t tk : TA}
end
/-- a def that has parameters told by keyword alone -/
structure DfK (P : Program) (w : World) (K : PySem.W.Frag) (mg : Str → Option Value) (base : Heap) (k : Nat) (x : Str) (st : Stmt) (ps : List Str) (f : Addr) (fd : FuncData) (sp : Sp) : Prop where
  F : Fun K x x st f fd
  g : mg x = some (.ref f)
  G : FnOk P w K mg base CX0 k f fd ps sp
structure DfKE (P : Program) (w : World) (K : PySem.W.Frag) (mg : Str → Option Value) (base : Heap) (k : Nat) (x : Str) (st : Stmt) (ps : List Str) (f : Addr) (fd : FuncData) (sp : Sp) : Prop where
  F : Fun K x x st f fd
  g : mg x = some (.ref f)
  G : FnOk P w K mg base (L2.CX P w) k f fd ps sp
end Cg

set_option Elab.async false
set_option linter.all false
set_option maxRecDepth 100000
set_option maxHeartbeats 1000000
namespace Cg
open PySem PySem.Spec PyProof.Rows L2 Evl
/-! ### p.pop(): the last one of a list at a place -/
section
variable {c : Base} {bs F : List Addr} {i : Nat} {tp : TE} {wp : WP} {K : PySem.W.Frag}
end
end Cg

set_option Elab.async false
set_option linter.all false
set_option maxRecDepth 100000
set_option maxHeartbeats 1000000
namespace Cg
open PySem PySem.Spec PyProof.Rows L2 Evl
/-! ### sorted(xs, key=str), xs lists or tuples of data: what stands in what is told stood there -/
section
variable {K : PySem.W.Frag} {te : TE} {we : WE} {ε : Env} {N : Nat} {R : PyData → Nat → Prop}
end
end Cg

set_option Elab.async false
set_option linter.all false
set_option maxRecDepth 100000
set_option maxHeartbeats 1000000
namespace Cg
open PySem PySem.Spec PyProof.Rows L2 Evl
section
variable {c : Base} {b bs cs F A B : List Addr} {σ τ : L2.St} {H H1 H2 H' : Hp} {ε δ : Env} {N N1 N2 N' : Nat} {u v : V} {t s : T} {d : PyData} {i : Nat} {K : PySem.W.Frag} {tp te tk : TE} {wp : WP} {wt : WT} {wk : WE}
end
end Cg

set_option Elab.async false
set_option linter.all false
set_option maxRecDepth 100000
set_option maxHeartbeats 1000000
namespace Cg
open PySem PySem.Spec PyProof.Rows L2 Evl
section
variable {c : Base} {b bs cs F A B : List Addr} {σ τ : L2.St} {H H1 H2 H' : Hp} {ε δ : Env} {N N1 N2 N' : Nat} {u v : V} {t s : T} {d : PyData} {i : Nat} {K : PySem.W.Frag} {tp te tk : TE} {wp : WP} {wt : WT} {wk : WE}
end
section
variable {c : Base} {b bs cs F A B : List Addr} {σ τ : L2.St} {H H1 H2 H' : Hp} {ε δ : Env} {N N1 N2 N' : Nat} {u v : V} {t s : T} {d : PyData} {i : Nat} {K : PySem.W.Frag} {tp te ta tc : TE} {wp : WP} {wt : WT} {wa wc : WE}
end
end Cg

set_option Elab.async false
set_option linter.all false
set_option maxRecDepth 100000
set_option maxHeartbeats 1000000
namespace Cg
open PySem PySem.Spec PyProof.Rows L2 Evl
/-! ### dicts of ints, or of pairs of ints, to things -/
section
variable {α κ : Type} [DecidableEq α] [DecidableEq κ] {f : α → κ} {x : α} {v : V}
end
section
variable {hs bs : List Addr} {H : Hp} {a : Addr} {ks : DKs} {vs : List V} {v x : V} {d : PyData} {r : Option Nat} {k : Nat}
end
section
variable {K : PySem.W.Frag} {i : Nat} {tp te tk tx : TE} {wp : WP} {we wk wx : WE} {wt : WT}
end
section
variable {K : PySem.W.Frag} {c : Base} {bs F : List Addr} {σ τ : L2.St} {H : Hp} {ε δ : Env} {N : Nat} {te : TE} {wx : WX} {Q : VK}
end
end Cg

set_option Elab.async false
set_option linter.all false
set_option maxRecDepth 100000
set_option maxHeartbeats 1000000
namespace Cg
open PySem PySem.Spec PyProof.Rows L2 Evl
/-! ### own things lent, the other names kept -/
section
variable {c : Base} {b bs cs F A B : List Addr} {σ τ : L2.St} {H H1 H2 H' : Hp} {ε δ : Env} {N N1 N2 N' : Nat} {u v : V} {t s : T} {d : PyData} {i : Nat}
end
section
variable {te : TE} {wx : WX} {i : Nat}
section
variable {c c' : Base} {bs hs F A : List Addr} {σ τ : L2.St} {H : Hp} {ε δ δ' : Env} {N : Nat} {i : Nat}
end
section
variable {bs : List Addr} {H : Hp}
mutual
theorem Rep.fn : ∀ {v : V} {t : T} {A A' : List Addr}, Rep bs H v t A → Rep bs H v t A' → A = A'
  | _, _, _, _, .sh _, .sh _ => rfl
  | _, _, _, _, .shr _, .shr _ => rfl
  | _, _, _, _, .lst e h, .lst e' h' => by rw [e] at e'; cases e'; rw [RepL.fn h h']
  | _, _, _, _, .lsa e h, .lsa e' h' => by rw [e] at e'; cases e'; rw [RepL.fn h h']
  | _, _, _, _, .tup e h, .tup e' h' => by rw [e] at e'; cases e'; rw [RepL.fn h h']
  | _, _, _, _, .tpa e h, .tpa e' h' => by rw [e] at e'; cases e'; rw [RepL.fn h h']
  | _, _, _, _, .dic _, .dic _ => rfl
  | _, _, _, _, .ins e e2 l h, .ins e' e2' l' h' => by
    rw [e] at e'
    injection e' with e'
    injection e' with q1 q2 q3
    obtain ⟨_, q4⟩ := zip_inj l l' q3
    subst q2 q4
    rw [RepL.fn h h']
  | _, _, _, _, .rc e l h, .rc e' l' h' => by
    rw [e] at e'
    injection e' with e'
    injection e' with q
    have q4 := (kz_inj l l' q).2
    subst q4
    rw [RepL.fn h h']
  | _, _, _, _, .dct e l _ h, .dct e' l' _ h' => by
    rw [e] at e'
    have q4 := ob_inj l l' (Option.some.inj e')
    subst q4
    rw [RepL.fn h h']
theorem RepL.fn : ∀ {vs : List V} {ts : List T} {A A' : List Addr}, RepL bs H vs ts A → RepL bs H vs ts A' → A = A'
  | _, _, _, _, .nil, .nil => rfl
  | _, _, _, _, .cons h k, .cons h' k' => by rw [Rep.fn h h', RepL.fn k k']
end
end
section
variable {te : TE} {wx : WX} {i : Nat}
end
end
section
variable {c : Base} {bs F : List Addr} {σ : L2.St} {H : Hp} {ε : Env} {N : Nat} {tp : TE} {wp : WP} {i j l : Nat} {K : PySem.W.Frag}
end
end Cg

set_option Elab.async false
set_option linter.all false
set_option maxRecDepth 100000
set_option maxHeartbeats 1000000
namespace Cg
open PySem PySem.Spec PyProof.Rows L2 Evl
/-! ### a name that is another name or its own -/
section
variable {te tk : TE} {we wk : WE} {wt : WT} {wb : WB} {i j : Nat}
end
/-! a statement during which what is its own is shared -/
def EW.blk (D : EW) (k : Env → Nat → Prop) : EW := ⟨k, D.rt, fun _ _ => False, fun _ _ => False, fun _ _ _ => False, fun _ _ _ => False, D.w⟩
section
variable {D : EW} {k : Env → Nat → Prop}
end
section
variable {b bs cs : List Addr} {H H' : Hp}
end
section
variable {c : Base} {bs F : List Addr} {σ : L2.St} {H : Hp} {ε : Env} {N : Nat} {ts : TS} {ws : WS}
end
/-! an element of a tuple with a name, as a place -/
section
variable {ε : Env} {N : Nat} {tp tk : TE} {wp : WP} {wk : WE} {i : Nat}
end
end Cg

set_option Elab.async false
set_option linter.all false
set_option maxRecDepth 100000
set_option maxHeartbeats 1000000
namespace K11
open PySem PySem.Spec PyProof.Rows L2 Evl Cg
def topS (i : Nat) : Stmt := PySem.Challenge.pw_crossgrants_k11_known_pairs.main.body.getD i (.Pass ⟨0, 0, 0, 0⟩)
section
variable {P : Program} {w : World} {K : PySem.W.Frag} {mg : Str → Option Value} {base : Heap}
abbrev st_is_number : Stmt := topS 1
theorem sc_is_number : FnScope ["thing"] ["thing"] (defScope st_is_number) := ⟨rfl, rfl, rfl, by decide +kernel, rfl, by decide +kernel, by decide +kernel⟩
def w_is_number : WF := wFn false 1 0 (wRet (wSh (wAndV (wIs isInt (wVar 0)) (wNotV (wIs isBool (wVar 0))))))
theorem w_is_number_len {ds : List PyData} {N : Nat} {R : T → Nat → Prop} (h : w_is_number ds N R) : ds.length = 1 := h.1
theorem ok_is_number {f : Addr} {fd : FuncData} (F : Fun K "is_number" "is_number" st_is_number f fd) (B : Bm mg)  : FnOk P w K mg base CX0 1 f fd ["thing"] (spW false 1 w_is_number) := by
  refine F.ok sc_is_number (fun vs H Q E h => spW_len h) (fun cdv A outer s H vs Q E hr h => ?_)
  refine ⟨_, (pss_one (ps_ret (pe_and (pe_callB (isiK K) (by rfl) B.isinstance (by decide +kernel) (pa_cons (pv 0) (pa_cons (pe_bltn (v := .ty "int") (by rfl) B.int (by decide +kernel) rfl) pa_nil))) (pe_one (pe_not (pe_callB (isiK K) (by rfl) B.isinstance (by decide +kernel) (pa_cons (pv 0) (pa_cons (pe_bltn (v := .ty "bool") (by rfl) B.bool (by decide +kernel) rfl) pa_nil)))))))), ?_⟩
  exact run_w (k := 0) ((sim_ret (sim_sh (sim_andV (sim_isi kit_int sim_var) (sim_notV (sim_isi kit_bool sim_var)))))) rfl h
abbrev st_is_between : Stmt := topS 2
theorem sc_is_between : FnScope ["thing", "least", "most"] ["thing", "least", "most"] (defScope st_is_between) := ⟨rfl, rfl, rfl, by decide +kernel, rfl, by decide +kernel, by decide +kernel⟩
def w_is_between : WF := wFn false 3 0 (wRet (wSh (wAndV (wCall w_is_number (wCons (wVar 0) wNil)) (wChain oLe oLe (wVar 1) (wVar 0) (wVar 2)))))
theorem w_is_between_len {ds : List PyData} {N : Nat} {R : T → Nat → Prop} (h : w_is_between ds N R) : ds.length = 3 := h.1
theorem ok_is_between {f : Addr} {fd : FuncData} (F : Fun K "is_between" "is_between" st_is_between f fd) (B : Bm mg) {f_is_number : Addr} {fd_is_number : FuncData} (d_is_number : Df P w K mg base 1 "is_number" st_is_number ["thing"] f_is_number fd_is_number (spW false 1 w_is_number)) : FnOk P w K mg base CX0 2 f fd ["thing", "least", "most"] (spW false 3 w_is_between) := by
  refine F.ok sc_is_between (fun vs H Q E h => spW_len h) (fun cdv A outer s H vs Q E hr h => ?_)
  refine ⟨_, (pss_one (ps_ret (pe_and (pe_call d_is_number.G (hr.mono (by omega)) (by rfl) d_is_number.g d_is_number.F.kp d_is_number.b .nil pass0 (pa_cons (pv 0) pa_nil)) (pe_one (pe_chain op_le op_le (pv 1) (pv 0) (pv 2)))))), ?_⟩
  exact run_w (k := 0) ((sim_ret (sim_sh (sim_andV (sim_call w_is_number_len (sim_cons sim_var sim_nil)) (sim_chain od_le od_le sim_var sim_var sim_var))))) rfl h
abbrev st_is_place : Stmt := topS 3
theorem sc_is_place : FnScope ["thing", "many"] ["thing", "many"] (defScope st_is_place) := ⟨rfl, rfl, rfl, by decide +kernel, rfl, by decide +kernel, by decide +kernel⟩
def w_is_place : WF := wFn false 2 0 (wRet (wSh (wCall w_is_between (wCons (wVar 0) (wCons (wC (.int 0)) (wCons (wOp oSub (wVar 1) (wC (.int 1))) wNil))))))
theorem w_is_place_len {ds : List PyData} {N : Nat} {R : T → Nat → Prop} (h : w_is_place ds N R) : ds.length = 2 := h.1
theorem ok_is_place {f : Addr} {fd : FuncData} (F : Fun K "is_place" "is_place" st_is_place f fd) (B : Bm mg) {f_is_between : Addr} {fd_is_between : FuncData} (d_is_between : Df P w K mg base 2 "is_between" st_is_between ["thing", "least", "most"] f_is_between fd_is_between (spW false 3 w_is_between)) : FnOk P w K mg base CX0 3 f fd ["thing", "many"] (spW false 2 w_is_place) := by
  refine F.ok sc_is_place (fun vs H Q E h => spW_len h) (fun cdv A outer s H vs Q E hr h => ?_)
  refine ⟨_, (pss_one (ps_ret (pe_call d_is_between.G (hr.mono (by omega)) (by rfl) d_is_between.g d_is_between.F.kp d_is_between.b .nil pass0 (pa_cons (pv 0) (pa_cons pe_int (pa_cons (pe_op op_sub (pv 1) pe_int) pa_nil)))))), ?_⟩
  exact run_w (k := 0) ((sim_ret (sim_sh (sim_call w_is_between_len (sim_cons sim_var (sim_cons sim_int (sim_cons (sim_op od_sub sim_var sim_int) sim_nil))))))) rfl h
abbrev st_is_rising : Stmt := topS 4
theorem sc_is_rising : FnScope ["numbers", "one", "following"] ["numbers"] (defScope st_is_rising) := ⟨rfl, rfl, rfl, by decide +kernel, rfl, by decide +kernel, by decide +kernel⟩
def w_is_rising : WF := wFn false 1 2 (wRet (wSh (wCb oAll (wCons (wLc (wZip (wVar 0) (wSl (wVar 0) (wPart (wC (.int 1))) wNoPart)) (wGTup 2 (wGCons (wName 1) (wGCons (wName 2) wGNil))) wYes (wOp oLt (wVar 1) (wVar 2)) [1, 2]) wNil))))
theorem w_is_rising_len {ds : List PyData} {N : Nat} {R : T → Nat → Prop} (h : w_is_rising ds N R) : ds.length = 1 := h.1
theorem ok_is_rising {f : Addr} {fd : FuncData} (F : Fun K "is_rising" "is_rising" st_is_rising f fd) (B : Bm mg)  : FnOk P w K mg base CX0 1 f fd ["numbers"] (spW false 1 w_is_rising) := by
  refine F.ok sc_is_rising (fun vs H Q E h => spW_len h) (fun cdv A outer s H vs Q E hr h => ?_)
  refine ⟨_, (pss_one (ps_ret (pe_callB (allK K) (by rfl) B.all (by decide +kernel) (pa_cons (pe_lc (own := [("one", 1), ("following", 2)]) rfl sc_is_rising.nd (pi_zipS K (by rfl) B.zip (pa_cons (pv 0) (pa_cons (pe_slice (slLK K) (pv 0) (po_some pe_int) po_none) pa_nil))) (blkOk_by (own := [("one", 1), ("following", 2)]) (by kernel_rfl)) (fun _ _ _ _ _ => (pg_tupK K (n := 2) rfl (pgs_cons (pg_name (i := 1) sc_is_rising.nd rfl (.inl rfl)) (pgs_cons (pg_name (i := 2) sc_is_rising.nd rfl (.inl rfl)) pgs_nil)))) (fun _ _ _ _ _ => pts_nil) (fun _ _ _ _ _ => (pe_cmpR op_lt (pv 1) (pv 2) (nomark _)))) pa_nil)))), ?_⟩
  exact run_w (k := 2) ((sim_ret (sim_sh (sim_cb cb_all (sim_cons (sim_lc (sim_zip sim_var (sim_sl sim_var (sim_part sim_int) sim_noPart)) (sim_gtup (sim_gcons (sim_name (vs := [1, 2]) (by decide)) (sim_gcons (sim_name (vs := [1, 2]) (by decide)) sim_gnil))) sim_yes (sim_op od_lt sim_var sim_var)) sim_nil))))) rfl h
abbrev st_outlets_in : Stmt := topS 6
theorem sc_outlets_in : FnScope ["table"] ["table"] (defScope st_outlets_in) := ⟨rfl, rfl, rfl, by decide +kernel, rfl, by decide +kernel, by decide +kernel⟩
def w_outlets_in : WF := wFn false 1 0 (wRet (wSh (wIf (wTru (wVar 0)) (wCb oLen (wCons (wOp oIx (wVar 0) (wC (.int 0))) wNil)) (wC (.int 0)))))
theorem w_outlets_in_len {ds : List PyData} {N : Nat} {R : T → Nat → Prop} (h : w_outlets_in ds N R) : ds.length = 1 := h.1
theorem ok_outlets_in {f : Addr} {fd : FuncData} (F : Fun K "outlets_in" "outlets_in" st_outlets_in f fd) (B : Bm mg)  : FnOk P w K mg base CX0 1 f fd ["table"] (spW false 1 w_outlets_in) := by
  refine F.ok sc_outlets_in (fun vs H Q E h => spW_len h) (fun cdv A outer s H vs Q E hr h => ?_)
  refine ⟨_, (pss_one (ps_ret (pe_ifExp (pt_truthK K (pv 0) (by intro _; rfl)) (pe_callB (lenK K) (by rfl) B.len (by decide +kernel) (pa_cons (pe_ix (ixSK K) (pv 0) pe_int (fun _ _ => rfl)) pa_nil)) pe_int))), ?_⟩
  exact run_w (k := 0) ((sim_ret (sim_sh (sim_if (sim_tru sim_var) (sim_cb cb_len (sim_cons (sim_op od_ix sim_var sim_int) sim_nil)) sim_int)))) rfl h
abbrev st_asks_of : Stmt := topS 7
theorem sc_asks_of : FnScope ["table", "inlet", "row", "outlet", "mark"] ["table"] (defScope st_asks_of) := ⟨rfl, rfl, rfl, by decide +kernel, rfl, by decide +kernel, by decide +kernel⟩
def w_asks_of : WF := wFn false 1 4 (wRet (wLcT2 (wEnum (wVar 0)) (wGTup 2 (wGCons (wName 1) (wGCons (wName 2) wGNil))) wYes (wEnum (wVar 2)) (wGTup 2 (wGCons (wName 3) (wGCons (wName 4) wGNil))) (wTest (wOp oEq (wVar 4) (wC (.int 1)))) (wTup (wCons (wVar 1) (wCons (wVar 3) wNil))) [1, 2, 3, 4] [3, 4]))
theorem w_asks_of_len {ds : List PyData} {N : Nat} {R : T → Nat → Prop} (h : w_asks_of ds N R) : ds.length = 1 := h.1
theorem ok_asks_of {f : Addr} {fd : FuncData} (F : Fun K "asks_of" "asks_of" st_asks_of f fd) (B : Bm mg)  : FnOk P w K mg base CX0 1 f fd ["table"] (spW false 1 w_asks_of) := by
  refine F.ok sc_asks_of (fun vs H Q E h => spW_len h) (fun cdv A outer s H vs Q E hr h => ?_)
  refine ⟨_, (pss_one (ps_ret (pe_lc2 (own := [("inlet", 1), ("row", 2), ("outlet", 3), ("mark", 4)]) (vs1 := [3, 4]) rfl sc_asks_of.nd (pi_enumS K (by rfl) B.enumerate (pa_cons (pv 0) pa_nil)) (blkOk_by (own := [("inlet", 1), ("row", 2), ("outlet", 3), ("mark", 4)]) (by kernel_rfl)) (by decide) (fun _ _ _ _ _ => (pg_tupK K (n := 2) rfl (pgs_cons (pg_name (i := 1) sc_asks_of.nd rfl (.inl rfl)) (pgs_cons (pg_name (i := 2) sc_asks_of.nd rfl (.inl rfl)) pgs_nil)))) (fun _ _ _ _ _ => pts_nil) (fun _ _ _ _ _ => (pi_enumS K (by rfl) B.enumerate (pa_cons (pv 2) pa_nil))) (fun _ _ _ _ _ => (pg_tupK K (n := 2) rfl (pgs_cons (pg_name (i := 3) sc_asks_of.nd rfl (.inl rfl)) (pgs_cons (pg_name (i := 4) sc_asks_of.nd rfl (.inl rfl)) pgs_nil)))) (fun _ _ _ _ _ => (pts_one (pt_cmpR (op_eqU K hr.units) (pv 4) pe_int (nomark _)))) (fun _ _ _ _ _ => (pe_tup (pa_cons (pv 1) (pa_cons (pv 3) pa_nil))))))), ?_⟩
  exact run_w (k := 4) ((sim_ret (sim_lcT2 (sim_enum sim_var) (sim_gtup (sim_gcons (sim_name (vs := [1, 2, 3, 4]) (by decide)) (sim_gcons (sim_name (vs := [1, 2, 3, 4]) (by decide)) sim_gnil))) sim_yes (sim_enum sim_var) (sim_gtup (sim_gcons (sim_name (vs := [3, 4]) (by decide)) (sim_gcons (sim_name (vs := [3, 4]) (by decide)) sim_gnil))) (sim_test (sim_op od_eq sim_var sim_int)) (sim_tup (sim_cons sim_var (sim_cons sim_var sim_nil)))))) rfl h
abbrev st_left_out : Stmt := topS 8
theorem sc_left_out : FnScope ["table", "inlets", "outlets", "inlet", "row", "outlet", "mark"] ["table", "inlets", "outlets"] (defScope st_left_out) := ⟨rfl, rfl, rfl, by decide +kernel, rfl, by decide +kernel, by decide +kernel⟩
def w_left_out : WF := wFn false 3 4 (wRet (wLcT (wEnum (wVar 0)) (wGTup 2 (wGCons (wName 3) (wGCons (wName 4) wGNil))) wYes (wLcT (wEnum (wVar 4)) (wGTup 2 (wGCons (wName 5) (wGCons (wName 6) wGNil))) wYes (wSh (wIf (wOr (wTest (wOp (oIn false) (wVar 3) (wVar 1))) (wTest (wOp (oIn false) (wVar 5) (wVar 2)))) (wC (.int 0)) (wVar 6))) [5, 6]) [3, 4]))
theorem w_left_out_len {ds : List PyData} {N : Nat} {R : T → Nat → Prop} (h : w_left_out ds N R) : ds.length = 3 := h.1
theorem ok_left_out {f : Addr} {fd : FuncData} (F : Fun K "left_out" "left_out" st_left_out f fd) (B : Bm mg)  : FnOk P w K mg base CX0 1 f fd ["table", "inlets", "outlets"] (spW false 3 w_left_out) := by
  refine F.ok sc_left_out (fun vs H Q E h => spW_len h) (fun cdv A outer s H vs Q E hr h => ?_)
  refine ⟨_, (pss_one (ps_ret (pe_lc (own := [("inlet", 3), ("row", 4)]) rfl sc_left_out.nd (pi_enumS K (by rfl) B.enumerate (pa_cons (pv 0) pa_nil)) (blkOk_by (own := [("inlet", 3), ("row", 4)]) (by kernel_rfl)) (fun _ _ _ _ _ => (pg_tupK K (n := 2) rfl (pgs_cons (pg_name (i := 3) sc_left_out.nd rfl (by first | exact Or.inl rfl | exact Or.inr rfl)) (pgs_cons (pg_name (i := 4) sc_left_out.nd rfl (by first | exact Or.inl rfl | exact Or.inr rfl)) pgs_nil)))) (fun _ _ _ _ _ => pts_nil) (fun _ _ _ _ _ => (pe_lc (own := [("outlet", 5), ("mark", 6)]) rfl sc_left_out.nd (pi_enumS K (by rfl) B.enumerate (pa_cons (pv 4) pa_nil)) (blkOk_by (own := [("outlet", 5), ("mark", 6)]) (by kernel_rfl)) (fun _ _ _ _ _ => (pg_tupK K (n := 2) rfl (pgs_cons (pg_name (i := 5) sc_left_out.nd rfl (.inl rfl)) (pgs_cons (pg_name (i := 6) sc_left_out.nd rfl (.inl rfl)) pgs_nil)))) (fun _ _ _ _ _ => pts_nil) (fun _ _ _ _ _ => (pe_ifExp (PW.pt (pw_or (pt_cmpR (inK K) (pv 3) (pv 1) (by with_unfolding_all rfl)) (pw_or1 (pt_cmpR (inK K) (pv 5) (pv 2) (by with_unfolding_all rfl))))) pe_int (pv 6)))))))), ?_⟩
  exact run_w (k := 4) ((sim_ret (sim_lcT (sim_enum sim_var) (sim_gtup (sim_gcons (sim_name (vs := [3, 4]) (by decide)) (sim_gcons (sim_name (vs := [3, 4]) (by decide)) sim_gnil))) sim_yes (sim_lcT (sim_enum sim_var) (sim_gtup (sim_gcons (sim_name (vs := [5, 6]) (by decide)) (sim_gcons (sim_name (vs := [5, 6]) (by decide)) sim_gnil))) sim_yes (sim_sh (sim_if (sim_or (sim_test (sim_op od_in sim_var sim_var)) (sim_test (sim_op od_in sim_var sim_var))) sim_int sim_var)))))) rfl h
abbrev st_is_ask : Stmt := topS 10
theorem sc_is_ask : FnScope ["table", "thing", "inlet", "outlet"] ["table", "thing"] (defScope st_is_ask) := ⟨rfl, rfl, rfl, by decide +kernel, rfl, by decide +kernel, by decide +kernel⟩
def w_is_ask : WF := wFn false 2 2 (wSeq (wIfS (wOr (wNot (wTest (wIs isTuple (wVar 1)))) (wTest (wOp oNe (wCb oLen (wCons (wVar 1) wNil)) (wC (.int 2)))))
 (wRet (wSh (wC (.bool false))))
 wSkip)
 (wSeq (wAsg (wVar 1) (wGTup 2 (wGCons (wName 2) (wGCons (wName 3) wGNil))))
 (wRet (wSh (wAndV (wCall w_is_place (wCons (wVar 2) (wCons (wCb oLen (wCons (wVar 0) wNil)) wNil))) (wAndV (wCall w_is_place (wCons (wVar 3) (wCons (wCall w_outlets_in (wCons (wVar 0) wNil)) wNil))) (wOp oEq (wOp oIx (wOp oIx (wVar 0) (wVar 2)) (wVar 3)) (wC (.int 1)))))))))
theorem w_is_ask_len {ds : List PyData} {N : Nat} {R : T → Nat → Prop} (h : w_is_ask ds N R) : ds.length = 2 := h.1
theorem ok_is_ask {f : Addr} {fd : FuncData} (F : Fun K "is_ask" "is_ask" st_is_ask f fd) (B : Bm mg) {f_is_place : Addr} {fd_is_place : FuncData} (d_is_place : Df P w K mg base 3 "is_place" st_is_place ["thing", "many"] f_is_place fd_is_place (spW false 2 w_is_place)) {f_outlets_in : Addr} {fd_outlets_in : FuncData} (d_outlets_in : Df P w K mg base 1 "outlets_in" st_outlets_in ["table"] f_outlets_in fd_outlets_in (spW false 1 w_outlets_in)) : FnOk P w K mg base CX0 4 f fd ["table", "thing"] (spW false 2 w_is_ask) := by
  refine F.ok sc_is_ask (fun vs H Q E h => spW_len h) (fun cdv A outer s H vs Q E hr h => ?_)
  refine ⟨_, (pss_cons (ps_if (PW.pt (pw_or (pt_not (pt_val (pe_callB (isiK K) (by rfl) B.isinstance (by decide +kernel) (pa_cons (pv 1) (pa_cons (pe_bltn (v := .ty "tuple") (by rfl) B.tuple (by decide +kernel) rfl) pa_nil))))) (pw_or1 (pt_cmpR (op_neU K hr.units) (pe_callB (lenK K) (by rfl) B.len (by decide +kernel) (pa_cons (pv 1) pa_nil)) pe_int (nomark _)))))
 (pss_one (ps_ret pe_bl))
 pss_nil)
 (pss_cons (ps_asg (pv 1) (pg_tupK K (n := 2) rfl (pgs_cons (pg_name (i := 2) sc_is_ask.nd rfl (.inl rfl)) (pgs_cons (pg_name (i := 3) sc_is_ask.nd rfl (.inl rfl)) pgs_nil))))
 (pss_one (ps_ret (pe_and (pe_call d_is_place.G (hr.mono (by omega)) (by rfl) d_is_place.g d_is_place.F.kp d_is_place.b .nil pass0 (pa_cons (pv 2) (pa_cons (pe_callB (lenK K) (by rfl) B.len (by decide +kernel) (pa_cons (pv 0) pa_nil)) pa_nil))) (pe_and (pe_call d_is_place.G (hr.mono (by omega)) (by rfl) d_is_place.g d_is_place.F.kp d_is_place.b .nil pass0 (pa_cons (pv 3) (pa_cons (pe_call d_outlets_in.G (hr.mono (by omega)) (by rfl) d_outlets_in.g d_outlets_in.F.kp d_outlets_in.b .nil pass0 (pa_cons (pv 0) pa_nil)) pa_nil))) (pe_one (pe_cmpR (op_eqU K hr.units) (pe_ix (ixSK K) (pe_ix (ixSK K) (pv 0) (pv 2) (fun _ _ => rfl)) (pv 3) (fun _ _ => rfl)) pe_int (nomark _))))))))), ?_⟩
  exact run_w (k := 2) ((sim_seq (sim_ifS (sim_or (sim_not (sim_tB (sim_isi kit_tuple sim_var))) (sim_test (sim_op od_ne (sim_cb cb_len (sim_cons sim_var sim_nil)) sim_int)))
 (sim_ret (sim_sh sim_bl))
 sim_skip)
 (sim_seq (sim_asg sim_var (sim_gtup (sim_gcons (sim_name (vs := [2, 3]) (by decide)) (sim_gcons (sim_name (vs := [2, 3]) (by decide)) sim_gnil))))
 (sim_ret (sim_sh (sim_andV (sim_call w_is_place_len (sim_cons sim_var (sim_cons (sim_cb cb_len (sim_cons sim_var sim_nil)) sim_nil))) (sim_andV (sim_call w_is_place_len (sim_cons sim_var (sim_cons (sim_call w_outlets_in_len (sim_cons sim_var sim_nil)) sim_nil))) (sim_op od_eq (sim_op od_ix (sim_op od_ix sim_var sim_var) sim_var) sim_int)))))))) rfl h
abbrev st_inlets_of : Stmt := topS 12
theorem sc_inlets_of : FnScope ["pairs", "inlet", "outlet"] ["pairs"] (defScope st_inlets_of) := ⟨rfl, rfl, rfl, by decide +kernel, rfl, by decide +kernel, by decide +kernel⟩
def w_inlets_of : WF := wFn false 1 2 (wRet (wLcT (wIt (wVar 0)) (wGTup 2 (wGCons (wName 1) (wGCons (wName 2) wGNil))) wYes (wSh (wVar 1)) [1, 2]))
theorem w_inlets_of_len {ds : List PyData} {N : Nat} {R : T → Nat → Prop} (h : w_inlets_of ds N R) : ds.length = 1 := h.1
theorem ok_inlets_of {f : Addr} {fd : FuncData} (F : Fun K "inlets_of" "inlets_of" st_inlets_of f fd) (B : Bm mg)  : FnOk P w K mg base CX0 1 f fd ["pairs"] (spW false 1 w_inlets_of) := by
  refine F.ok sc_inlets_of (fun vs H Q E h => spW_len h) (fun cdv A outer s H vs Q E hr h => ?_)
  refine ⟨_, (pss_one (ps_ret (pe_lc (own := [("inlet", 1), ("outlet", 2)]) rfl sc_inlets_of.nd (pi_seq K (pv 0)) (blkOk_by (own := [("inlet", 1), ("outlet", 2)]) (by kernel_rfl)) (fun _ _ _ _ _ => (pg_tupK K (n := 2) rfl (pgs_cons (pg_name (i := 1) sc_inlets_of.nd rfl (.inl rfl)) (pgs_cons (pg_name (i := 2) sc_inlets_of.nd rfl (.inl rfl)) pgs_nil)))) (fun _ _ _ _ _ => pts_nil) (fun _ _ _ _ _ => (pv 1))))), ?_⟩
  exact run_w (k := 2) ((sim_ret (sim_lcT (sim_it sim_var) (sim_gtup (sim_gcons (sim_name (vs := [1, 2]) (by decide)) (sim_gcons (sim_name (vs := [1, 2]) (by decide)) sim_gnil))) sim_yes (sim_sh sim_var)))) rfl h
abbrev st_outlets_of : Stmt := topS 13
theorem sc_outlets_of : FnScope ["pairs", "inlet", "outlet"] ["pairs"] (defScope st_outlets_of) := ⟨rfl, rfl, rfl, by decide +kernel, rfl, by decide +kernel, by decide +kernel⟩
def w_outlets_of : WF := wFn false 1 2 (wRet (wLcT (wIt (wVar 0)) (wGTup 2 (wGCons (wName 1) (wGCons (wName 2) wGNil))) wYes (wSh (wVar 2)) [1, 2]))
theorem w_outlets_of_len {ds : List PyData} {N : Nat} {R : T → Nat → Prop} (h : w_outlets_of ds N R) : ds.length = 1 := h.1
theorem ok_outlets_of {f : Addr} {fd : FuncData} (F : Fun K "outlets_of" "outlets_of" st_outlets_of f fd) (B : Bm mg)  : FnOk P w K mg base CX0 1 f fd ["pairs"] (spW false 1 w_outlets_of) := by
  refine F.ok sc_outlets_of (fun vs H Q E h => spW_len h) (fun cdv A outer s H vs Q E hr h => ?_)
  refine ⟨_, (pss_one (ps_ret (pe_lc (own := [("inlet", 1), ("outlet", 2)]) rfl sc_outlets_of.nd (pi_seq K (pv 0)) (blkOk_by (own := [("inlet", 1), ("outlet", 2)]) (by kernel_rfl)) (fun _ _ _ _ _ => (pg_tupK K (n := 2) rfl (pgs_cons (pg_name (i := 1) sc_outlets_of.nd rfl (.inl rfl)) (pgs_cons (pg_name (i := 2) sc_outlets_of.nd rfl (.inl rfl)) pgs_nil)))) (fun _ _ _ _ _ => pts_nil) (fun _ _ _ _ _ => (pv 2))))), ?_⟩
  exact run_w (k := 2) ((sim_ret (sim_lcT (sim_it sim_var) (sim_gtup (sim_gcons (sim_name (vs := [1, 2]) (by decide)) (sim_gcons (sim_name (vs := [1, 2]) (by decide)) sim_gnil))) sim_yes (sim_sh sim_var)))) rfl h
abbrev st_are_pairs : Stmt := topS 11
theorem sc_are_pairs : FnScope ["table", "thing", "pair"] ["table", "thing"] (defScope st_are_pairs) := ⟨rfl, rfl, rfl, by decide +kernel, rfl, by decide +kernel, by decide +kernel⟩
def w_are_pairs : WF := wFn false 2 1 (wSeq (wIfS (wOr (wNot (wTest (wIs isList (wVar 1)))) (wNot (wTest (wCb oAll (wCons (wLc (wIt (wVar 1)) (wName 2) wYes (wCall w_is_ask (wCons (wVar 0) (wCons (wVar 2) wNil))) [2]) wNil)))))
 (wRet (wSh (wC (.bool false))))
 wSkip)
 (wRet (wSh (wAndV (wCall w_is_rising (wCons (wCall w_inlets_of (wCons (wVar 1) wNil)) wNil)) (wCall w_is_rising (wCons (wFz (wCbT oSortI (wCons (wCall w_outlets_of (wCons (wVar 1) wNil)) wNil))) wNil))))))
theorem w_are_pairs_len {ds : List PyData} {N : Nat} {R : T → Nat → Prop} (h : w_are_pairs ds N R) : ds.length = 2 := h.1
theorem ok_are_pairs {f : Addr} {fd : FuncData} (F : Fun K "are_pairs" "are_pairs" st_are_pairs f fd) (B : Bm mg) {f_inlets_of : Addr} {fd_inlets_of : FuncData} (d_inlets_of : Df P w K mg base 1 "inlets_of" st_inlets_of ["pairs"] f_inlets_of fd_inlets_of (spW false 1 w_inlets_of)) {f_is_ask : Addr} {fd_is_ask : FuncData} (d_is_ask : Df P w K mg base 4 "is_ask" st_is_ask ["table", "thing"] f_is_ask fd_is_ask (spW false 2 w_is_ask)) {f_is_rising : Addr} {fd_is_rising : FuncData} (d_is_rising : Df P w K mg base 1 "is_rising" st_is_rising ["numbers"] f_is_rising fd_is_rising (spW false 1 w_is_rising)) {f_outlets_of : Addr} {fd_outlets_of : FuncData} (d_outlets_of : Df P w K mg base 1 "outlets_of" st_outlets_of ["pairs"] f_outlets_of fd_outlets_of (spW false 1 w_outlets_of)) : FnOk P w K mg base CX0 5 f fd ["table", "thing"] (spW false 2 w_are_pairs) := by
  refine F.ok sc_are_pairs (fun vs H Q E h => spW_len h) (fun cdv A outer s H vs Q E hr h => ?_)
  refine ⟨_, (pss_cons (ps_if (PW.pt (pw_or (pt_not (pt_val (pe_callB (isiK K) (by rfl) B.isinstance (by decide +kernel) (pa_cons (pv 1) (pa_cons (pe_bltn (v := .ty "list") (by rfl) B.list (by decide +kernel) rfl) pa_nil))))) (pw_or1 (pt_not (pt_val (pe_callB (allK K) (by rfl) B.all (by decide +kernel) (pa_cons (pe_lc (own := [("pair", 2)]) rfl sc_are_pairs.nd (pi_seq K (pv 1)) (blkOk_by (own := [("pair", 2)]) (by kernel_rfl)) (fun _ _ _ _ _ => (pg_name (i := 2) sc_are_pairs.nd rfl (.inl rfl))) (fun _ _ _ _ _ => pts_nil) (fun _ _ _ _ _ => (pe_call d_is_ask.G (hr.mono (by omega)) (by rfl) d_is_ask.g d_is_ask.F.kp d_is_ask.b .nil pass0 (pa_cons (pv 0) (pa_cons (pv 2) pa_nil))))) pa_nil)))))))
 (pss_one (ps_ret pe_bl))
 pss_nil)
 (pss_one (ps_ret (pe_and (pe_call d_is_rising.G (hr.mono (by omega)) (by rfl) d_is_rising.g d_is_rising.F.kp d_is_rising.b .nil pass0 (pa_cons (pe_call d_inlets_of.G (hr.mono (by omega)) (by rfl) d_inlets_of.g d_inlets_of.F.kp d_inlets_of.b .nil pass0 (pa_cons (pv 1) pa_nil)) pa_nil)) (pe_one (pe_call d_is_rising.G (hr.mono (by omega)) (by rfl) d_is_rising.g d_is_rising.F.kp d_is_rising.b .nil pass0 (pa_cons (pe_callB (sortedIK K) (by rfl) B.sorted (by decide +kernel) (pa_cons (pe_call d_outlets_of.G (hr.mono (by omega)) (by rfl) d_outlets_of.g d_outlets_of.F.kp d_outlets_of.b .nil pass0 (pa_cons (pv 1) pa_nil)) pa_nil)) pa_nil))))))), ?_⟩
  exact run_w (k := 1) ((sim_seq (sim_ifS (sim_or (sim_not (sim_tB (sim_isi kit_list sim_var))) (sim_not (sim_tB (sim_cb cb_all (sim_cons (sim_lc (sim_it sim_var) (sim_name (vs := [2]) (by decide)) sim_yes (sim_call w_is_ask_len (sim_cons sim_var (sim_cons sim_var sim_nil)))) sim_nil)))))
 (sim_ret (sim_sh sim_bl))
 sim_skip)
 (sim_ret (sim_sh (sim_andV (sim_call w_is_rising_len (sim_cons (sim_call w_inlets_of_len (sim_cons sim_var sim_nil)) sim_nil)) (sim_call w_is_rising_len (sim_cons (sim_fz (sim_cbT cn_sortI (sim_cons (sim_call w_outlets_of_len (sim_cons sim_var sim_nil)) sim_nil))) sim_nil))))))) rfl h
abbrev st_asks_left : Stmt := topS 14
theorem sc_asks_left : FnScope ["table", "pairs"] ["table", "pairs"] (defScope st_asks_left) := ⟨rfl, rfl, rfl, by decide +kernel, rfl, by decide +kernel, by decide +kernel⟩
def w_asks_left : WF := wFn false 2 0 (wRet (wCallT w_left_out (wCons (wVar 0) (wCons (wCall w_inlets_of (wCons (wVar 1) wNil)) (wCons (wCall w_outlets_of (wCons (wVar 1) wNil)) wNil)))))
theorem w_asks_left_len {ds : List PyData} {N : Nat} {R : T → Nat → Prop} (h : w_asks_left ds N R) : ds.length = 2 := h.1
theorem ok_asks_left {f : Addr} {fd : FuncData} (F : Fun K "asks_left" "asks_left" st_asks_left f fd) (B : Bm mg) {f_inlets_of : Addr} {fd_inlets_of : FuncData} (d_inlets_of : Df P w K mg base 1 "inlets_of" st_inlets_of ["pairs"] f_inlets_of fd_inlets_of (spW false 1 w_inlets_of)) {f_left_out : Addr} {fd_left_out : FuncData} (d_left_out : Df P w K mg base 1 "left_out" st_left_out ["table", "inlets", "outlets"] f_left_out fd_left_out (spW false 3 w_left_out)) {f_outlets_of : Addr} {fd_outlets_of : FuncData} (d_outlets_of : Df P w K mg base 1 "outlets_of" st_outlets_of ["pairs"] f_outlets_of fd_outlets_of (spW false 1 w_outlets_of)) : FnOk P w K mg base CX0 2 f fd ["table", "pairs"] (spW false 2 w_asks_left) := by
  refine F.ok sc_asks_left (fun vs H Q E h => spW_len h) (fun cdv A outer s H vs Q E hr h => ?_)
  refine ⟨_, (pss_one (ps_ret (pe_call d_left_out.G (hr.mono (by omega)) (by rfl) d_left_out.g d_left_out.F.kp d_left_out.b .nil pass0 (pa_cons (pv 0) (pa_cons (pe_call d_inlets_of.G (hr.mono (by omega)) (by rfl) d_inlets_of.g d_inlets_of.F.kp d_inlets_of.b .nil pass0 (pa_cons (pv 1) pa_nil)) (pa_cons (pe_call d_outlets_of.G (hr.mono (by omega)) (by rfl) d_outlets_of.g d_outlets_of.F.kp d_outlets_of.b .nil pass0 (pa_cons (pv 1) pa_nil)) pa_nil)))))), ?_⟩
  exact run_w (k := 0) ((sim_ret (sim_callT w_left_out_len (sim_cons sim_var (sim_cons (sim_call w_inlets_of_len (sim_cons sim_var sim_nil)) (sim_cons (sim_call w_outlets_of_len (sim_cons sim_var sim_nil)) sim_nil)))))) rfl h
abbrev st_free_ask : Stmt := topS 15
theorem sc_free_ask : FnScope ["table", "pairs", "asks"] ["table", "pairs"] (defScope st_free_ask) := ⟨rfl, rfl, rfl, by decide +kernel, rfl, by decide +kernel, by decide +kernel⟩
def w_free_ask : WF := wFn false 2 1 (wSeq (wAsg (wCall w_asks_of (wCons (wCall w_asks_left (wCons (wVar 0) (wCons (wVar 1) wNil))) wNil)) (wName 2))
 (wRet (wSh (wIf (wTru (wVar 2)) (wOp oIx (wVar 2) (wC (.int 0))) (wC .none)))))
theorem w_free_ask_len {ds : List PyData} {N : Nat} {R : T → Nat → Prop} (h : w_free_ask ds N R) : ds.length = 2 := h.1
theorem ok_free_ask {f : Addr} {fd : FuncData} (F : Fun K "free_ask" "free_ask" st_free_ask f fd) (B : Bm mg) {f_asks_left : Addr} {fd_asks_left : FuncData} (d_asks_left : Df P w K mg base 2 "asks_left" st_asks_left ["table", "pairs"] f_asks_left fd_asks_left (spW false 2 w_asks_left)) {f_asks_of : Addr} {fd_asks_of : FuncData} (d_asks_of : Df P w K mg base 1 "asks_of" st_asks_of ["table"] f_asks_of fd_asks_of (spW false 1 w_asks_of)) : FnOk P w K mg base CX0 3 f fd ["table", "pairs"] (spW false 2 w_free_ask) := by
  refine F.ok sc_free_ask (fun vs H Q E h => spW_len h) (fun cdv A outer s H vs Q E hr h => ?_)
  refine ⟨_, (pss_cons (ps_set (i := 2) sc_free_ask.nd rfl (.inl rfl) (pe_call d_asks_of.G (hr.mono (by omega)) (by rfl) d_asks_of.g d_asks_of.F.kp d_asks_of.b .nil pass0 (pa_cons (pe_call d_asks_left.G (hr.mono (by omega)) (by rfl) d_asks_left.g d_asks_left.F.kp d_asks_left.b .nil pass0 (pa_cons (pv 0) (pa_cons (pv 1) pa_nil))) pa_nil)))
 (pss_one (ps_ret (pe_ifExp (pt_truthK K (pv 2) (by intro _; rfl)) (pe_ix (ixSK K) (pv 2) pe_int (fun _ _ => rfl)) pe_non)))), ?_⟩
  exact run_w (k := 1) ((sim_seq (sim_asg (sim_call w_asks_of_len (sim_cons (sim_call w_asks_left_len (sim_cons sim_var (sim_cons sim_var sim_nil))) sim_nil)) (sim_name (vs := [2]) (by decide)))
 (sim_ret (sim_sh (sim_if (sim_tru sim_var) (sim_op od_ix sim_var sim_int) sim_non))))) rfl h
abbrev st_first_pairs : Stmt := topS 16
theorem sc_first_pairs : FnScope ["table", "pairs", "ask"] ["table"] (defScope st_first_pairs) := ⟨rfl, rfl, rfl, by decide +kernel, rfl, by decide +kernel, by decide +kernel⟩
def w_first_pairs : WF := wFn false 1 2 (wSeq (wAsgT 1 (wLstT wNilT))
 (wSeq (wAsg (wVw (wCall w_free_ask (wCons (wVar 0) (wCons (wVar 1) wNil)))) (wName 2))
 (wSeq (wWhile (wTest (wOp oIsNot (wVar 2) (wC .none)))
 (wSeq (wApp 1 (wSh (wVar 2)))
 (wAsg (wVw (wCall w_free_ask (wCons (wVar 0) (wCons (wVar 1) wNil)))) (wName 2))))
 (wRetV 1))))
theorem w_first_pairs_len {ds : List PyData} {N : Nat} {R : T → Nat → Prop} (h : w_first_pairs ds N R) : ds.length = 1 := h.1
theorem ok_first_pairs {f : Addr} {fd : FuncData} (F : Fun K "first_pairs" "first_pairs" st_first_pairs f fd) (B : Bm mg) {f_free_ask : Addr} {fd_free_ask : FuncData} (d_free_ask : Df P w K mg base 3 "free_ask" st_free_ask ["table", "pairs"] f_free_ask fd_free_ask (spW false 2 w_free_ask)) : FnOk P w K mg base CX0 4 f fd ["table"] (spW false 1 w_first_pairs) := by
  refine F.ok sc_first_pairs (fun vs H Q E h => spW_len h) (fun cdv A outer s H vs Q E hr h => ?_)
  refine ⟨_, (pss_cons (ps_set (i := 1) sc_first_pairs.nd rfl (.inl rfl) (pe_lst pa_nil))
 (pss_cons (ps_set (i := 2) sc_first_pairs.nd rfl (.inl rfl) (pe_call d_free_ask.G (hr.mono (by omega)) (by rfl) d_free_ask.g d_free_ask.F.kp d_free_ask.b .nil pass0 (pa_cons (pv 0) (pa_cons (pv 1) pa_nil))))
 (pss_cons (ps_while PassesOwn.never (pt_cmpR op_notN (pv 2) pe_non (nomark _))
 (pss_cons (ps_expr (pe_bm PySem.F.plainAttrs_list PySem.F.slot_list_append PySem.F.type_list_append mt_append (pv 1) (pa_cons (pv 2) pa_nil)))
 (pss_one (ps_set (i := 2) sc_first_pairs.nd rfl (.inl rfl) (pe_call d_free_ask.G (hr.mono (by omega)) (by rfl) d_free_ask.g d_free_ask.F.kp d_free_ask.b .nil pass0 (pa_cons (pv 0) (pa_cons (pv 1) pa_nil)))))))
 (pss_one (ps_ret (pv 1)))))), ?_⟩
  exact run_w (k := 2) ((sim_seq (sim_asgT (sim_lstT sim_nilT))
 (sim_seq (sim_asg (sim_vw (sim_call w_free_ask_len (sim_cons sim_var (sim_cons sim_var sim_nil)))) (sim_name (vs := [2]) (by decide)))
 (sim_seq (sim_while (sim_test (sim_op od_isnot sim_var sim_non))
 (sim_seq (sim_app (sim_sh sim_var))
 (sim_asg (sim_vw (sim_call w_free_ask_len (sim_cons sim_var (sim_cons sim_var sim_nil)))) (sim_name (vs := [2]) (by decide)))))
 sim_retV)))) rfl h
abbrev st_free_inlets : Stmt := topS 18
theorem sc_free_inlets : FnScope ["table", "pairs", "inlets", "inlet"] ["table", "pairs"] (defScope st_free_inlets) := ⟨rfl, rfl, rfl, by decide +kernel, rfl, by decide +kernel, by decide +kernel⟩
def w_free_inlets : WF := wFn false 2 2 (wSeq (wAsg (wCall w_inlets_of (wCons (wVar 1) wNil)) (wName 2))
 (wRet (wLcT (wRng1 (wCb oLen (wCons (wVar 0) wNil))) (wName 3) (wTest (wOp (oIn true) (wVar 3) (wVar 2))) (wSh (wVar 3)) [3])))
theorem w_free_inlets_len {ds : List PyData} {N : Nat} {R : T → Nat → Prop} (h : w_free_inlets ds N R) : ds.length = 2 := h.1
theorem ok_free_inlets {f : Addr} {fd : FuncData} (F : Fun K "free_inlets" "free_inlets" st_free_inlets f fd) (B : Bm mg) {f_inlets_of : Addr} {fd_inlets_of : FuncData} (d_inlets_of : Df P w K mg base 1 "inlets_of" st_inlets_of ["pairs"] f_inlets_of fd_inlets_of (spW false 1 w_inlets_of)) : FnOk P w K mg base CX0 2 f fd ["table", "pairs"] (spW false 2 w_free_inlets) := by
  refine F.ok sc_free_inlets (fun vs H Q E h => spW_len h) (fun cdv A outer s H vs Q E hr h => ?_)
  refine ⟨_, (pss_cons (ps_set (i := 2) sc_free_inlets.nd rfl (.inr rfl) (pe_call d_inlets_of.G (hr.mono (by omega)) (by rfl) d_inlets_of.g d_inlets_of.F.kp d_inlets_of.b .nil pass0 (pa_cons (pv 1) pa_nil)))
 (pss_one (ps_ret (pe_lc (own := [("inlet", 3)]) rfl sc_free_inlets.nd (pi_range1 (by rfl) B.range (pa_cons (pe_callB (lenK K) (by rfl) B.len (by decide +kernel) (pa_cons (pv 0) pa_nil)) pa_nil)) (blkOk_by (own := [("inlet", 3)]) (by kernel_rfl)) (fun _ _ _ _ _ => (pg_name (i := 3) sc_free_inlets.nd rfl (.inl rfl))) (fun _ _ _ _ _ => (pts_one (pt_cmpR (notInK K) (pv 3) (pv 2) (by with_unfolding_all rfl)))) (fun _ _ _ _ _ => (pv 3)))))), ?_⟩
  exact run_w (k := 2) ((sim_seq (sim_asg (sim_call w_inlets_of_len (sim_cons sim_var sim_nil)) (sim_name (vs := [2]) (by decide)))
 (sim_ret (sim_lcT (sim_r1 (sim_cb cb_len (sim_cons sim_var sim_nil))) (sim_name (vs := [3]) (by decide)) (sim_test (sim_op od_in sim_var sim_var)) (sim_sh sim_var))))) rfl h
abbrev st_reached_by : Stmt := topS 19
theorem sc_reached_by : FnScope ["table", "pairs", "paired_with", "reached", "coming", "inlet", "outlet", "mark"] ["table", "pairs"] (defScope st_reached_by) := ⟨rfl, rfl, rfl, by decide +kernel, rfl, by decide +kernel, by decide +kernel⟩
def w_reached_by : WF := wFn false 2 6 (wSeq (wAsgT 2 (wDc (wIt (wVar 1)) (wGTup 2 (wGCons (wName 5) (wGCons (wName 6) wGNil))) (wVar 6) (wVar 5) [5, 6]))
 (wSeq (wAsgT 3 wD0)
 (wSeq (wAsgT 4 (wCallT w_free_inlets (wCons (wVar 0) (wCons (wVar 1) wNil))))
 (wSeq (wWhile (wVb (wTru (wVar 4)))
 (wSeq (wPop0 4 (wName 5))
 (wFor (wEnum (wOp oIx (wVar 0) (wVar 5))) (wGTup 2 (wGCons (wName 6) (wGCons (wName 7) wGNil)))
 (wIfS (wAnd (wTest (wOp oEq (wVar 7) (wC (.int 1)))) (wTest (wDNotIn 3 (wVar 6))))
 (wSeq (wDSet 3 (wVar 6) (wVar 5))
 (wIfS (wTest (wDIn 2 (wVar 6)))
 (wApp 4 (wSh (wDGet 2 (wVar 6))))
 wSkip))
 wSkip))))
 (wRetV 3)))))
theorem w_reached_by_len {ds : List PyData} {N : Nat} {R : T → Nat → Prop} (h : w_reached_by ds N R) : ds.length = 2 := h.1
theorem ok_reached_by {f : Addr} {fd : FuncData} (F : Fun K "reached_by" "reached_by" st_reached_by f fd) (B : Bm mg) {f_free_inlets : Addr} {fd_free_inlets : FuncData} (d_free_inlets : Df P w K mg base 2 "free_inlets" st_free_inlets ["table", "pairs"] f_free_inlets fd_free_inlets (spW false 2 w_free_inlets)) : FnOk P w K mg base CX0 3 f fd ["table", "pairs"] (spW false 2 w_reached_by) := by
  refine F.ok sc_reached_by (fun vs H Q E h => spW_len h) (fun cdv A outer s H vs Q E hr h => ?_)
  refine ⟨_, (pss_cons (ps_setDc (k := 2) (own := [("inlet", 5), ("outlet", 6)]) rfl sc_reached_by.nd rfl rfl (swD_true rfl rfl rfl (by decide +kernel)) (pi_seq K (pv 1)) (blkOk_by (own := [("inlet", 5), ("outlet", 6)]) (by kernel_rfl)) (fun _ _ _ _ _ => (pg_tupK K (n := 2) rfl (pgs_cons (pg_name (i := 5) sc_reached_by.nd rfl (.inl rfl)) (pgs_cons (pg_name (i := 6) sc_reached_by.nd rfl (.inl rfl)) pgs_nil)))) (fun _ _ _ _ _ => pts_nil) (fun _ _ _ _ _ => (pv 6)) (fun _ _ _ _ _ => (pv 5)))
 (pss_cons (ps_set (i := 3) sc_reached_by.nd rfl (.inl rfl) pe_dnewK)
 (pss_cons (ps_set (i := 4) sc_reached_by.nd rfl (.inl rfl) (pe_call d_free_inlets.G (hr.mono (by omega)) (by rfl) d_free_inlets.g d_free_inlets.F.kp d_free_inlets.b .nil pass0 (pa_cons (pv 0) (pa_cons (pv 1) pa_nil))))
 (pss_cons (ps_while PassesOwn.never (pt_truthK K (pv 4) (by intro _; rfl))
 (pss_cons (ps_set (i := 5) sc_reached_by.nd rfl (.inl rfl) (pe_bm0 PySem.F.plainAttrs_list PySem.F.slot_list_pop PySem.F.type_list_pop mt_pop (pv 4)))
 (pss_one (ps_for PassesOwn.never rfl (pi_enumS K (by rfl) B.enumerate (pa_cons (pe_ix (ixSK K) (pv 0) (pv 5) (fun _ _ => rfl)) pa_nil)) (pg_tupK K (n := 2) rfl (pgs_cons (pg_name (i := 6) sc_reached_by.nd rfl (.inl rfl)) (pgs_cons (pg_name (i := 7) sc_reached_by.nd rfl (.inl rfl)) pgs_nil)))
 (pss_one (ps_if (PW.pt (pw_and (pt_cmpR (op_eqU K hr.units) (pv 7) pe_int (nomark _)) (pw_and1 (pt_cmp (pc_dnotin (Nat.lt_of_le_of_lt (Nat.add_le_add_left (Nat.le_of_ble_eq_true rfl) _) hr.units) (pv 6) (pv 3)) (by with_unfolding_all rfl)))))
 (pss_cons (ps_dput (Nat.lt_of_le_of_lt (Nat.add_le_add_left (Nat.le_of_ble_eq_true rfl) _) hr.units) (pv 3) (pv 6) (pv 5) (by rfl))
 (pss_one (ps_if (pt_cmp (pc_din (Nat.lt_of_le_of_lt (Nat.add_le_add_left (Nat.le_of_ble_eq_true rfl) _) hr.units) (pv 6) (pv 2)) (by with_unfolding_all rfl))
 (pss_one (ps_expr (pe_bm PySem.F.plainAttrs_list PySem.F.slot_list_append PySem.F.type_list_append mt_append (pv 4) (pa_cons (pe_dget (Nat.lt_of_le_of_lt (Nat.add_le_add_left (Nat.le_of_ble_eq_true rfl) _) hr.units) (pv 2) (pv 6) (fun _ _ => rfl)) pa_nil))))
 pss_nil)))
 pss_nil))))))
 (pss_one (ps_ret (pv 3))))))), ?_⟩
  exact run_w (k := 6) ((sim_seq (sim_asgT (sim_dc (sim_it sim_var) (sim_gtup (sim_gcons (sim_name (vs := [5, 6]) (by decide)) (sim_gcons (sim_name (vs := [5, 6]) (by decide)) sim_gnil))) sim_var sim_var))
 (sim_seq (sim_asgT sim_d0)
 (sim_seq (sim_asgT (sim_callT w_free_inlets_len (sim_cons sim_var (sim_cons sim_var sim_nil))))
 (sim_seq (sim_while (sim_vb (sim_tru sim_var))
 (sim_seq (sim_pop0 (sim_name (vs := [5]) (by decide)))
 (sim_for (sim_enum (sim_op od_ix sim_var sim_var)) (sim_gtup (sim_gcons (sim_name (vs := [6, 7]) (by decide)) (sim_gcons (sim_name (vs := [6, 7]) (by decide)) sim_gnil)))
 (sim_ifS (sim_and (sim_test (sim_op od_eq sim_var sim_int)) (sim_test (sim_dNotIn sim_var)))
 (sim_seq (sim_dSet sim_var sim_var)
 (sim_ifS (sim_test (sim_dIn sim_var))
 (sim_app (sim_sh (sim_dGet sim_var)))
 sim_skip))
 sim_skip))))
 sim_retV))))) rfl h
abbrev st_taken_over : Stmt := topS 20
theorem sc_taken_over : FnScope ["pairs", "reached", "last", "outlet_of", "outlet", "inlet", "given_up"] ["pairs", "reached", "last"] (defScope st_taken_over) := ⟨rfl, rfl, rfl, by decide +kernel, rfl, by decide +kernel, by decide +kernel⟩
def w_taken_over : WF := wFn false 3 4 (wSeq (wAsgT 3 (wDc (wIt (wVar 0)) (wGTup 2 (wGCons (wName 5) (wGCons (wName 4) wGNil))) (wVar 5) (wVar 4) [5, 4]))
 (wSeq (wAsg (wVar 2) (wName 4))
 (wSeq (wWhile (wTest (wOp oIsNot (wVar 4) (wC .none)))
 (wSeq (wAsg (wDGet 1 (wVar 4)) (wName 5))
 (wSeq (wAsg (wDGet1 3 (wVar 5)) (wName 6))
 (wSeq (wDSet 3 (wVar 5) (wVar 4))
 (wAsg (wVar 6) (wName 4))))))
 (wRet (wCbT oSortP (wCons (wFz (wLk 3 (wLcT (wKeys 3) (wName 5) wYes (wSh (wTup (wCons (wVar 5) (wCons (wDGet 3 (wVar 5)) wNil)))) [5]))) wNil))))))
theorem w_taken_over_len {ds : List PyData} {N : Nat} {R : T → Nat → Prop} (h : w_taken_over ds N R) : ds.length = 3 := h.1
theorem ok_taken_over {f : Addr} {fd : FuncData} (F : Fun K "taken_over" "taken_over" st_taken_over f fd) (B : Bm mg)  : FnOk P w K mg base CX0 1 f fd ["pairs", "reached", "last"] (spW false 3 w_taken_over) := by
  refine F.ok sc_taken_over (fun vs H Q E h => spW_len h) (fun cdv A outer s H vs Q E hr h => ?_)
  refine ⟨_, (pss_cons (ps_set (i := 3) sc_taken_over.nd rfl (.inr rfl) (pe_dc (own := [("inlet", 5), ("outlet", 4)]) rfl sc_taken_over.nd (pi_seq K (pv 0)) (blkOk_by (own := [("inlet", 5), ("outlet", 4)]) (by kernel_rfl)) (fun _ _ _ _ _ => (pg_tupK K (n := 2) rfl (pgs_cons (pg_name (i := 5) sc_taken_over.nd rfl (.inl rfl)) (pgs_cons (pg_name (i := 4) sc_taken_over.nd rfl (.inl rfl)) pgs_nil)))) (fun _ _ _ _ _ => pts_nil) (fun _ _ _ _ _ => (pv 5)) (fun _ _ _ _ _ => (pv 4))))
 (pss_cons (ps_set (i := 4) sc_taken_over.nd rfl (.inl rfl) (pv 2))
 (pss_cons (ps_while PassesOwn.never (pt_cmpR op_notN (pv 4) pe_non (nomark _))
 (pss_cons (ps_set (i := 5) sc_taken_over.nd rfl (.inl rfl) (pe_dget (Nat.lt_of_le_of_lt (Nat.add_le_add_left (Nat.le_of_ble_eq_true rfl) _) hr.units) (pv 1) (pv 4) (fun _ _ => rfl)))
 (pss_cons (ps_set (i := 6) sc_taken_over.nd rfl (.inl rfl) (pe_dget1 (Nat.lt_of_le_of_lt (Nat.add_le_add_left (Nat.le_of_ble_eq_true rfl) _) hr.units) (pv 3) (pv 5) ⟨by rfl, by rfl, by rfl, by rfl⟩))
 (pss_cons (ps_dput (Nat.lt_of_le_of_lt (Nat.add_le_add_left (Nat.le_of_ble_eq_true rfl) _) hr.units) (pv 3) (pv 5) (pv 4) (by rfl))
 (pss_one (ps_set (i := 4) sc_taken_over.nd rfl (.inl rfl) (pv 6)))))))
 (pss_one (ps_ret (pe_callB (sortedPK K) (by rfl) B.sorted (by decide +kernel) (pa_cons (pe_lock (pe_lc (own := [("inlet", 5)]) rfl sc_taken_over.nd (pi_keys (pv 3)) (blkOk_by (own := [("inlet", 5)]) (by kernel_rfl)) (fun _ _ _ _ _ => (pg_name (i := 5) sc_taken_over.nd rfl (.inl rfl))) (fun _ _ _ _ _ => pts_nil) (fun _ _ _ _ _ => (pe_tup (pa_cons (pv 5) (pa_cons (pe_dget (Nat.lt_of_le_of_lt (Nat.add_le_add_left (Nat.le_of_ble_eq_true rfl) _) hr.units) (pv 3) (pv 5) (fun _ _ => rfl)) pa_nil)))))) pa_nil))))))), ?_⟩
  exact run_w (k := 4) ((sim_seq (sim_asgT (sim_dc (sim_it sim_var) (sim_gtup (sim_gcons (sim_name (vs := [5, 4]) (by decide)) (sim_gcons (sim_name (vs := [5, 4]) (by decide)) sim_gnil))) sim_var sim_var))
 (sim_seq (sim_asg sim_var (sim_name (vs := [4]) (by decide)))
 (sim_seq (sim_while (sim_test (sim_op od_isnot sim_var sim_non))
 (sim_seq (sim_asg (sim_dGet sim_var) (sim_name (vs := [5]) (by decide)))
 (sim_seq (sim_asg (sim_dGet1 sim_var) (sim_name (vs := [6]) (by decide)))
 (sim_seq (sim_dSet sim_var sim_var)
 (sim_asg sim_var (sim_name (vs := [4]) (by decide)))))))
 (sim_ret (sim_cbT cn_sortP (sim_cons (sim_fz (sim_lk (i := 3) (sim_lcT sim_keys (sim_name (vs := [5]) (by decide)) sim_yes (sim_sh (sim_tup (sim_cons sim_var (sim_cons (sim_dGet sim_var) sim_nil))))))) sim_nil))))))) rfl h
abbrev st_grown : Stmt := topS 21
theorem sc_grown : FnScope ["table", "pairs", "reached", "outlets", "free", "outlet"] ["table", "pairs"] (defScope st_grown) := ⟨rfl, rfl, rfl, by decide +kernel, rfl, by decide +kernel, by decide +kernel⟩
def w_grown : WF := wFn false 2 4 (wSeq (wAsgT 2 (wCallT w_reached_by (wCons (wVar 0) (wCons (wVar 1) wNil))))
 (wSeq (wAsg (wCall w_outlets_of (wCons (wVar 1) wNil)) (wName 3))
 (wSeq (wAsg (wFz (wLk 2 (wLcT (wKeys 2) (wName 5) (wTest (wOp (oIn true) (wVar 5) (wVar 3))) (wSh (wVar 5)) [5]))) (wName 4))
 (wRet (wVt (wIfT (wTru (wVar 4)) (wCallT w_taken_over (wCons (wVar 1) (wCons (wVar 2) (wCons (wOp oIx (wVar 4) (wC (.int 0))) wNil)))) (wSh (wC .none))))))))
theorem w_grown_len {ds : List PyData} {N : Nat} {R : T → Nat → Prop} (h : w_grown ds N R) : ds.length = 2 := h.1
theorem ok_grown {f : Addr} {fd : FuncData} (F : Fun K "grown" "grown" st_grown f fd) (B : Bm mg) {f_outlets_of : Addr} {fd_outlets_of : FuncData} (d_outlets_of : Df P w K mg base 1 "outlets_of" st_outlets_of ["pairs"] f_outlets_of fd_outlets_of (spW false 1 w_outlets_of)) {f_reached_by : Addr} {fd_reached_by : FuncData} (d_reached_by : Df P w K mg base 3 "reached_by" st_reached_by ["table", "pairs"] f_reached_by fd_reached_by (spW false 2 w_reached_by)) {f_taken_over : Addr} {fd_taken_over : FuncData} (d_taken_over : Df P w K mg base 1 "taken_over" st_taken_over ["pairs", "reached", "last"] f_taken_over fd_taken_over (spW false 3 w_taken_over)) : FnOk P w K mg base CX0 4 f fd ["table", "pairs"] (spW false 2 w_grown) := by
  refine F.ok sc_grown (fun vs H Q E h => spW_len h) (fun cdv A outer s H vs Q E hr h => ?_)
  refine ⟨_, (pss_cons (ps_set (i := 2) sc_grown.nd rfl (.inl rfl) (pe_call d_reached_by.G (hr.mono (by omega)) (by rfl) d_reached_by.g d_reached_by.F.kp d_reached_by.b .nil pass0 (pa_cons (pv 0) (pa_cons (pv 1) pa_nil))))
 (pss_cons (ps_set (i := 3) sc_grown.nd rfl (.inr rfl) (pe_call d_outlets_of.G (hr.mono (by omega)) (by rfl) d_outlets_of.g d_outlets_of.F.kp d_outlets_of.b .nil pass0 (pa_cons (pv 1) pa_nil)))
 (pss_cons (ps_lock (ps_setLc (i := 4) (own := [("outlet", 5)]) rfl sc_grown.nd rfl rfl (sw_true rfl rfl rfl (by decide +kernel)) (pi_keys (pv 2)) (blkOk_by (own := [("outlet", 5)]) (by kernel_rfl)) (fun _ _ _ _ _ => (pg_name (i := 5) sc_grown.nd rfl (.inl rfl))) (fun _ _ _ _ _ => (pts_one (pt_cmpR (notInK K) (pv 5) (pv 3) (by with_unfolding_all rfl)))) (fun _ _ _ _ _ => (pv 5))))
 (pss_one (ps_ret (pe_ifExp (pt_truthK K (pv 4) (by intro _; rfl)) (pe_call d_taken_over.G (hr.mono (by omega)) (by rfl) d_taken_over.g d_taken_over.F.kp d_taken_over.b .nil pass0 (pa_cons (pv 1) (pa_cons (pv 2) (pa_cons (pe_ix (ixSK K) (pv 4) pe_int (fun _ _ => rfl)) pa_nil)))) pe_non)))))), ?_⟩
  exact run_w (k := 4) ((sim_seq (sim_asgT (sim_callT w_reached_by_len (sim_cons sim_var (sim_cons sim_var sim_nil))))
 (sim_seq (sim_asg (sim_call w_outlets_of_len (sim_cons sim_var sim_nil)) (sim_name (vs := [3]) (by decide)))
 (sim_seq (sim_lkS (sim_asg (sim_fz (sim_lk (i := 2) (sim_lcT sim_keys (sim_name (vs := [5]) (by decide)) (sim_test (sim_op od_in sim_var sim_var)) (sim_sh sim_var)))) (sim_name (vs := [4]) (by decide))))
 (sim_ret (sim_vt (sim_ifT (sim_tru sim_var) (sim_callT w_taken_over_len (sim_cons sim_var (sim_cons sim_var (sim_cons (sim_op od_ix sim_var sim_int) sim_nil)))) (sim_sh sim_non)))))))) rfl h
abbrev st_most_pairs : Stmt := topS 22
theorem sc_most_pairs : FnScope ["table", "pairs", "more"] ["table"] (defScope st_most_pairs) := ⟨rfl, rfl, rfl, by decide +kernel, rfl, by decide +kernel, by decide +kernel⟩
def w_most_pairs : WF := wFn false 1 2 (wSeq (wAsgT 1 (wCallT w_first_pairs (wCons (wVar 0) wNil)))
 (wSeq (wAsgT 2 (wVt (wCallT w_grown (wCons (wVar 0) (wCons (wVar 1) wNil)))))
 (wSeq (wWhile (wVb (wTest (wOp oIsNot (wVar 2) (wC .none))))
 (wSeq (wMove 1 2)
 (wAsgT 2 (wVt (wCallT w_grown (wCons (wVar 0) (wCons (wVar 1) wNil)))))))
 (wRetV 1))))
theorem w_most_pairs_len {ds : List PyData} {N : Nat} {R : T → Nat → Prop} (h : w_most_pairs ds N R) : ds.length = 1 := h.1
theorem ok_most_pairs {f : Addr} {fd : FuncData} (F : Fun K "most_pairs" "most_pairs" st_most_pairs f fd) (B : Bm mg) {f_first_pairs : Addr} {fd_first_pairs : FuncData} (d_first_pairs : Df P w K mg base 4 "first_pairs" st_first_pairs ["table"] f_first_pairs fd_first_pairs (spW false 1 w_first_pairs)) {f_grown : Addr} {fd_grown : FuncData} (d_grown : Df P w K mg base 4 "grown" st_grown ["table", "pairs"] f_grown fd_grown (spW false 2 w_grown)) : FnOk P w K mg base CX0 5 f fd ["table"] (spW false 1 w_most_pairs) := by
  refine F.ok sc_most_pairs (fun vs H Q E h => spW_len h) (fun cdv A outer s H vs Q E hr h => ?_)
  refine ⟨_, (pss_cons (ps_set (i := 1) sc_most_pairs.nd rfl (.inl rfl) (pe_call d_first_pairs.G (hr.mono (by omega)) (by rfl) d_first_pairs.g d_first_pairs.F.kp d_first_pairs.b .nil pass0 (pa_cons (pv 0) pa_nil)))
 (pss_cons (ps_set (i := 2) sc_most_pairs.nd rfl (.inl rfl) (pe_call d_grown.G (hr.mono (by omega)) (by rfl) d_grown.g d_grown.F.kp d_grown.b .nil pass0 (pa_cons (pv 0) (pa_cons (pv 1) pa_nil))))
 (pss_cons (ps_while PassesOwn.never (pt_cmpR op_notN (pv 2) pe_non (nomark _))
 (pss_cons (ps_set (i := 1) sc_most_pairs.nd rfl (.inl rfl) (pv 2))
 (pss_one (ps_set (i := 2) sc_most_pairs.nd rfl (.inl rfl) (pe_call d_grown.G (hr.mono (by omega)) (by rfl) d_grown.g d_grown.F.kp d_grown.b .nil pass0 (pa_cons (pv 0) (pa_cons (pv 1) pa_nil)))))))
 (pss_one (ps_ret (pv 1)))))), ?_⟩
  exact run_w (k := 2) ((sim_seq (sim_asgT (sim_callT w_first_pairs_len (sim_cons sim_var sim_nil)))
 (sim_seq (sim_asgT (sim_vt (sim_callT w_grown_len (sim_cons sim_var (sim_cons sim_var sim_nil)))))
 (sim_seq (sim_while (sim_vb (sim_test (sim_op od_isnot sim_var sim_non)))
 (sim_seq sim_move
 (sim_asgT (sim_vt (sim_callT w_grown_len (sim_cons sim_var (sim_cons sim_var sim_nil)))))))
 sim_retV)))) rfl h
abbrev st_cover_of : Stmt := topS 23
theorem sc_cover_of : FnScope ["table", "pairs", "reached", "inlets", "inlet", "outlet"] ["table"] (defScope st_cover_of) := ⟨rfl, rfl, rfl, by decide +kernel, rfl, by decide +kernel, by decide +kernel⟩
def w_cover_of : WF := wFn false 1 5 (wSeq (wAsg (wCall w_most_pairs (wCons (wVar 0) wNil)) (wName 1))
 (wSeq (wAsgT 2 (wCallT w_reached_by (wCons (wVar 0) (wCons (wVar 1) wNil))))
 (wSeq (wAsgT 3 (wLcT (wIt (wVar 1)) (wGTup 2 (wGCons (wName 4) (wGCons (wName 5) wGNil))) (wTest (wDNotIn 2 (wVar 5))) (wSh (wVar 4)) [4, 5]))
 (wRetVT 3 (wCbT oSortI (wCons (wFz (wDKeys 2)) wNil))))))
theorem w_cover_of_len {ds : List PyData} {N : Nat} {R : T → Nat → Prop} (h : w_cover_of ds N R) : ds.length = 1 := h.1
theorem ok_cover_of {f : Addr} {fd : FuncData} (F : Fun K "cover_of" "cover_of" st_cover_of f fd) (B : Bm mg) {f_most_pairs : Addr} {fd_most_pairs : FuncData} (d_most_pairs : Df P w K mg base 5 "most_pairs" st_most_pairs ["table"] f_most_pairs fd_most_pairs (spW false 1 w_most_pairs)) {f_reached_by : Addr} {fd_reached_by : FuncData} (d_reached_by : Df P w K mg base 3 "reached_by" st_reached_by ["table", "pairs"] f_reached_by fd_reached_by (spW false 2 w_reached_by)) : FnOk P w K mg base CX0 6 f fd ["table"] (spW false 1 w_cover_of) := by
  refine F.ok sc_cover_of (fun vs H Q E h => spW_len h) (fun cdv A outer s H vs Q E hr h => ?_)
  refine ⟨_, (pss_cons (ps_set (i := 1) sc_cover_of.nd rfl (.inl rfl) (pe_call d_most_pairs.G (hr.mono (by omega)) (by rfl) d_most_pairs.g d_most_pairs.F.kp d_most_pairs.b .nil pass0 (pa_cons (pv 0) pa_nil)))
 (pss_cons (ps_set (i := 2) sc_cover_of.nd rfl (.inr rfl) (pe_call d_reached_by.G (hr.mono (by omega)) (by rfl) d_reached_by.g d_reached_by.F.kp d_reached_by.b .nil pass0 (pa_cons (pv 0) (pa_cons (pv 1) pa_nil))))
 (pss_cons (ps_setLc (i := 3) (own := [("inlet", 4), ("outlet", 5)]) rfl sc_cover_of.nd rfl rfl (sw_true rfl rfl rfl (by decide +kernel)) (pi_seq K (pv 1)) (blkOk_by (own := [("inlet", 4), ("outlet", 5)]) (by kernel_rfl)) (fun _ _ _ _ _ => (pg_tupK K (n := 2) rfl (pgs_cons (pg_name (i := 4) sc_cover_of.nd rfl (.inl rfl)) (pgs_cons (pg_name (i := 5) sc_cover_of.nd rfl (.inl rfl)) pgs_nil)))) (fun _ _ _ _ _ => (pts_one (pt_cmp (pc_dnotin (Nat.lt_of_le_of_lt (Nat.add_le_add_left (Nat.le_of_ble_eq_true rfl) _) hr.units) (pv 5) (pv 2)) (by with_unfolding_all rfl)))) (fun _ _ _ _ _ => (pv 4)))
 (pss_one (ps_ret (pe_tup (pa_cons (pv 3) (pa_cons (pe_callB (sortedIK K) (by rfl) B.sorted (by decide +kernel) (pa_cons (pe_callTy listDK (by rfl) B.list (by decide +kernel) (pa_cons (pv 2) pa_nil)) pa_nil)) pa_nil)))))))), ?_⟩
  exact run_w (k := 5) ((sim_seq (sim_asg (sim_call w_most_pairs_len (sim_cons sim_var sim_nil)) (sim_name (vs := [1]) (by decide)))
 (sim_seq (sim_asgT (sim_callT w_reached_by_len (sim_cons sim_var (sim_cons sim_var sim_nil))))
 (sim_seq (sim_asgT (sim_lcT (sim_it sim_var) (sim_gtup (sim_gcons (sim_name (vs := [4, 5]) (by decide)) (sim_gcons (sim_name (vs := [4, 5]) (by decide)) sim_gnil))) (sim_test (sim_dNotIn sim_var)) (sim_sh sim_var)))
 (sim_retVT (sim_cbT cn_sortI (sim_cons (sim_fz sim_dKeys) sim_nil))))))) rfl h
abbrev st_are_places : Stmt := topS 24
theorem sc_are_places : FnScope ["thing", "many", "place"] ["thing", "many"] (defScope st_are_places) := ⟨rfl, rfl, rfl, by decide +kernel, rfl, by decide +kernel, by decide +kernel⟩
def w_are_places : WF := wFn false 2 1 (wRet (wSh (wAndV (wIs isList (wVar 0)) (wAndV (wCb oAll (wCons (wLc (wIt (wVar 0)) (wName 2) wYes (wCall w_is_place (wCons (wVar 2) (wCons (wVar 1) wNil))) [2]) wNil)) (wCall w_is_rising (wCons (wVar 0) wNil))))))
theorem w_are_places_len {ds : List PyData} {N : Nat} {R : T → Nat → Prop} (h : w_are_places ds N R) : ds.length = 2 := h.1
theorem ok_are_places {f : Addr} {fd : FuncData} (F : Fun K "are_places" "are_places" st_are_places f fd) (B : Bm mg) {f_is_place : Addr} {fd_is_place : FuncData} (d_is_place : Df P w K mg base 3 "is_place" st_is_place ["thing", "many"] f_is_place fd_is_place (spW false 2 w_is_place)) {f_is_rising : Addr} {fd_is_rising : FuncData} (d_is_rising : Df P w K mg base 1 "is_rising" st_is_rising ["numbers"] f_is_rising fd_is_rising (spW false 1 w_is_rising)) : FnOk P w K mg base CX0 4 f fd ["thing", "many"] (spW false 2 w_are_places) := by
  refine F.ok sc_are_places (fun vs H Q E h => spW_len h) (fun cdv A outer s H vs Q E hr h => ?_)
  refine ⟨_, (pss_one (ps_ret (pe_and (pe_callB (isiK K) (by rfl) B.isinstance (by decide +kernel) (pa_cons (pv 0) (pa_cons (pe_bltn (v := .ty "list") (by rfl) B.list (by decide +kernel) rfl) pa_nil))) (pe_and (pe_callB (allK K) (by rfl) B.all (by decide +kernel) (pa_cons (pe_lc (own := [("place", 2)]) rfl sc_are_places.nd (pi_seq K (pv 0)) (blkOk_by (own := [("place", 2)]) (by kernel_rfl)) (fun _ _ _ _ _ => (pg_name (i := 2) sc_are_places.nd rfl (.inl rfl))) (fun _ _ _ _ _ => pts_nil) (fun _ _ _ _ _ => (pe_call d_is_place.G (hr.mono (by omega)) (by rfl) d_is_place.g d_is_place.F.kp d_is_place.b .nil pass0 (pa_cons (pv 2) (pa_cons (pv 1) pa_nil))))) pa_nil)) (pe_one (pe_call d_is_rising.G (hr.mono (by omega)) (by rfl) d_is_rising.g d_is_rising.F.kp d_is_rising.b .nil pass0 (pa_cons (pv 0) pa_nil))))))), ?_⟩
  exact run_w (k := 1) ((sim_ret (sim_sh (sim_andV (sim_isi kit_list sim_var) (sim_andV (sim_cb cb_all (sim_cons (sim_lc (sim_it sim_var) (sim_name (vs := [2]) (by decide)) sim_yes (sim_call w_is_place_len (sim_cons sim_var (sim_cons sim_var sim_nil)))) sim_nil)) (sim_call w_is_rising_len (sim_cons sim_var sim_nil))))))) rfl h
abbrev st_is_cover : Stmt := topS 25
theorem sc_is_cover : FnScope ["table", "thing", "inlets", "outlets"] ["table", "thing"] (defScope st_is_cover) := ⟨rfl, rfl, rfl, by decide +kernel, rfl, by decide +kernel, by decide +kernel⟩
def w_is_cover : WF := wFn false 2 2 (wSeq (wIfS (wOr (wNot (wTest (wIs isTuple (wVar 1)))) (wTest (wOp oNe (wCb oLen (wCons (wVar 1) wNil)) (wC (.int 2)))))
 (wRet (wSh (wC (.bool false))))
 wSkip)
 (wSeq (wAsg (wVar 1) (wGTup 2 (wGCons (wName 2) (wGCons (wName 3) wGNil))))
 (wSeq (wIfS (wOr (wNot (wTest (wCall w_are_places (wCons (wVar 2) (wCons (wCb oLen (wCons (wVar 0) wNil)) wNil))))) (wNot (wTest (wCall w_are_places (wCons (wVar 3) (wCons (wCall w_outlets_in (wCons (wVar 0) wNil)) wNil))))))
 (wRet (wSh (wC (.bool false))))
 wSkip)
 (wRet (wSh (wOp oEq (wCall w_asks_of (wCons (wCall w_left_out (wCons (wVar 0) (wCons (wVar 2) (wCons (wVar 3) wNil)))) wNil)) (wLst wNil)))))))
theorem w_is_cover_len {ds : List PyData} {N : Nat} {R : T → Nat → Prop} (h : w_is_cover ds N R) : ds.length = 2 := h.1
theorem ok_is_cover {f : Addr} {fd : FuncData} (F : Fun K "is_cover" "is_cover" st_is_cover f fd) (B : Bm mg) {f_are_places : Addr} {fd_are_places : FuncData} (d_are_places : Df P w K mg base 4 "are_places" st_are_places ["thing", "many"] f_are_places fd_are_places (spW false 2 w_are_places)) {f_asks_of : Addr} {fd_asks_of : FuncData} (d_asks_of : Df P w K mg base 1 "asks_of" st_asks_of ["table"] f_asks_of fd_asks_of (spW false 1 w_asks_of)) {f_left_out : Addr} {fd_left_out : FuncData} (d_left_out : Df P w K mg base 1 "left_out" st_left_out ["table", "inlets", "outlets"] f_left_out fd_left_out (spW false 3 w_left_out)) {f_outlets_in : Addr} {fd_outlets_in : FuncData} (d_outlets_in : Df P w K mg base 1 "outlets_in" st_outlets_in ["table"] f_outlets_in fd_outlets_in (spW false 1 w_outlets_in)) : FnOk P w K mg base CX0 5 f fd ["table", "thing"] (spW false 2 w_is_cover) := by
  refine F.ok sc_is_cover (fun vs H Q E h => spW_len h) (fun cdv A outer s H vs Q E hr h => ?_)
  refine ⟨_, (pss_cons (ps_if (PW.pt (pw_or (pt_not (pt_val (pe_callB (isiK K) (by rfl) B.isinstance (by decide +kernel) (pa_cons (pv 1) (pa_cons (pe_bltn (v := .ty "tuple") (by rfl) B.tuple (by decide +kernel) rfl) pa_nil))))) (pw_or1 (pt_cmpR (op_neU K hr.units) (pe_callB (lenK K) (by rfl) B.len (by decide +kernel) (pa_cons (pv 1) pa_nil)) pe_int (nomark _)))))
 (pss_one (ps_ret pe_bl))
 pss_nil)
 (pss_cons (ps_asg (pv 1) (pg_tupK K (n := 2) rfl (pgs_cons (pg_name (i := 2) sc_is_cover.nd rfl (.inl rfl)) (pgs_cons (pg_name (i := 3) sc_is_cover.nd rfl (.inl rfl)) pgs_nil))))
 (pss_cons (ps_if (PW.pt (pw_or (pt_not (pt_val (pe_call d_are_places.G (hr.mono (by omega)) (by rfl) d_are_places.g d_are_places.F.kp d_are_places.b .nil pass0 (pa_cons (pv 2) (pa_cons (pe_callB (lenK K) (by rfl) B.len (by decide +kernel) (pa_cons (pv 0) pa_nil)) pa_nil))))) (pw_or1 (pt_not (pt_val (pe_call d_are_places.G (hr.mono (by omega)) (by rfl) d_are_places.g d_are_places.F.kp d_are_places.b .nil pass0 (pa_cons (pv 3) (pa_cons (pe_call d_outlets_in.G (hr.mono (by omega)) (by rfl) d_outlets_in.g d_outlets_in.F.kp d_outlets_in.b .nil pass0 (pa_cons (pv 0) pa_nil)) pa_nil))))))))
 (pss_one (ps_ret pe_bl))
 pss_nil)
 (pss_one (ps_ret (pe_cmpR (op_eqU K hr.units) (pe_call d_asks_of.G (hr.mono (by omega)) (by rfl) d_asks_of.g d_asks_of.F.kp d_asks_of.b .nil pass0 (pa_cons (pe_call d_left_out.G (hr.mono (by omega)) (by rfl) d_left_out.g d_left_out.F.kp d_left_out.b .nil pass0 (pa_cons (pv 0) (pa_cons (pv 2) (pa_cons (pv 3) pa_nil)))) pa_nil)) (pe_lst pa_nil) (nomark _))))))), ?_⟩
  exact run_w (k := 2) ((sim_seq (sim_ifS (sim_or (sim_not (sim_tB (sim_isi kit_tuple sim_var))) (sim_test (sim_op od_ne (sim_cb cb_len (sim_cons sim_var sim_nil)) sim_int)))
 (sim_ret (sim_sh sim_bl))
 sim_skip)
 (sim_seq (sim_asg sim_var (sim_gtup (sim_gcons (sim_name (vs := [2, 3]) (by decide)) (sim_gcons (sim_name (vs := [2, 3]) (by decide)) sim_gnil))))
 (sim_seq (sim_ifS (sim_or (sim_not (sim_tB (sim_call w_are_places_len (sim_cons sim_var (sim_cons (sim_cb cb_len (sim_cons sim_var sim_nil)) sim_nil))))) (sim_not (sim_tB (sim_call w_are_places_len (sim_cons sim_var (sim_cons (sim_call w_outlets_in_len (sim_cons sim_var sim_nil)) sim_nil))))))
 (sim_ret (sim_sh sim_bl))
 sim_skip)
 (sim_ret (sim_sh (sim_op od_eq (sim_call w_asks_of_len (sim_cons (sim_call w_left_out_len (sim_cons sim_var (sim_cons sim_var (sim_cons sim_var sim_nil)))) sim_nil)) (sim_lst sim_nil)))))))) rfl h
abbrev st_shows_most : Stmt := topS 26
theorem sc_shows_most : FnScope ["table", "pairs", "thing"] ["table", "pairs", "thing"] (defScope st_shows_most) := ⟨rfl, rfl, rfl, by decide +kernel, rfl, by decide +kernel, by decide +kernel⟩
def w_shows_most : WF := wFn false 3 0 (wRet (wSh (wAndV (wCall w_is_cover (wCons (wVar 0) (wCons (wVar 2) wNil))) (wOp oEq (wOp oAdd (wCb oLen (wCons (wOp oIx (wVar 2) (wC (.int 0))) wNil)) (wCb oLen (wCons (wOp oIx (wVar 2) (wC (.int 1))) wNil))) (wCb oLen (wCons (wVar 1) wNil))))))
theorem w_shows_most_len {ds : List PyData} {N : Nat} {R : T → Nat → Prop} (h : w_shows_most ds N R) : ds.length = 3 := h.1
theorem ok_shows_most {f : Addr} {fd : FuncData} (F : Fun K "shows_most" "shows_most" st_shows_most f fd) (B : Bm mg) {f_is_cover : Addr} {fd_is_cover : FuncData} (d_is_cover : Df P w K mg base 5 "is_cover" st_is_cover ["table", "thing"] f_is_cover fd_is_cover (spW false 2 w_is_cover)) : FnOk P w K mg base CX0 6 f fd ["table", "pairs", "thing"] (spW false 3 w_shows_most) := by
  refine F.ok sc_shows_most (fun vs H Q E h => spW_len h) (fun cdv A outer s H vs Q E hr h => ?_)
  refine ⟨_, (pss_one (ps_ret (pe_and (pe_call d_is_cover.G (hr.mono (by omega)) (by rfl) d_is_cover.g d_is_cover.F.kp d_is_cover.b .nil pass0 (pa_cons (pv 0) (pa_cons (pv 2) pa_nil))) (pe_one (pe_cmpR (op_eqU K hr.units) (pe_op op_addU (pe_callB (lenK K) (by rfl) B.len (by decide +kernel) (pa_cons (pe_ix (ixSK K) (pv 2) pe_int (fun _ _ => rfl)) pa_nil)) (pe_callB (lenK K) (by rfl) B.len (by decide +kernel) (pa_cons (pe_ix (ixSK K) (pv 2) pe_int (fun _ _ => rfl)) pa_nil))) (pe_callB (lenK K) (by rfl) B.len (by decide +kernel) (pa_cons (pv 1) pa_nil)) (nomark _)))))), ?_⟩
  exact run_w (k := 0) ((sim_ret (sim_sh (sim_andV (sim_call w_is_cover_len (sim_cons sim_var (sim_cons sim_var sim_nil))) (sim_op od_eq (sim_op od_add (sim_cb cb_len (sim_cons (sim_op od_ix sim_var sim_int) sim_nil)) (sim_cb cb_len (sim_cons (sim_op od_ix sim_var sim_int) sim_nil))) (sim_cb cb_len (sim_cons sim_var sim_nil))))))) rfl h
abbrev st_law_box : Stmt := topS 28
theorem sc_law_box : FnScope ["_law_script", "_law_k", "_law_cell"] ["_law_script", "_law_k"] (defScope st_law_box) := ⟨rfl, rfl, rfl, by decide +kernel, rfl, by decide +kernel, by decide +kernel⟩
theorem ok_law_box {f : Addr} {fd : FuncData} (F : Fun K "_law_box" "_law_box" st_law_box f fd) (B : Bm mg) : FnOk P w K mg base CX0 1 f fd ["_law_script", "_law_k"] (spBox K) := by
  refine F.ok sc_law_box (fun vs H Q E h => ?_) (fun cdv A outer s H vs Q E hr h => ?_)
  · obtain ⟨a, ns, k, rfl, _⟩ := h
    rfl
  · obtain ⟨a, ns, k, rfl, hS, hk, q⟩ := h
    refine ⟨_, (pss_cons (ps_set (i := 2) sc_law_box.nd rfl (.inl rfl) (pe_ifExp (pt_cmpR op_lt (pv 1) (pe_callB (lenK K) (by rfl) B.len (by decide +kernel) (pa_cons (pv 0) pa_nil)) (nomark _)) (pe_ix (ixLK K) (pv 0) (pv 1) (fun _ _ => rfl)) pe_int))
 (pss_one (ps_ret (pe_lst (pa_cons (pe_op op_mul (pe_callB call_abs (by rfl) B.abs (by decide +kernel) (pa_cons (pv 2) pa_nil)) (pe_callTy call_int1 (by rfl) B.int (by decide +kernel) (pa_cons (pe_cmpR op_ge (pe_callB call_abs (by rfl) B.abs (by decide +kernel) (pa_cons (pv 2) pa_nil)) (pe_op op_pow pe_int pe_int) (nomark _)) pa_nil))) (pa_cons (pe_op op_mod (pe_op op_mul (pe_op op_add (pe_op op_add (pe_op op_mod (pv 2) pe_int) (pe_op op_mul pe_int (pv 1))) pe_int) pe_int) pe_int) (pa_cons pe_int pa_nil))))))), ?_⟩
    refine q_asg (v := .int (ns.getD k 0)) (ev_if (b := decide ((k : Int) < ((ns.map V.int).length : Int))) (et_test (ev_op (ev_var rfl) (ev_len (ev_var rfl) hS) rv_I0)) (fun hb => ?_) fun hb => ?_) fun H1 e1 => ?_
    · have hb' : (k : Int) < ((ns.map V.int).length : Int) := of_decide_eq_true hb
      have hk2 : k < ns.length := by rw [List.length_map] at hb'; omega
      refine ev_op (ev_var rfl) (ev_var rfl) (rv_ixL hS (atI_nat ?_))
      rw [List.getElem?_map, List.getElem?_eq_getElem hk2, List.getD_eq_getElem?_getD, List.getElem?_eq_getElem hk2] <;> rfl
    · have hb' : ¬ (k : Int) < ((ns.map V.int).length : Int) := of_decide_eq_false hb
      have hk2 : ns.length ≤ k := by rw [List.length_map] at hb'; omega
      rw [List.getD_eq_getElem?_getD, List.getElem?_eq_none hk2]
      exact ev_c
    · generalize ns.getD k 0 = c
      have hab : ∀ {σ : L2.St} {H : Hp}, σ[2]? = some (some (.int c)) → Ev (tCB (fun xs H Q => ∃ i, xs = [V.int i] ∧ Q (V.int (if i < 0 then -i else i)) H) (tCons (tVar 2) tNil)) σ H (.int (if c < 0 then -c else c)) := fun hs => ev_cb1 (ev_var hs) fun H1 Q q => ⟨c, rfl, q⟩
      have hnn : 0 ≤ (if c < 0 then -c else c) := by split <;> omega
      generalize (if c < 0 then -c else c) = ac at hab hnn
      have hbit : ∀ x : Bool, (0 : Int) ≤ (if x = true then 1 else 0) ∧ (if x = true then 1 else 0) ≤ (1 : Int) := fun x => by cases x <;> decide
      refine s_retL (el_lst (ea_cons (ev_op (hab rfl) (ev_cb1 (ev_op (hab rfl) (ev_op ev_c ev_c (rv_I ⟨by decide, by decide, by decide⟩)) rv_I0) fun H1 Q q => .inr ⟨_, rfl, q⟩) (rv_I (.inr ⟨by have := hbit (decide ((10 : Int) ^ (18 : Int).toNat ≤ ac)); omega, by have := hbit (decide ((10 : Int) ^ (18 : Int).toNat ≤ ac)); omega⟩)))
        (ea_cons (ev_op (ev_op (ev_op (ev_op (ev_op (ev_var rfl) ev_c (rv_I (by decide))) (ev_op ev_c (ev_var rfl) (rv_I (.inl ⟨by decide, by decide⟩))) rv_I0) ev_c rv_I0) ev_c (rv_I (.inr ⟨by decide, by decide⟩))) ev_c (rv_I (by decide))) (ea_cons ev_c ea_nil))) (by show 3 ≤ 100000; decide)) fun p H2 np e2 hp => ?_
      refine q p H2 (e1.trans e2) (fresh_back e1 np) ⟨_, _, _, hp, Int.mul_nonneg hnn (hbit _).1, ?_, ?_, Int.le_refl _, Int.le_refl _⟩
      · exact Int.emod_nonneg _ (by decide)
      · exact Int.emod_lt_of_pos _ (by decide)
abbrev st_law_take : Stmt := topS 29
theorem sc_law_take : FnScope ["_law_box_here", "_law_size", "_law_step", "_law_once", "_law_twice", "_law_found"] ["_law_box_here", "_law_size"] (defScope st_law_take) := ⟨rfl, rfl, rfl, by decide +kernel, rfl, by decide +kernel, by decide +kernel⟩
theorem ok0_law_take {f : Addr} {fd : FuncData} (F : Fun K "_law_take" "_law_take" st_law_take f fd) (B : Bm mg) : FnOk P w K mg base CX0 1 f fd ["_law_box_here", "_law_size"] spTake := by
  refine F.ok sc_law_take (fun vs H Q E h => ?_) (fun cdv A outer s H vs Q E hr h => ?_)
  · obtain ⟨b, m, n, rfl, _⟩ := h
    rfl
  · obtain ⟨b, m, n, rfl, hB, hn, hm1, hm2, q⟩ := h
    refine ⟨_, (pss_cons (ps_if (pt_cmpR op_gt (pe_ix (ixLK K) (pv 0) pe_int (fun _ _ => rfl)) pe_int (nomark _))
 (pss_cons (ps_asg (pe_callB call_divmod (by rfl) B.divmod (by decide +kernel) (pa_cons (pe_ix (ixLK K) (pv 0) pe_int (fun _ _ => rfl)) (pa_cons (pv 1) pa_nil))) (pg_tupK K (n := 2) rfl (pgs_cons (pg_sub (pv 0) pe_int set_list) (pgs_cons (pg_name (i := 5) sc_law_take.nd rfl (.inl rfl)) pgs_nil))))
 (pss_one (ps_ret (pv 5))))
 pss_nil)
 (pss_cons (ps_asg (pe_op op_add (pe_ix (ixLK K) (pv 0) pe_int (fun _ _ => rfl)) pe_int) (pg_sub (pv 0) pe_int set_list))
 (pss_cons (ps_set (i := 2) sc_law_take.nd rfl (.inl rfl) (pe_op op_add pe_int (pe_op op_mul (pe_ix (ixLK K) (pv 0) pe_int (fun _ _ => rfl)) (pe_ix (ixLK K) (pv 0) pe_int (fun _ _ => rfl)))))
 (pss_cons (ps_set (i := 3) sc_law_take.nd rfl (.inl rfl) (pe_op op_mod (pe_op op_mul (pe_op op_add (pe_ix (ixLK K) (pv 0) pe_int (fun _ _ => rfl)) (pe_op op_mul pe_int (pe_ix (ixLK K) (pv 0) pe_int (fun _ _ => rfl)))) (pv 2)) pe_int))
 (pss_cons (ps_set (i := 4) sc_law_take.nd rfl (.inl rfl) (pe_op op_mod (pe_op op_add (pe_op op_mul (pv 3) (pe_op op_add (pe_op op_mod (pv 3) pe_int) pe_int)) (pe_ix (ixLK K) (pv 0) pe_int (fun _ _ => rfl))) pe_int))
 (pss_one (ps_ret (pe_op op_mod (pe_op op_fdiv (pe_op op_mod (pe_op op_mul (pv 4) (pe_op op_add (pe_op op_mod (pv 4) pe_int) pe_int)) pe_int) pe_int) (pv 1))))))))), ?_⟩
    obtain ⟨r, sd, c, hb, hr0, hs0, hs1, hc0, hc1⟩ := hB
    have at0 : ∀ {σ : L2.St} {H : Hp} {x y z : V}, σ[0]? = some (some (.ref b)) → H b = some (.lst [x, y, z]) → Ev (tOp (rIxL K) (tVar 0) (tC (.int 0))) σ H x := fun hs hb => ev_op (ev_var hs) ev_c (rv_ixL (SqL.of hb) (atI_nat (j := 0) rfl))
    have at1 : ∀ {σ : L2.St} {H : Hp} {x y z : V}, σ[0]? = some (some (.ref b)) → H b = some (.lst [x, y, z]) → Ev (tOp (rIxL K) (tVar 0) (tC (.int 1))) σ H y := fun hs hb => ev_op (ev_var hs) ev_c (rv_ixL (SqL.of hb) (atI_nat (j := 1) rfl))
    have at2 : ∀ {σ : L2.St} {H : Hp} {x y z : V}, σ[0]? = some (some (.ref b)) → H b = some (.lst [x, y, z]) → Ev (tOp (rIxL K) (tVar 0) (tC (.int 2))) σ H z := fun hs hb => ev_op (ev_var hs) ev_c (rv_ixL (SqL.of hb) (atI_nat (j := 2) rfl))
    refine q_when (b := decide (0 < r)) (et_test (ev_op (at0 rfl hb) ev_c rv_I0)) (fun hp H1 e1 => ?_) fun hp H1 e1 => ?_
    · have hp' : 0 < r := of_decide_eq_true hp
      have hb1 := e1 _ _ hb
      refine at0 rfl hb1 H1 (Ex.refl _) _ fun H2 e2 => ?_
      have hb2 := e2 _ _ hb1
      refine ⟨.int m, rfl, r, m, rfl, ⟨by omega, by omega⟩, fun p np => ?_⟩
      have hpb : p ≠ b := (ne_of_none hb2 np).symm
      refine ⟨p, _, rfl, SqT.of upd_same, rfl, _, _, rfl, .ref b, rfl, b, _, 0, 0, rfl, rfl, by rw [upd_ne hpb.symm]; exact hb2, rfl, _, _, rfl, rfl, ?_⟩
      refine ⟨.int (r % m), rfl, ?_⟩
      have hq : 0 ≤ r / m := Int.ediv_nonneg hr0 (by omega)
      refine q (r % m) _ (Int.emod_nonneg _ (by omega)) (Int.emod_lt_of_pos _ (by omega)) ⟨r / m, sd, c, upd_same, hq, hs0, hs1, hc0, by omega⟩ ?_
      exact ((Keep.of (e1.trans e2)).new np).put (by simp)
    · have hb1 := e1 _ _ hb
      have e2 : Ex H1 H1 := Ex.refl _
      have hb2 := e2 _ _ hb1
      refine q_setL (j := 2) hb2 (ev_op (at2 rfl hb2) ev_c rv_I0) (ev_var rfl) ev_c (by show 2 < 3; decide) fun H3 e3 => ?_
      change tSeq _ _ _ _ (upd H3 b (.lst [.int r, .int sd, .int (c + 1)]))
      have k4 : Keep [b] H (upd H3 b (.lst [.int r, .int sd, .int (c + 1)])) := (Keep.of ((e1.trans e2).trans e3)).put (by simp)
      have hb4 : (upd H3 b (.lst [.int r, .int sd, .int (c + 1)])) b = some (.lst [.int r, .int sd, .int (c + 1)]) := upd_same
      generalize upd H3 b (.lst [.int r, .int sd, .int (c + 1)]) = H4 at k4 hb4
      have hcc : c + 1 ≤ 1000000001 := by omega
      refine q_asg (ev_op ev_c (ev_op (at2 rfl hb4) (at2 rfl hb4) (rv_I (.inl ⟨by omega, by omega⟩))) rv_I0) fun H5 e5 => ?_
      have hb5 := e5 _ _ hb4
      refine q_asg (ev_op (ev_op (ev_op (at1 rfl hb5) (ev_op ev_c (at2 rfl hb5) (rv_I (.inl ⟨by decide, by decide⟩))) rv_I0) (ev_var rfl) (rv_I (.inl ⟨by omega, by omega⟩))) ev_c (rv_I (by decide))) fun H6 e6 => ?_
      have hb6 := e6 _ _ hb5
      generalize ho : ((sd + 39373 * (c + 1)) * (69621 + (c + 1) * (c + 1))) % 2147483587 = once
      have ho1 : 0 ≤ once ∧ once < 2147483587 := by omega
      refine q_asg (ev_op (ev_op (ev_op (ev_var rfl) (ev_op (ev_op (ev_var rfl) ev_c (rv_I (by decide))) ev_c rv_I0) (rv_I (.inl ⟨by omega, by omega⟩))) (at2 rfl hb6) rv_I0) ev_c (rv_I (by decide))) fun H7 e7 => ?_
      generalize ht : (once * (once % 30011 + 5) + (c + 1)) % 2147483563 = twice
      have ht1 : 0 ≤ twice ∧ twice < 2147483563 := by omega
      refine s_ret (ev_op (ev_op (ev_op (ev_op (ev_var rfl) (ev_op (ev_op (ev_var rfl) ev_c (rv_I (by decide))) ev_c rv_I0) (rv_I (.inl ⟨by omega, by omega⟩))) ev_c (rv_I (by decide))) ev_c (rv_I ⟨by decide, by decide⟩)) (ev_var rfl) (rv_I (by show 0 < m; omega))) fun H8 e8 => ?_
      refine q _ H8 (Int.emod_nonneg _ (by omega)) (Int.emod_lt_of_pos _ (by omega)) ⟨r, sd, c + 1, ((e7.trans e8) _ _ (e6 _ _ hb5)), hr0, hs0, hs1, by omega, by omega⟩ (k4.ext (((e5.trans e6).trans e7).trans e8))
abbrev w_law_take : WF := w_take
theorem w_law_take_len {ds : List PyData} {N : Nat} {R : T → Nat → Prop} (h : w_law_take ds N R) : ds.length = 1 := w_take_len h
theorem ok_law_take {f : Addr} {fd : FuncData} (F : Fun K "_law_take" "_law_take" st_law_take f fd) (B : Bm mg) : FnOk P w K mg base CX0 1 f fd ["_law_box_here", "_law_size"] (spW true 1 w_law_take) := (ok0_law_take F B).imp fun _ _ _ _ h => sp_take h
abbrev st_law_folded : Stmt := topS 30
theorem sc_law_folded : FnScope ["_law_script", "_law_size", "_law_cells", "_law_k", "_law_cell"] ["_law_script", "_law_size"] (defScope st_law_folded) := ⟨rfl, rfl, rfl, by decide +kernel, rfl, by decide +kernel, by decide +kernel⟩
theorem ok_law_folded {f : Addr} {fd : FuncData} (F : Fun K "_law_folded" "_law_folded" st_law_folded f fd) (B : Bm mg) : FnOk P w K mg base CX0 1 f fd ["_law_script", "_law_size"] (spFold K) := by
  refine F.ok sc_law_folded (fun vs H Q E h => ?_) (fun cdv A outer s H vs Q E hr h => ?_)
  · obtain ⟨a, ns, z, rfl, _⟩ := h
    rfl
  · obtain ⟨a, ns, z, rfl, hS, hz1, hz2, hl, q⟩ := h
    refine ⟨_, (pss_cons (ps_set (i := 2) sc_law_folded.nd rfl (.inl rfl) (pe_callTy (listK K) (by rfl) B.list (by decide +kernel) (pa_cons (pe_slice (slLK K) (pv 0) po_none (po_some (pv 1))) pa_nil)))
 (pss_cons (ps_for PassesOwn.never rfl (pi_enumK K (by rfl) B.enumerate (pa_cons (pe_slice (slLK K) (pv 0) (po_some (pv 1)) (po_some pe_int)) pa_nil)) (pg_tupK K (n := 2) rfl (pgs_cons (pg_name (i := 3) sc_law_folded.nd rfl (.inl rfl)) (pgs_cons (pg_name (i := 4) sc_law_folded.nd rfl (.inl rfl)) pgs_nil)))
 (pss_one (ps_asg (pe_op op_add (pe_ix (ixLK K) (pv 2) (pe_op op_mod (pv 3) (pv 1)) (fun _ _ => rfl)) (pe_op op_mul (pv 4) (pe_op op_add (pv 3) pe_int))) (pg_sub (pv 2) (pe_op op_mod (pv 3) (pv 1)) set_list))))
 (pss_one (ps_ret (pv 2))))), ?_⟩
    refine el_sl (ev_var rfl) eo_none (eo_some (ev_var rfl)) hS H (Ex.refl _) _ fun p0 H1 np0 e1 hp0 => ⟨p0, _, rfl, .inl (SqL.of hp0), fun l nl => ?_⟩
    rw [cut_hi, ← List.map_take]
    have s1 : Same H (upd H1 l (.lst ((ns.take z).map V.int))) := e1.trans (Ex.new nl)
    have hl0 : H l = none := fresh_back e1 nl
    refine q_forE (el_sl (ev_var rfl) (eo_some (ev_var rfl)) (eo_some ev_c) (s1.seq hS)) (fun p k σ H' => ∃ (ms : List Int) (y3 y4 : Option V), σ = [some (.ref a), some (.int (z : Int)), some (.ref l), y3, y4] ∧ Same H H' ∧ H' l = some (.lst (ms.map V.int)) ∧ ms.length = min z ns.length ∧ H' p = some (.lst (cutV (ns.map V.int) (some (z : Int)) (some 63))) ∧ p ≠ l)
      (fun p H2 np e2 hp => ⟨ns.take z, none, none, rfl, s1.trans e2, e2 _ _ upd_same, by rw [List.length_take], hp, fun h => ?_⟩) (fun p k σ' H' _ hP => ?_) (fun p k x T σ' H' hx hP hT => ?_) (fun p σ' H' hP => ?_)
    · rw [h, upd_same] at np
      cases np
    · obtain ⟨_, _, _, _, _, _, _, hp, _⟩ := hP
      exact SqL.of hp
    · obtain ⟨ms, y3, y4, rfl, sm, hl', len, hp, hpl⟩ := hP
      have hx2 := hx
      rw [show (63 : Int) = ((63 : Nat) : Int) from rfl, cut_both, ← List.map_drop, ← List.map_take] at hx2
      rw [List.getElem?_map, Option.map_eq_some_iff] at hx2
      obtain ⟨n, hn, rfl⟩ := hx2
      have hzn : z < ns.length := by
        have := (List.getElem?_eq_some_iff.mp hn).1
        rw [List.length_take, List.length_drop] at this
        omega
      have hml : ms.length = z := by rw [len]; omega
      have hk63 : k < 1000 := by
        have := (List.getElem?_eq_some_iff.mp hn).1
        rw [List.length_take, List.length_drop] at this
        omega
      have nTl : l ≠ T := ne_of_none hl' hT
      have nTp : p ≠ T := ne_of_none hp hT
      have hj : k % z < (ms.map V.int).length := by rw [List.length_map, hml]; exact Nat.mod_lt _ (by omega)
      have hlT : (upd H' T (.tup [.int (k : Nat), .int n])) l = some (.lst (ms.map V.int)) := by rw [upd_ne nTl]; exact hl'
      have hix : ∀ {σ : L2.St} {H : Hp}, σ[1]? = some (some (.int (z : Int))) → σ[3]? = some (some (.int (k : Nat))) → Ev (tOp (rI (fun _ j => 0 < j) fun i j => .int (i % j)) (tVar 3) (tVar 1)) σ H (.int ((k % z : Nat) : Int)) := fun h1 h2 => ev_is (ev_op (ev_var h2) (ev_var h1) (rv_I (by show (0 : Int) < z; omega))) (by rw [Int.natCast_emod])
      refine s_setL (j := k % z) hlT (v := .int (ms[k % z]'(by rw [List.length_map] at hj; exact hj) + n * ((k : Nat) + 2))) (ev_op (ev_op (ev_var rfl) (hix rfl rfl) (rv_ixL (SqL.of hlT) (atI_nat ?_))) (ev_op (ev_var rfl) (ev_op (ev_var rfl) ev_c rv_I0) (rv_I (.inr ⟨by omega, by omega⟩))) rv_I0) (ev_var rfl) (hix rfl rfl) hj fun H2 e2 => ?_
      · rw [List.getElem?_map, List.getElem?_eq_getElem] <;> rfl
      · refine ⟨ms.set (k % z) (ms[k % z]'(by rw [List.length_map] at hj; exact hj) + n * ((k : Nat) + 2)), _, _, rfl, fun c o ho => ?_, ?_, ?_, ?_, hpl⟩
        · rw [upd_ne (ne_of_none ho hl0)]
          exact e2 _ _ (Ex.new hT _ _ (sm _ _ ho))
        · rw [upd_same, List.map_set]
        · rw [List.length_set]; exact len
        · rw [upd_ne hpl]
          exact e2 _ _ (by rw [upd_ne nTp]; exact hp)
    · obtain ⟨ms, y3, y4, rfl, sm, hl', len, _, _⟩ := hP
      exact s_ret (ev_var rfl) fun H2 e2 => q l ms H2 (sm.trans e2) hl0 (e2 _ _ hl') len
abbrev st_law_strewn : Stmt := topS 31
theorem sc_law_strewn : FnScope ["_law_box_here", "_law_some", "_law_turn", "_law_left", "_law_found"] ["_law_box_here", "_law_some"] (defScope st_law_strewn) := ⟨rfl, rfl, rfl, by decide +kernel, rfl, by decide +kernel, by decide +kernel⟩
def w_law_strewn : WF := wFn true 1 3 (wSeq (wParN [3, 4] (wConsT (wCbT oList (wCons (wVar 1) wNil)) (wConsT (wLstT wNilT) wNilT)))
 (wSeq (wFor (wRng1 (wVw (wCb oLen (wCons (wVar 3) wNil)))) (wName 2)
 (wAppPop 4 3 (wVw (wCallB 0 w_law_take (wCons (wCb oLen (wCons (wVar 3) wNil)) wNil)))))
 (wRetV 4)))
theorem w_law_strewn_len {ds : List PyData} {N : Nat} {R : T → Nat → Prop} (h : w_law_strewn ds N R) : ds.length = 1 := h.1
theorem ok_law_strewn {f : Addr} {fd : FuncData} (F : Fun K "_law_strewn" "_law_strewn" st_law_strewn f fd) (B : Bm mg) {f_law_take : Addr} {fd_law_take : FuncData} (d_law_take : Df P w K mg base 1 "_law_take" st_law_take ["_law_box_here", "_law_size"] f_law_take fd_law_take (spW true 1 w_law_take)) : FnOk P w K mg base CX0 2 f fd ["_law_box_here", "_law_some"] (spW true 1 w_law_strewn) := by
  refine F.ok sc_law_strewn (fun vs H Q E h => spW_len h) (fun cdv A outer s H vs Q E hr h => ?_)
  refine ⟨_, (pss_cons (ps_par (i := 3) (j := 4) (by rfl) sc_law_strewn.nd rfl rfl (by decide) rfl rfl (pa_cons (pe_callTy (listK K) (by rfl) B.list (by decide +kernel) (pa_cons (pv 1) pa_nil)) (pa_cons (pe_lst pa_nil) pa_nil)) (by rfl))
 (pss_cons (ps_for PassesOwn.never rfl (pi_range1 (by rfl) B.range (pa_cons (pe_callB (lenK K) (by rfl) B.len (by decide +kernel) (pa_cons (pv 3) pa_nil)) pa_nil)) (pg_name (i := 2) sc_law_strewn.nd rfl (.inl rfl))
 (pss_one (ps_expr (pe_bm PySem.F.plainAttrs_list PySem.F.slot_list_append PySem.F.type_list_append mt_append (pv 4) (pa_cons (pe_bm PySem.F.plainAttrs_list PySem.F.slot_list_pop PySem.F.type_list_pop mt_popAt (pv 3) (pa_cons (pe_call d_law_take.G (hr.mono (by omega)) (by rfl) d_law_take.g d_law_take.F.kp d_law_take.b .nil pass0 (pa_cons (pv 0) (pa_cons (pe_callB (lenK K) (by rfl) B.len (by decide +kernel) (pa_cons (pv 3) pa_nil)) pa_nil))) pa_nil)) pa_nil)))))
 (pss_one (ps_ret (pv 4))))), ?_⟩
  exact run_w (k := 3) ((sim_seq (sim_par2 (sim_consT (sim_cbT cn_list (sim_cons sim_var sim_nil)) (sim_consT (sim_lstT sim_nilT) sim_nilT)))
 (sim_seq (sim_for (sim_r1 (sim_vw (sim_cb cb_len (sim_cons sim_var sim_nil)))) (sim_name (vs := [2]) (by decide))
 (sim_appPop (by decide) (sim_vw (sim_callB w_law_take_len (sim_cons (sim_cb cb_len (sim_cons sim_var sim_nil)) sim_nil)))))
 sim_retV))) rfl h
abbrev st_law_worlds : Stmt := topS 32
theorem sc_law_worlds : FnScope ["_law_n", "_law_stairs", "_law_single", "_law_cross", "_law_chain", "_law_blocks", "_law_narrow", "_law_found", "_law_all_asks", "_law_none", "_law_i", "_law_j"] ["_law_n"] (defScope st_law_worlds) := ⟨rfl, rfl, rfl, by decide +kernel, rfl, by decide +kernel, by decide +kernel⟩
def w_law_worlds : WF := wFn false 1 11 (wSeq (wParN [8, 9] (wConsT (wSh (wLc (wRng1 (wVar 0)) (wName 10) wYes (wOp oMul (wLst (wCons (wC (.int 1)) wNil)) (wVar 0)) [10])) (wConsT (wSh (wLc (wRng1 (wVar 0)) (wName 10) wYes (wOp oMul (wLst (wCons (wC (.int 0)) wNil)) (wVar 0)) [10])) wNilT)))
 (wSeq (wAsg (wLc (wRng1 (wVar 0)) (wName 10) wYes (wLc (wRng1 (wVar 0)) (wName 11) wYes (wCb oInt (wCons (wOp oLe (wVar 11) (wVar 10)) wNil)) [11]) [10]) (wName 1))
 (wSeq (wAsg (wLc (wRng1 (wVar 0)) (wName 10) wYes (wLc (wRng1 (wVar 0)) (wName 11) wYes (wCb oInt (wCons (wOp oEq (wVar 10) (wVar 11)) wNil)) [11]) [10]) (wName 2))
 (wSeq (wAsg (wLc (wRng1 (wVar 0)) (wName 10) wYes (wLc (wRng1 (wVar 0)) (wName 11) wYes (wCb oInt (wCons (wOrV (wOp oEq (wVar 10) (wC (.int 0))) (wOp oEq (wVar 11) (wC (.int 0)))) wNil)) [11]) [10]) (wName 3))
 (wSeq (wAsg (wLc (wRng1 (wVar 0)) (wName 10) wYes (wLc (wRng1 (wVar 0)) (wName 11) wYes (wCb oInt (wCons (wOp (oIn false) (wVar 11) (wTup (wCons (wVar 10) (wCons (wOp oAdd (wVar 10) (wC (.int 1))) wNil)))) wNil)) [11]) [10]) (wName 4))
 (wSeq (wAsg (wLc (wRng1 (wVar 0)) (wName 10) wYes (wLc (wRng1 (wVar 0)) (wName 11) wYes (wCb oInt (wCons (wOp oEq (wOp oFdiv (wVar 10) (wC (.int 3))) (wOp oFdiv (wVar 11) (wC (.int 3)))) wNil)) [11]) [10]) (wName 5))
 (wSeq (wAsg (wLc (wRng1 (wVar 0)) (wName 10) wYes (wLc (wRng1 (wVar 0)) (wName 11) wYes (wCb oInt (wCons (wOp oLt (wVar 11) (wOp oFdiv (wVar 0) (wC (.int 2)))) wNil)) [11]) [10]) (wName 6))
 (wSeq (wAsg (wLst (wCons (wTup (wCons (wVar 8) (wCons (wVar 0) wNil))) (wCons (wTup (wCons (wVar 9) (wCons (wC (.int 0)) wNil))) (wCons (wTup (wCons (wVar 1) (wCons (wVar 0) wNil))) (wCons (wTup (wCons (wVar 2) (wCons (wVar 0) wNil))) (wCons (wTup (wCons (wVar 3) (wCons (wCb oMin2 (wCons (wVar 0) (wCons (wC (.int 2)) wNil))) wNil))) (wCons (wTup (wCons (wVar 4) (wCons (wVar 0) wNil))) (wCons (wTup (wCons (wVar 5) (wCons (wVar 0) wNil))) wNil)))))))) (wName 7))
 (wRet (wOpT oCat (wVar 7) (wLst (wCons (wTup (wCons (wVar 6) (wCons (wOp oFdiv (wVar 0) (wC (.int 2))) wNil))) (wCons (wTup (wCons (wLst (wCons (wOp oMul (wLst (wCons (wC (.int 1)) wNil)) (wVar 0)) wNil)) (wCons (wC (.int 1)) wNil))) (wCons (wTup (wCons (wLc (wRng1 (wVar 0)) (wName 10) wYes (wLst (wCons (wC (.int 1)) wNil)) [10]) (wCons (wC (.int 1)) wNil))) wNil))))))))))))))
theorem w_law_worlds_len {ds : List PyData} {N : Nat} {R : T → Nat → Prop} (h : w_law_worlds ds N R) : ds.length = 1 := h.1
theorem ok_law_worlds {f : Addr} {fd : FuncData} (F : Fun K "_law_worlds" "_law_worlds" st_law_worlds f fd) (B : Bm mg)  : FnOk P w K mg base CX0 1 f fd ["_law_n"] (spW false 1 w_law_worlds) := by
  refine F.ok sc_law_worlds (fun vs H Q E h => spW_len h) (fun cdv A outer s H vs Q E hr h => ?_)
  refine ⟨_, (pss_cons (ps_par (i := 8) (j := 9) (by rfl) sc_law_worlds.nd rfl rfl (by decide) rfl rfl (pa_cons (pe_lc (own := [("_law_i", 10)]) rfl sc_law_worlds.nd (pi_range1 (by rfl) B.range (pa_cons (pv 0) pa_nil)) (blkOk_by (own := [("_law_i", 10)]) (by kernel_rfl)) (fun _ _ _ _ _ => (pg_name (i := 10) sc_law_worlds.nd rfl (.inl rfl))) (fun _ _ _ _ _ => pts_nil) (fun _ _ _ _ _ => (pe_op op_mulU (pe_lst (pa_cons pe_int pa_nil)) (pv 0)))) (pa_cons (pe_lc (own := [("_law_i", 10)]) rfl sc_law_worlds.nd (pi_range1 (by rfl) B.range (pa_cons (pv 0) pa_nil)) (blkOk_by (own := [("_law_i", 10)]) (by kernel_rfl)) (fun _ _ _ _ _ => (pg_name (i := 10) sc_law_worlds.nd rfl (.inl rfl))) (fun _ _ _ _ _ => pts_nil) (fun _ _ _ _ _ => (pe_op op_mulU (pe_lst (pa_cons pe_int pa_nil)) (pv 0)))) pa_nil)) (by rfl))
 (pss_cons (ps_setLc (i := 1) (own := [("_law_i", 10)]) rfl sc_law_worlds.nd rfl rfl (sw_true rfl rfl rfl (by decide +kernel)) (pi_range1 (by rfl) B.range (pa_cons (pv 0) pa_nil)) (blkOk_by (own := [("_law_i", 10)]) (by kernel_rfl)) (fun _ _ _ _ _ => (pg_name (i := 10) sc_law_worlds.nd rfl (by first | exact Or.inl rfl | exact Or.inr rfl))) (fun _ _ _ _ _ => pts_nil) (fun _ _ _ _ _ => (pe_lc (own := [("_law_j", 11)]) rfl sc_law_worlds.nd (pi_range1 (by rfl) B.range (pa_cons (pv 0) pa_nil)) (blkOk_by (own := [("_law_j", 11)]) (by kernel_rfl)) (fun _ _ _ _ _ => (pg_name (i := 11) sc_law_worlds.nd rfl (.inl rfl))) (fun _ _ _ _ _ => pts_nil) (fun _ _ _ _ _ => (pe_callTy call_int1 (by rfl) B.int (by decide +kernel) (pa_cons (pe_cmpR op_le (pv 11) (pv 10) (nomark _)) pa_nil))))))
 (pss_cons (ps_setLc (i := 2) (own := [("_law_i", 10)]) rfl sc_law_worlds.nd rfl rfl (sw_true rfl rfl rfl (by decide +kernel)) (pi_range1 (by rfl) B.range (pa_cons (pv 0) pa_nil)) (blkOk_by (own := [("_law_i", 10)]) (by kernel_rfl)) (fun _ _ _ _ _ => (pg_name (i := 10) sc_law_worlds.nd rfl (by first | exact Or.inl rfl | exact Or.inr rfl))) (fun _ _ _ _ _ => pts_nil) (fun _ _ _ _ _ => (pe_lc (own := [("_law_j", 11)]) rfl sc_law_worlds.nd (pi_range1 (by rfl) B.range (pa_cons (pv 0) pa_nil)) (blkOk_by (own := [("_law_j", 11)]) (by kernel_rfl)) (fun _ _ _ _ _ => (pg_name (i := 11) sc_law_worlds.nd rfl (.inl rfl))) (fun _ _ _ _ _ => pts_nil) (fun _ _ _ _ _ => (pe_callTy call_int1 (by rfl) B.int (by decide +kernel) (pa_cons (pe_cmpR (op_eqU K hr.units) (pv 10) (pv 11) (nomark _)) pa_nil))))))
 (pss_cons (ps_setLc (i := 3) (own := [("_law_i", 10)]) rfl sc_law_worlds.nd rfl rfl (sw_true rfl rfl rfl (by decide +kernel)) (pi_range1 (by rfl) B.range (pa_cons (pv 0) pa_nil)) (blkOk_by (own := [("_law_i", 10)]) (by kernel_rfl)) (fun _ _ _ _ _ => (pg_name (i := 10) sc_law_worlds.nd rfl (by first | exact Or.inl rfl | exact Or.inr rfl))) (fun _ _ _ _ _ => pts_nil) (fun _ _ _ _ _ => (pe_lc (own := [("_law_j", 11)]) rfl sc_law_worlds.nd (pi_range1 (by rfl) B.range (pa_cons (pv 0) pa_nil)) (blkOk_by (own := [("_law_j", 11)]) (by kernel_rfl)) (fun _ _ _ _ _ => (pg_name (i := 11) sc_law_worlds.nd rfl (.inl rfl))) (fun _ _ _ _ _ => pts_nil) (fun _ _ _ _ _ => (pe_callTy call_int1 (by rfl) B.int (by decide +kernel) (pa_cons (pe_or (pe_cmpR (op_eqU K hr.units) (pv 10) pe_int (nomark _)) (pe_one (pe_cmpR (op_eqU K hr.units) (pv 11) pe_int (nomark _)))) pa_nil))))))
 (pss_cons (ps_setLc (i := 4) (own := [("_law_i", 10)]) rfl sc_law_worlds.nd rfl rfl (sw_true rfl rfl rfl (by decide +kernel)) (pi_range1 (by rfl) B.range (pa_cons (pv 0) pa_nil)) (blkOk_by (own := [("_law_i", 10)]) (by kernel_rfl)) (fun _ _ _ _ _ => (pg_name (i := 10) sc_law_worlds.nd rfl (by first | exact Or.inl rfl | exact Or.inr rfl))) (fun _ _ _ _ _ => pts_nil) (fun _ _ _ _ _ => (pe_lc (own := [("_law_j", 11)]) rfl sc_law_worlds.nd (pi_range1 (by rfl) B.range (pa_cons (pv 0) pa_nil)) (blkOk_by (own := [("_law_j", 11)]) (by kernel_rfl)) (fun _ _ _ _ _ => (pg_name (i := 11) sc_law_worlds.nd rfl (.inl rfl))) (fun _ _ _ _ _ => pts_nil) (fun _ _ _ _ _ => (pe_callTy call_int1 (by rfl) B.int (by decide +kernel) (pa_cons (pe_cmpR (inK K) (pv 11) (pe_tup (pa_cons (pv 10) (pa_cons (pe_op op_addU (pv 10) pe_int) pa_nil))) (by with_unfolding_all rfl)) pa_nil))))))
 (pss_cons (ps_setLc (i := 5) (own := [("_law_i", 10)]) rfl sc_law_worlds.nd rfl rfl (sw_true rfl rfl rfl (by decide +kernel)) (pi_range1 (by rfl) B.range (pa_cons (pv 0) pa_nil)) (blkOk_by (own := [("_law_i", 10)]) (by kernel_rfl)) (fun _ _ _ _ _ => (pg_name (i := 10) sc_law_worlds.nd rfl (by first | exact Or.inl rfl | exact Or.inr rfl))) (fun _ _ _ _ _ => pts_nil) (fun _ _ _ _ _ => (pe_lc (own := [("_law_j", 11)]) rfl sc_law_worlds.nd (pi_range1 (by rfl) B.range (pa_cons (pv 0) pa_nil)) (blkOk_by (own := [("_law_j", 11)]) (by kernel_rfl)) (fun _ _ _ _ _ => (pg_name (i := 11) sc_law_worlds.nd rfl (.inl rfl))) (fun _ _ _ _ _ => pts_nil) (fun _ _ _ _ _ => (pe_callTy call_int1 (by rfl) B.int (by decide +kernel) (pa_cons (pe_cmpR (op_eqU K hr.units) (pe_op op_fdiv (pv 10) pe_int) (pe_op op_fdiv (pv 11) pe_int) (nomark _)) pa_nil))))))
 (pss_cons (ps_setLc (i := 6) (own := [("_law_i", 10)]) rfl sc_law_worlds.nd rfl rfl (sw_true rfl rfl rfl (by decide +kernel)) (pi_range1 (by rfl) B.range (pa_cons (pv 0) pa_nil)) (blkOk_by (own := [("_law_i", 10)]) (by kernel_rfl)) (fun _ _ _ _ _ => (pg_name (i := 10) sc_law_worlds.nd rfl (.inl rfl))) (fun _ _ _ _ _ => pts_nil) (fun _ _ _ _ _ => (pe_lc (own := [("_law_j", 11)]) rfl sc_law_worlds.nd (pi_range1 (by rfl) B.range (pa_cons (pv 0) pa_nil)) (blkOk_by (own := [("_law_j", 11)]) (by kernel_rfl)) (fun _ _ _ _ _ => (pg_name (i := 11) sc_law_worlds.nd rfl (.inl rfl))) (fun _ _ _ _ _ => pts_nil) (fun _ _ _ _ _ => (pe_callTy call_int1 (by rfl) B.int (by decide +kernel) (pa_cons (pe_cmpR op_lt (pv 11) (pe_op op_fdiv (pv 0) pe_int) (nomark _)) pa_nil))))))
 (pss_cons (ps_set (i := 7) sc_law_worlds.nd rfl (.inl rfl) (pe_lst (pa_cons (pe_tup (pa_cons (pv 8) (pa_cons (pv 0) pa_nil))) (pa_cons (pe_tup (pa_cons (pv 9) (pa_cons pe_int pa_nil))) (pa_cons (pe_tup (pa_cons (pv 1) (pa_cons (pv 0) pa_nil))) (pa_cons (pe_tup (pa_cons (pv 2) (pa_cons (pv 0) pa_nil))) (pa_cons (pe_tup (pa_cons (pv 3) (pa_cons (pe_callB (call_min2 rfl) (by rfl) B.min (by decide +kernel) (pa_cons (pv 0) (pa_cons pe_int pa_nil))) pa_nil))) (pa_cons (pe_tup (pa_cons (pv 4) (pa_cons (pv 0) pa_nil))) (pa_cons (pe_tup (pa_cons (pv 5) (pa_cons (pv 0) pa_nil))) pa_nil)))))))))
 (pss_one (ps_ret (pe_op op_addU (pv 7) (pe_lst (pa_cons (pe_tup (pa_cons (pv 6) (pa_cons (pe_op op_fdiv (pv 0) pe_int) pa_nil))) (pa_cons (pe_tup (pa_cons (pe_lst (pa_cons (pe_op op_mulU (pe_lst (pa_cons pe_int pa_nil)) (pv 0)) pa_nil)) (pa_cons pe_int pa_nil))) (pa_cons (pe_tup (pa_cons (pe_lc (own := [("_law_i", 10)]) rfl sc_law_worlds.nd (pi_range1 (by rfl) B.range (pa_cons (pv 0) pa_nil)) (blkOk_by (own := [("_law_i", 10)]) (by kernel_rfl)) (fun _ _ _ _ _ => (pg_name (i := 10) sc_law_worlds.nd rfl (.inl rfl))) (fun _ _ _ _ _ => pts_nil) (fun _ _ _ _ _ => (pe_lst (pa_cons pe_int pa_nil)))) (pa_cons pe_int pa_nil))) pa_nil))))))))))))))), ?_⟩
  exact run_w (k := 11) ((sim_seq (sim_par2 (sim_consT (sim_sh (sim_lc (sim_r1 sim_var) (sim_name (vs := [10]) (by decide)) sim_yes (sim_op od_mul (sim_lst (sim_cons sim_int sim_nil)) sim_var))) (sim_consT (sim_sh (sim_lc (sim_r1 sim_var) (sim_name (vs := [10]) (by decide)) sim_yes (sim_op od_mul (sim_lst (sim_cons sim_int sim_nil)) sim_var))) sim_nilT)))
 (sim_seq (sim_asg (sim_lc (sim_r1 sim_var) (sim_name (vs := [10]) (by decide)) sim_yes (sim_lc (sim_r1 sim_var) (sim_name (vs := [11]) (by decide)) sim_yes (sim_cb cb_int (sim_cons (sim_op od_le sim_var sim_var) sim_nil)))) (sim_name (vs := [1]) (by decide)))
 (sim_seq (sim_asg (sim_lc (sim_r1 sim_var) (sim_name (vs := [10]) (by decide)) sim_yes (sim_lc (sim_r1 sim_var) (sim_name (vs := [11]) (by decide)) sim_yes (sim_cb cb_int (sim_cons (sim_op od_eq sim_var sim_var) sim_nil)))) (sim_name (vs := [2]) (by decide)))
 (sim_seq (sim_asg (sim_lc (sim_r1 sim_var) (sim_name (vs := [10]) (by decide)) sim_yes (sim_lc (sim_r1 sim_var) (sim_name (vs := [11]) (by decide)) sim_yes (sim_cb cb_int (sim_cons (sim_orV (sim_op od_eq sim_var sim_int) (sim_op od_eq sim_var sim_int)) sim_nil)))) (sim_name (vs := [3]) (by decide)))
 (sim_seq (sim_asg (sim_lc (sim_r1 sim_var) (sim_name (vs := [10]) (by decide)) sim_yes (sim_lc (sim_r1 sim_var) (sim_name (vs := [11]) (by decide)) sim_yes (sim_cb cb_int (sim_cons (sim_op od_in sim_var (sim_tup (sim_cons sim_var (sim_cons (sim_op od_add sim_var sim_int) sim_nil)))) sim_nil)))) (sim_name (vs := [4]) (by decide)))
 (sim_seq (sim_asg (sim_lc (sim_r1 sim_var) (sim_name (vs := [10]) (by decide)) sim_yes (sim_lc (sim_r1 sim_var) (sim_name (vs := [11]) (by decide)) sim_yes (sim_cb cb_int (sim_cons (sim_op od_eq (sim_op od_fdiv sim_var sim_int) (sim_op od_fdiv sim_var sim_int)) sim_nil)))) (sim_name (vs := [5]) (by decide)))
 (sim_seq (sim_asg (sim_lc (sim_r1 sim_var) (sim_name (vs := [10]) (by decide)) sim_yes (sim_lc (sim_r1 sim_var) (sim_name (vs := [11]) (by decide)) sim_yes (sim_cb cb_int (sim_cons (sim_op od_lt sim_var (sim_op od_fdiv sim_var sim_int)) sim_nil)))) (sim_name (vs := [6]) (by decide)))
 (sim_seq (sim_asg (sim_lst (sim_cons (sim_tup (sim_cons sim_var (sim_cons sim_var sim_nil))) (sim_cons (sim_tup (sim_cons sim_var (sim_cons sim_int sim_nil))) (sim_cons (sim_tup (sim_cons sim_var (sim_cons sim_var sim_nil))) (sim_cons (sim_tup (sim_cons sim_var (sim_cons sim_var sim_nil))) (sim_cons (sim_tup (sim_cons sim_var (sim_cons (sim_cb cb_min2 (sim_cons sim_var (sim_cons sim_int sim_nil))) sim_nil))) (sim_cons (sim_tup (sim_cons sim_var (sim_cons sim_var sim_nil))) (sim_cons (sim_tup (sim_cons sim_var (sim_cons sim_var sim_nil))) sim_nil)))))))) (sim_name (vs := [7]) (by decide)))
 (sim_ret (sim_opT on_addU sim_var (sim_lst (sim_cons (sim_tup (sim_cons sim_var (sim_cons (sim_op od_fdiv sim_var sim_int) sim_nil))) (sim_cons (sim_tup (sim_cons (sim_lst (sim_cons (sim_op od_mul (sim_lst (sim_cons sim_int sim_nil)) sim_var) sim_nil)) (sim_cons sim_int sim_nil))) (sim_cons (sim_tup (sim_cons (sim_lc (sim_r1 sim_var) (sim_name (vs := [10]) (by decide)) sim_yes (sim_lst (sim_cons sim_int sim_nil))) (sim_cons sim_int sim_nil))) sim_nil))))))))))))))) rfl h
abbrev st_law_turned : Stmt := topS 33
theorem sc_law_turned : FnScope ["_law_box_here", "_law_table", "_law_rows", "_law_columns", "_law_i", "_law_j"] ["_law_box_here", "_law_table"] (defScope st_law_turned) := ⟨rfl, rfl, rfl, by decide +kernel, rfl, by decide +kernel, by decide +kernel⟩
def w_law_turned : WF := wFn true 1 4 (wSeq (wParN [2, 3] (wConsT (wSh (wCallB 0 w_law_strewn (wCons (wFz (wRgL (wCb oLen (wCons (wVar 1) wNil)))) wNil))) (wConsT (wSh (wCallB 0 w_law_strewn (wCons (wFz (wRgL (wCb oLen (wCons (wOp oIx (wVar 1) (wC (.int 0))) wNil)))) wNil))) wNilT)))
 (wRet (wLcT (wIt (wVar 2)) (wName 4) wYes (wLcT (wIt (wVar 3)) (wName 5) wYes (wSh (wOp oIx (wOp oIx (wVar 1) (wVar 4)) (wVar 5))) [5]) [4])))
theorem w_law_turned_len {ds : List PyData} {N : Nat} {R : T → Nat → Prop} (h : w_law_turned ds N R) : ds.length = 1 := h.1
theorem ok_law_turned {f : Addr} {fd : FuncData} (F : Fun K "_law_turned" "_law_turned" st_law_turned f fd) (B : Bm mg) {f_law_strewn : Addr} {fd_law_strewn : FuncData} (d_law_strewn : Df P w K mg base 2 "_law_strewn" st_law_strewn ["_law_box_here", "_law_some"] f_law_strewn fd_law_strewn (spW true 1 w_law_strewn)) : FnOk P w K mg base CX0 3 f fd ["_law_box_here", "_law_table"] (spW true 1 w_law_turned) := by
  refine F.ok sc_law_turned (fun vs H Q E h => spW_len h) (fun cdv A outer s H vs Q E hr h => ?_)
  refine ⟨_, (pss_cons (ps_asg (pe_tup (pa_cons (pe_call d_law_strewn.G (hr.mono (by omega)) (by rfl) d_law_strewn.g d_law_strewn.F.kp d_law_strewn.b .nil pass0 (pa_cons (pv 0) (pa_cons (pe_listRg rfl (by rfl) B.list (prg_1 (by rfl) B.range (pe_callB (lenK K) (by rfl) B.len (by decide +kernel) (pa_cons (pv 1) pa_nil)))) pa_nil))) (pa_cons (pe_call d_law_strewn.G (hr.mono (by omega)) (by rfl) d_law_strewn.g d_law_strewn.F.kp d_law_strewn.b .nil pass0 (pa_cons (pv 0) (pa_cons (pe_listRg rfl (by rfl) B.list (prg_1 (by rfl) B.range (pe_callB (lenK K) (by rfl) B.len (by decide +kernel) (pa_cons (pe_ix (ixSK K) (pv 1) pe_int (fun _ _ => rfl)) pa_nil)))) pa_nil))) pa_nil))) (pg_tupK K (n := 2) rfl (pgs_cons (pg_name (i := 2) sc_law_turned.nd rfl (.inl rfl)) (pgs_cons (pg_name (i := 3) sc_law_turned.nd rfl (.inr rfl)) pgs_nil))))
 (pss_one (ps_ret (pe_lc (own := [("_law_i", 4)]) rfl sc_law_turned.nd (pi_seq K (pv 2)) (blkOk_by (own := [("_law_i", 4)]) (by kernel_rfl)) (fun _ _ _ _ _ => (pg_name (i := 4) sc_law_turned.nd rfl (by first | exact Or.inl rfl | exact Or.inr rfl))) (fun _ _ _ _ _ => pts_nil) (fun _ _ _ _ _ => (pe_lc (own := [("_law_j", 5)]) rfl sc_law_turned.nd (pi_seq K (pv 3)) (blkOk_by (own := [("_law_j", 5)]) (by kernel_rfl)) (fun _ _ _ _ _ => (pg_name (i := 5) sc_law_turned.nd rfl (.inl rfl))) (fun _ _ _ _ _ => pts_nil) (fun _ _ _ _ _ => (pe_ix (ixSK K) (pe_ix (ixSK K) (pv 1) (pv 4) (fun _ _ => rfl)) (pv 5) (fun _ _ => rfl))))))))), ?_⟩
  exact run_w (k := 4) ((sim_seq (sim_parG2 (sim_consT (sim_sh (sim_callB w_law_strewn_len (sim_cons (sim_fz (sim_rgL (sim_cb cb_len (sim_cons sim_var sim_nil)))) sim_nil))) (sim_consT (sim_sh (sim_callB w_law_strewn_len (sim_cons (sim_fz (sim_rgL (sim_cb cb_len (sim_cons (sim_op od_ix sim_var sim_int) sim_nil)))) sim_nil))) sim_nilT)))
 (sim_ret (sim_lcT (sim_it sim_var) (sim_name (vs := [4]) (by decide)) sim_yes (sim_lcT (sim_it sim_var) (sim_name (vs := [5]) (by decide)) sim_yes (sim_sh (sim_op od_ix (sim_op od_ix sim_var sim_var) sim_var))))))) rfl h
abbrev st_law_world_right : Stmt := topS 34
theorem sc_law_world_right : FnScope ["_law_table", "_law_count", "_law_turn", "_law_cover", "_law_pairs", "_law_steps", "_law_more"] ["_law_table", "_law_count"] (defScope st_law_world_right) := ⟨rfl, rfl, rfl, by decide +kernel, rfl, by decide +kernel, by decide +kernel⟩
def w_law_world_right : WF := wFn false 2 5 (wSeq (wParN [4, 5] (wConsT (wSh (wLst wNil)) (wConsT (wSh (wC (.int 0))) wNilT)))
 (wSeq (wFor (wRng1 (wC (.int 13))) (wName 2)
 (wSeq (wAsg (wCall w_grown (wCons (wVar 0) (wCons (wVar 4) wNil))) (wName 6))
 (wIfS (wTest (wOp oIsNot (wVar 6) (wC .none)))
 (wParN [4, 5] (wConsT (wSh (wVar 6)) (wConsT (wSh (wOp oAdd (wVar 5) (wC (.int 1)))) wNilT)))
 wSkip)))
 (wSeq (wIfS (wOr (wTest (wOp oNe (wVar 5) (wVar 1))) (wOr (wNot (wTest (wCall w_are_pairs (wCons (wVar 0) (wCons (wVar 4) wNil))))) (wTest (wOp oIsNot (wCall w_grown (wCons (wVar 0) (wCons (wVar 4) wNil))) (wC .none)))))
 (wRet (wSh (wC (.bool false))))
 wSkip)
 (wSeq (wAsg (wCall w_cover_of (wCons (wVar 0) wNil)) (wName 3))
 (wSeq (wIfS (wOr (wTest (wOp oNe (wCb oLen (wCons (wCall w_most_pairs (wCons (wVar 0) wNil)) wNil)) (wVar 1))) (wTest (wOp oNe (wOp oAdd (wCb oLen (wCons (wOp oIx (wVar 3) (wC (.int 0))) wNil)) (wCb oLen (wCons (wOp oIx (wVar 3) (wC (.int 1))) wNil))) (wVar 1))))
 (wRet (wSh (wC (.bool false))))
 wSkip)
 (wRet (wSh (wAndV (wOp (oIsB false) (wCall w_shows_most (wCons (wVar 0) (wCons (wVar 4) (wCons (wVar 3) wNil)))) (wC (.bool true))) (wCall w_are_pairs (wCons (wVar 0) (wCons (wCall w_most_pairs (wCons (wVar 0) wNil)) wNil)))))))))))
theorem w_law_world_right_len {ds : List PyData} {N : Nat} {R : T → Nat → Prop} (h : w_law_world_right ds N R) : ds.length = 2 := h.1
theorem ok_law_world_right {f : Addr} {fd : FuncData} (F : Fun K "_law_world_right" "_law_world_right" st_law_world_right f fd) (B : Bm mg) {f_are_pairs : Addr} {fd_are_pairs : FuncData} (d_are_pairs : Df P w K mg base 5 "are_pairs" st_are_pairs ["table", "thing"] f_are_pairs fd_are_pairs (spW false 2 w_are_pairs)) {f_cover_of : Addr} {fd_cover_of : FuncData} (d_cover_of : Df P w K mg base 6 "cover_of" st_cover_of ["table"] f_cover_of fd_cover_of (spW false 1 w_cover_of)) {f_grown : Addr} {fd_grown : FuncData} (d_grown : Df P w K mg base 4 "grown" st_grown ["table", "pairs"] f_grown fd_grown (spW false 2 w_grown)) {f_most_pairs : Addr} {fd_most_pairs : FuncData} (d_most_pairs : Df P w K mg base 5 "most_pairs" st_most_pairs ["table"] f_most_pairs fd_most_pairs (spW false 1 w_most_pairs)) {f_shows_most : Addr} {fd_shows_most : FuncData} (d_shows_most : Df P w K mg base 6 "shows_most" st_shows_most ["table", "pairs", "thing"] f_shows_most fd_shows_most (spW false 3 w_shows_most)) : FnOk P w K mg base CX0 7 f fd ["_law_table", "_law_count"] (spW false 2 w_law_world_right) := by
  refine F.ok sc_law_world_right (fun vs H Q E h => spW_len h) (fun cdv A outer s H vs Q E hr h => ?_)
  refine ⟨_, (pss_cons (ps_par (i := 4) (j := 5) (by rfl) sc_law_world_right.nd rfl rfl (by decide) rfl rfl (pa_cons (pe_lst pa_nil) (pa_cons pe_int pa_nil)) (by rfl))
 (pss_cons (ps_for PassesOwn.never rfl (pi_range1 (by rfl) B.range (pa_cons pe_int pa_nil)) (pg_name (i := 2) sc_law_world_right.nd rfl (.inl rfl))
 (pss_cons (ps_set (i := 6) sc_law_world_right.nd rfl (.inl rfl) (pe_call d_grown.G (hr.mono (by omega)) (by rfl) d_grown.g d_grown.F.kp d_grown.b .nil pass0 (pa_cons (pv 0) (pa_cons (pv 4) pa_nil))))
 (pss_one (ps_if (pt_cmpR op_notN (pv 6) pe_non (nomark _))
 (pss_one (ps_par (i := 4) (j := 5) (by rfl) sc_law_world_right.nd rfl rfl (by decide) rfl rfl (pa_cons (pv 6) (pa_cons (pe_op op_addU (pv 5) pe_int) pa_nil)) (by rfl)))
 pss_nil))))
 (pss_cons (ps_if (PW.pt (pw_or (pt_cmpR (op_neU K hr.units) (pv 5) (pv 1) (nomark _)) (pw_or (pt_not (pt_val (pe_call d_are_pairs.G (hr.mono (by omega)) (by rfl) d_are_pairs.g d_are_pairs.F.kp d_are_pairs.b .nil pass0 (pa_cons (pv 0) (pa_cons (pv 4) pa_nil))))) (pw_or1 (pt_cmpR op_notN (pe_call d_grown.G (hr.mono (by omega)) (by rfl) d_grown.g d_grown.F.kp d_grown.b .nil pass0 (pa_cons (pv 0) (pa_cons (pv 4) pa_nil))) pe_non (nomark _))))))
 (pss_one (ps_ret pe_bl))
 pss_nil)
 (pss_cons (ps_set (i := 3) sc_law_world_right.nd rfl (.inl rfl) (pe_call d_cover_of.G (hr.mono (by omega)) (by rfl) d_cover_of.g d_cover_of.F.kp d_cover_of.b .nil pass0 (pa_cons (pv 0) pa_nil)))
 (pss_cons (ps_if (PW.pt (pw_or (pt_cmpR (op_neU K hr.units) (pe_callB (lenK K) (by rfl) B.len (by decide +kernel) (pa_cons (pe_call d_most_pairs.G (hr.mono (by omega)) (by rfl) d_most_pairs.g d_most_pairs.F.kp d_most_pairs.b .nil pass0 (pa_cons (pv 0) pa_nil)) pa_nil)) (pv 1) (nomark _)) (pw_or1 (pt_cmpR (op_neU K hr.units) (pe_op op_addU (pe_callB (lenK K) (by rfl) B.len (by decide +kernel) (pa_cons (pe_ix (ixSK K) (pv 3) pe_int (fun _ _ => rfl)) pa_nil)) (pe_callB (lenK K) (by rfl) B.len (by decide +kernel) (pa_cons (pe_ix (ixSK K) (pv 3) pe_int (fun _ _ => rfl)) pa_nil))) (pv 1) (nomark _)))))
 (pss_one (ps_ret pe_bl))
 pss_nil)
 (pss_one (ps_ret (pe_and (pe_cmpR op_isB (pe_call d_shows_most.G (hr.mono (by omega)) (by rfl) d_shows_most.g d_shows_most.F.kp d_shows_most.b .nil pass0 (pa_cons (pv 0) (pa_cons (pv 4) (pa_cons (pv 3) pa_nil)))) pe_bl (nomark _)) (pe_one (pe_call d_are_pairs.G (hr.mono (by omega)) (by rfl) d_are_pairs.g d_are_pairs.F.kp d_are_pairs.b .nil pass0 (pa_cons (pv 0) (pa_cons (pe_call d_most_pairs.G (hr.mono (by omega)) (by rfl) d_most_pairs.g d_most_pairs.F.kp d_most_pairs.b .nil pass0 (pa_cons (pv 0) pa_nil)) pa_nil)))))))))))), ?_⟩
  exact run_w (k := 5) ((sim_seq (sim_par2 (sim_consT (sim_sh (sim_lst sim_nil)) (sim_consT (sim_sh sim_int) sim_nilT)))
 (sim_seq (sim_for (sim_r1 sim_int) (sim_name (vs := [2]) (by decide))
 (sim_seq (sim_asg (sim_call w_grown_len (sim_cons sim_var (sim_cons sim_var sim_nil))) (sim_name (vs := [6]) (by decide)))
 (sim_ifS (sim_test (sim_op od_isnot sim_var sim_non))
 (sim_par2 (sim_consT (sim_sh sim_var) (sim_consT (sim_sh (sim_op od_add sim_var sim_int)) sim_nilT)))
 sim_skip)))
 (sim_seq (sim_ifS (sim_or (sim_test (sim_op od_ne sim_var sim_var)) (sim_or (sim_not (sim_tB (sim_call w_are_pairs_len (sim_cons sim_var (sim_cons sim_var sim_nil))))) (sim_test (sim_op od_isnot (sim_call w_grown_len (sim_cons sim_var (sim_cons sim_var sim_nil))) sim_non))))
 (sim_ret (sim_sh sim_bl))
 sim_skip)
 (sim_seq (sim_asg (sim_call w_cover_of_len (sim_cons sim_var sim_nil)) (sim_name (vs := [3]) (by decide)))
 (sim_seq (sim_ifS (sim_or (sim_test (sim_op od_ne (sim_cb cb_len (sim_cons (sim_call w_most_pairs_len (sim_cons sim_var sim_nil)) sim_nil)) sim_var)) (sim_test (sim_op od_ne (sim_op od_add (sim_cb cb_len (sim_cons (sim_op od_ix sim_var sim_int) sim_nil)) (sim_cb cb_len (sim_cons (sim_op od_ix sim_var sim_int) sim_nil))) sim_var)))
 (sim_ret (sim_sh sim_bl))
 sim_skip)
 (sim_ret (sim_sh (sim_andV (sim_op od_isB (sim_call w_shows_most_len (sim_cons sim_var (sim_cons sim_var (sim_cons sim_var sim_nil)))) sim_bl) (sim_call w_are_pairs_len (sim_cons sim_var (sim_cons (sim_call w_most_pairs_len (sim_cons sim_var sim_nil)) sim_nil)))))))))))) rfl h
abbrev st_law_chain_right : Stmt := topS 35
theorem sc_law_chain_right : FnScope ["_law_n", "_law_table", "_law_pairs", "_law_i", "_law_j"] ["_law_n"] (defScope st_law_chain_right) := ⟨rfl, rfl, rfl, by decide +kernel, rfl, by decide +kernel, by decide +kernel⟩
def w_law_chain_right : WF := wFn false 1 4 (wSeq (wAsg (wLc (wRng1 (wVar 0)) (wName 3) wYes (wLc (wRng1 (wVar 0)) (wName 4) wYes (wCb oInt (wCons (wOp (oIn false) (wVar 4) (wTup (wCons (wVar 3) (wCons (wOp oAdd (wVar 3) (wC (.int 1))) wNil)))) wNil)) [4]) [3]) (wName 1))
 (wSeq (wAsg (wLc (wRng1 (wOp oSub (wVar 0) (wC (.int 1)))) (wName 3) wYes (wTup (wCons (wVar 3) (wCons (wOp oAdd (wVar 3) (wC (.int 1))) wNil))) [3]) (wName 2))
 (wRet (wSh (wOp oEq (wCall w_grown (wCons (wVar 1) (wCons (wVar 2) wNil))) (wLc (wRng1 (wVar 0)) (wName 3) wYes (wTup (wCons (wVar 3) (wCons (wVar 3) wNil))) [3]))))))
theorem w_law_chain_right_len {ds : List PyData} {N : Nat} {R : T → Nat → Prop} (h : w_law_chain_right ds N R) : ds.length = 1 := h.1
theorem ok_law_chain_right {f : Addr} {fd : FuncData} (F : Fun K "_law_chain_right" "_law_chain_right" st_law_chain_right f fd) (B : Bm mg) {f_grown : Addr} {fd_grown : FuncData} (d_grown : Df P w K mg base 4 "grown" st_grown ["table", "pairs"] f_grown fd_grown (spW false 2 w_grown)) : FnOk P w K mg base CX0 5 f fd ["_law_n"] (spW false 1 w_law_chain_right) := by
  refine F.ok sc_law_chain_right (fun vs H Q E h => spW_len h) (fun cdv A outer s H vs Q E hr h => ?_)
  refine ⟨_, (pss_cons (ps_setLc (i := 1) (own := [("_law_i", 3)]) rfl sc_law_chain_right.nd rfl rfl (sw_true rfl rfl rfl (by decide +kernel)) (pi_range1 (by rfl) B.range (pa_cons (pv 0) pa_nil)) (blkOk_by (own := [("_law_i", 3)]) (by kernel_rfl)) (fun _ _ _ _ _ => (pg_name (i := 3) sc_law_chain_right.nd rfl (by first | exact Or.inl rfl | exact Or.inr rfl))) (fun _ _ _ _ _ => pts_nil) (fun _ _ _ _ _ => (pe_lc (own := [("_law_j", 4)]) rfl sc_law_chain_right.nd (pi_range1 (by rfl) B.range (pa_cons (pv 0) pa_nil)) (blkOk_by (own := [("_law_j", 4)]) (by kernel_rfl)) (fun _ _ _ _ _ => (pg_name (i := 4) sc_law_chain_right.nd rfl (.inl rfl))) (fun _ _ _ _ _ => pts_nil) (fun _ _ _ _ _ => (pe_callTy call_int1 (by rfl) B.int (by decide +kernel) (pa_cons (pe_cmpR (inK K) (pv 4) (pe_tup (pa_cons (pv 3) (pa_cons (pe_op op_addU (pv 3) pe_int) pa_nil))) (by with_unfolding_all rfl)) pa_nil))))))
 (pss_cons (ps_setLc (i := 2) (own := [("_law_i", 3)]) rfl sc_law_chain_right.nd rfl rfl (sw_true rfl rfl rfl (by decide +kernel)) (pi_range1 (by rfl) B.range (pa_cons (pe_op op_sub (pv 0) pe_int) pa_nil)) (blkOk_by (own := [("_law_i", 3)]) (by kernel_rfl)) (fun _ _ _ _ _ => (pg_name (i := 3) sc_law_chain_right.nd rfl (.inl rfl))) (fun _ _ _ _ _ => pts_nil) (fun _ _ _ _ _ => (pe_tup (pa_cons (pv 3) (pa_cons (pe_op op_addU (pv 3) pe_int) pa_nil)))))
 (pss_one (ps_ret (pe_cmpR (op_eqU K hr.units) (pe_call d_grown.G (hr.mono (by omega)) (by rfl) d_grown.g d_grown.F.kp d_grown.b .nil pass0 (pa_cons (pv 1) (pa_cons (pv 2) pa_nil))) (pe_lc (own := [("_law_i", 3)]) rfl sc_law_chain_right.nd (pi_range1 (by rfl) B.range (pa_cons (pv 0) pa_nil)) (blkOk_by (own := [("_law_i", 3)]) (by kernel_rfl)) (fun _ _ _ _ _ => (pg_name (i := 3) sc_law_chain_right.nd rfl (.inl rfl))) (fun _ _ _ _ _ => pts_nil) (fun _ _ _ _ _ => (pe_tup (pa_cons (pv 3) (pa_cons (pv 3) pa_nil))))) (nomark _)))))), ?_⟩
  exact run_w (k := 4) ((sim_seq (sim_asg (sim_lc (sim_r1 sim_var) (sim_name (vs := [3]) (by decide)) sim_yes (sim_lc (sim_r1 sim_var) (sim_name (vs := [4]) (by decide)) sim_yes (sim_cb cb_int (sim_cons (sim_op od_in sim_var (sim_tup (sim_cons sim_var (sim_cons (sim_op od_add sim_var sim_int) sim_nil)))) sim_nil)))) (sim_name (vs := [1]) (by decide)))
 (sim_seq (sim_asg (sim_lc (sim_r1 (sim_op od_sub sim_var sim_int)) (sim_name (vs := [3]) (by decide)) sim_yes (sim_tup (sim_cons sim_var (sim_cons (sim_op od_add sim_var sim_int) sim_nil)))) (sim_name (vs := [2]) (by decide)))
 (sim_ret (sim_sh (sim_op od_eq (sim_call w_grown_len (sim_cons sim_var (sim_cons sim_var sim_nil))) (sim_lc (sim_r1 sim_var) (sim_name (vs := [3]) (by decide)) sim_yes (sim_tup (sim_cons sim_var (sim_cons sim_var sim_nil)))))))))) rfl h
abbrev st_law : Stmt := topS 36
theorem sc_law : FnScope ["_law_script", "_law_cells", "_law_k", "_law_box_here", "_law_n", "_law_table", "_law_count"] ["_law_script"] (defScope st_law) := ⟨rfl, rfl, rfl, by decide +kernel, rfl, by decide +kernel, by decide +kernel⟩
end
end K11

set_option Elab.async false
set_option linter.all false
set_option maxRecDepth 100000
set_option maxHeartbeats 1000000
namespace K11
open PySem PySem.Spec PyProof.Rows L2 Evl Cg
local macro_rules
  | `(tactic| sizeOf_list_dec) => `(tactic| simp (config := {failIfUnchanged := false}) only [↓wVar_eq, ↓wC_eq, ↓wRetV_eq, ↓wFrz_eq, isBox_eq, ↓wNil_eq, ↓wCons_eq, ↓wOp_eq, ↓wOpT_eq, ↓wUn_eq, ↓wCb_eq, ↓wCbT_eq, ↓wTest_eq, ↓wTru_eq, ↓wYes_eq, ↓wNot_eq, ↓wAnd_eq, ↓wOr_eq, ↓wAndV_eq, ↓wOrV_eq, ↓wNotV_eq, ↓wIf_eq, ↓wIfT_eq, ↓wChain_eq, ↓wLst_eq, ↓wTup_eq, ↓wNilT_eq, ↓wConsT_eq, ↓wLstT_eq, ↓wTupT_eq, ↓wSh_eq, ↓wFz_eq, ↓wVw_eq, ↓wVb_eq, ↓wVt_eq, view_nil, view_cons, view_no, view_box, view_is, ↓wCall_eq, ↓wCallT_eq, ↓wCallB_eq, ↓wCallBT_eq, ↓wIs_eq, ↓wNoPart_eq, ↓wPart_eq, ↓wSl_eq, ↓wSlT_eq, ↓wRevT_eq, ↓wRgL_eq, ↓wSkip_eq, ↓wBreak_eq, ↓wCont_eq, ↓wSeq_eq, ↓seq_nx, ↓seq_rt, ↓seq_bk, ↓seq_ct, ↓loop_nx, ↓loop_rt, ↓loop_bk, ↓loop_ct, ↓fn_nx, ↓fn_rt, ↓wRet_eq, ↓wRetN_eq, ↓wIfS_eq, ↓wAsgT_eq, ↓wAsg_eq, ↓wParN_eq, setsE_cons, setsE_nil, ↓wDrop_eq, ↓wName_eq, ↓wGNil_eq, ↓wGCons_eq, ↓wGTup_eq, ↓wApp_eq, ↓wRev_eq, ↓wClr_eq, ↓wExt_eq, ↓wSet_eq, ↓wPop_eq, ↓wipe_nil, ↓wipe_cons, env0_f, env0_t, atSh_is, atIs_is, atOwn_is, atBox_is, bIf_t, bIf_f, bIf_not, dBool_is, dInt_is, dTup_is, dList_is, dSeq_list, dSeq_tup, dSeq_seq, dTru_none, dTru_bool, dTru_int, dTru_list, dTru_tup, dCons_is, oI_int, oI0_int, oAdd_int, oAdd_list, oMul_int, oMul_list, oNeg_int, oEq_int, oEq_bool, oEq_nn, oEq_in, oEq_ni, oNe_int, oNe_bool, oNe_nn, oNe_in, oNe_ni, oEq_list, oNe_list, oEq_tup, oNe_tup, oEq_str, oNe_str, oIx_list, oIx_tup, oIx_seq, oLen_list, oLen_tup, oLen_seq, oInt_int, oInt_bool, oAbs_int, oMin2_int, oMax2_int, oAll_is, oSum_is, oListD_list, oListD_tup, oListD_seq, oTuple_list, oTuple_tup, oTuple_seq, oRepr_is, oIs_none, oIsNot_none, in_nats_t, in_nats_f, oIn_list, oIn_seq, oList_list, oList_tup, oList_seq, oCat_list, oRep_list, atI_l0, atI_l1, atI_l2, exists_eq_left', exists_eq_left, wPickT_eq, ↓wDNew_eq, ↓wDPut_eq, ↓wDList_eq, atDic_is, ↓wDGet_eq, ↓wDIn_eq, ↓wDNotIn_eq, ↓wDGet1_eq, ↓wD0_eq, ↓wDKeys_eq, ↓wDSort_eq, ↓wDSet_eq, ↓wLk_eq, ↓wKeys_eq, ↓wItems_eq, atD_own, atD_frz, atD_sh, atDO_is, atF_is, ↓wPop0_eq, ↓wSelf_eq, ↓wMove_eq, ↓wRetVT_eq, ↓wApp2_eq, ↓wSet2_eq, ↓wSetP_eq, ↓wAug_eq, oCount_list, ↓wRetPick_eq, oIsB_is, ↓wBmL_eq, oIndexS_is, ↓wAppPop_eq, ↓wAppPopT_eq, ↓wRev2_eq, oSumS_list, oSumS_tup, oSumS_seq, ↓wRetV2_eq, atOwnB_lst, atOwnB_tup, atL_int, mkT_t, mkT_f, w_take_is, w_same_is, notI_none, notI_bool, notI_int, notI_str, notI_list, notI_tup, notI_seq, isNone_none, isNone_bool, isNone_int, isNone_str, isNone_list, isNone_tup, isInt_none, isInt_bool, isInt_int, isInt_str, isInt_list, isInt_tup, isBool_none, isBool_bool, isBool_int, isBool_str, isBool_list, isBool_tup, isList_none, isList_bool, isList_int, isList_str, isList_list, isList_tup, isTuple_none, isTuple_bool, isTuple_int, isTuple_str, isTuple_list, isTuple_tup, isStr_none, isStr_bool, isStr_int, isStr_str, isStr_list, isStr_tup, isNone_seq, isList_seq, isTuple_seq, isInt_seq, isBool_seq, isStr_seq, dTru_seq, List.isEmpty_nil, List.isEmpty_cons, beq_self_eq_true, decide_true, decide_false, T.clean, T.cleans, T.data, T.datas, imm, immAll, List.getElem?_cons_zero, List.getElem?_cons_succ, List.set_cons_zero, List.set_cons_succ, List.map_cons, List.map_nil, List.cons_append, List.nil_append, List.replicate_succ, List.replicate_zero, List.length_cons, List.length_nil, List.length_map, if_true, if_false, Bool.true_and, Bool.and_true, Bool.false_and, Bool.and_false, Bool.not_true, Bool.not_false, Bool.or_true, Bool.true_or, Bool.false_or, Bool.or_false, Bool.false_eq_true, reduceIte, reduceCtorEq, true_and, and_true, Option.some.injEq, Nat.reduceAdd, Nat.reduceLeDiff, Int.reduceLE, Int.reduceLT, Int.cast_ofNat_Int, Int.reduceBEq, Int.reduceToNat])
/-! tables -/
section
variable {N : Nat} {R : T → Nat → Prop} {k1 k2 k3 k4 : Bool} {M : Mat}
theorem outlets_in_spec {r : List Int} {Ms : Mat} (h : R (.sh (.int (r.length : Int))) N) : w_outlets_in [tabD k1 k2 (r :: Ms)] N R := by
  refine ⟨rfl, ?_⟩
  unfold tabD
  cases k1
  · show wRet _ _ [.is (.sh (.tuple _))] _
    sizeOf_list_dec
    unfold rowD
    sizeOf_list_dec
    exact h
  · show wRet _ _ [.is (.sh (.list _))] _
    sizeOf_list_dec
    unfold rowD
    sizeOf_list_dec
    exact h
theorem asks_of_spec (hz : Sz M) (h : R (.lst ((asksN M).map fun p => .sh (pD p))) N) : w_asks_of [tabD k1 k2 M] N R := by
  refine ⟨rfl, ?_⟩
  sizeOf_list_dec
  refine lcT2_f M.zipIdx (fun p => .tuple [.int (p.2 : Nat), rowD k2 p.1]) (fun p => p.1.zipIdx) (fun _ q => .tuple [.int (q.2 : Nat), .int q.1]) (fun p q => if q.1 == 1 then some (pD (p.2, q.2)) else none) (fun _ => true) ?_ (fun x X B hx hA hB => ?_) ?_ ?_
  · rw [← enum_map]
    exact gv_en (fun R h => by sizeOf_list_dec; exact h) (by unfold tabD; exact seqOf_seqD _ _)
  · sizeOf_list_dec
    refine gv_en (d := rowD k2 x.1) (ds := x.1.map PyData.int) (fun R h => by sizeOf_list_dec; exact h) (by unfold rowD; exact seqOf_seqD _ _) _ ?_
    rw [enum_map]
    refine hA rfl _ fun y A B hy hA hB => ?_
    sizeOf_list_dec
    cases e : (y.1 == 1) with
    | true => exact hA _ (by rw [e]; rfl)
    | false => exact hB (by rw [e]; rfl)
  · exact Nat.le_trans (Nat.le_of_eq (by unfold asksN askRow pD; simp only [if_true]; rw [List.length_flatMap, List.length_flatMap]; congr 2; funext p; rw [List.length_filterMap_eq_countP, List.length_filterMap_eq_countP]; congr 1; funext q; split <;> rfl)) (Nat.le_trans (asks_len hz) (by decide))
  · have e : (M.zipIdx.flatMap fun x => if true = true then x.1.zipIdx.filterMap (fun q => if q.1 == 1 then some (pD (x.2, q.2)) else none) else []) = (asksN M).map pD := by
      unfold asksN askRow
      rw [List.map_flatMap]
      simp only [if_true]
      congr 1
      funext x
      rw [List.map_filterMap]
      congr 1
      funext q
      split <;> rfl
    rw [e, List.map_map]
    exact h
theorem left_out_spec {I O : List Nat} (hz : Sz M) (h : R (.lst ((leftN I O M).map fun r => .lst (r.map fun x => .sh (.int x)))) N) : w_left_out [tabD k1 k2 M, seqD k3 (I.map nD), seqD k4 (O.map nD)] N R := by
  refine ⟨rfl, ?_⟩
  sizeOf_list_dec
  refine lcT_m M.zipIdx (fun p => .tuple [.int (p.2 : Nat), rowD k2 p.1]) (fun p => .lst (p.1.zipIdx.map fun q => .sh (.int (if cutB I O p.2 q.2 then 0 else q.1)))) ?_ (by rw [List.length_zipIdx]; have := hz.1; omega) (fun x A hx hA => ?_) ?_
  · rw [← enum_map]
    exact gv_en (fun R h => by sizeOf_list_dec; exact h) (by unfold tabD; exact seqOf_seqD _ _)
  · sizeOf_list_dec
    refine lcT_m x.1.zipIdx (fun q => .tuple [.int (q.2 : Nat), .int q.1]) (fun q => .sh (.int (if cutB I O x.2 q.2 then 0 else q.1))) ?_ (by rw [List.length_zipIdx]; have := hz.2 _ (zipIdx_fst hx); omega) (fun y A hy hA => ?_) hA
    · have e := enum_map PyData.int x.1
      rw [← e]
      exact gv_en (d := rowD k2 x.1) (fun R h => by sizeOf_list_dec; exact h) (by unfold rowD; exact seqOf_seqD _ _)
    · have eI : I.map nD = (I.map fun n : Nat => (n : Int)).map PyData.int := by rw [List.map_map]; rfl
      have eO : O.map nD = (O.map fun n : Nat => (n : Int)).map PyData.int := by rw [List.map_map]; rfl
      rw [eI, eO]
      sizeOf_list_dec
      rw [contains_nat, contains_nat]
      unfold cutB at hA
      cases hi : I.contains x.2 with
      | true =>
        rw [hi] at hA
        exact hA
      | false =>
        rw [hi] at hA
        sizeOf_list_dec
        cases ho : O.contains y.2 with
        | true =>
          rw [ho] at hA
          exact hA
        | false =>
          rw [ho] at hA
          exact hA
  · unfold leftN at h
    rw [List.map_map] at h
    have e : (fun p : List Int × Nat => T.lst (p.1.zipIdx.map fun q => T.sh (.int (if cutB I O p.2 q.2 then 0 else q.1)))) = ((fun r : List Int => T.lst (r.map fun x => T.sh (.int x))) ∘ fun p : List Int × Nat => p.1.zipIdx.map fun q => if cutB I O p.2 q.2 then 0 else q.1) := by
      funext p
      show _ = T.lst ((p.1.zipIdx.map _).map _)
      rw [List.map_map]
      rfl
    rw [e]
    exact h
theorem tab_data (M : Mat) : (T.lst (M.map fun r => T.lst (r.map fun x => T.sh (.int x)))).data = tabD true true M := by
  show PyData.list (T.datas _) = PyData.list _
  rw [datas_map, List.map_map]
  congr 1
  refine List.map_congr_left fun r _ => ?_
  show PyData.list (T.datas _) = PyData.list _
  rw [datas_map, List.map_map]
  rfl
theorem prs_data (ps : List Pr) : (T.lst (ps.map fun p => T.sh (pD p))).data = .list (ps.map pD) := by
  show PyData.list (T.datas _) = PyData.list _
  rw [datas_map, List.map_map]
  rfl
theorem nats_data (ns : List Nat) : (T.lst (ns.map fun n => T.sh (nD n))).data = .list (ns.map nD) := by
  show PyData.list (T.datas _) = PyData.list _
  rw [datas_map, List.map_map]
  rfl
end
/-! pairs -/
section
variable {N : Nat} {R : T → Nat → Prop} {k1 k2 k3 k4 : Bool} {M : Mat} {ps : List Pr}
theorem is_between_spec {i a b : Int} (h : R (.sh (.bool (decide (a ≤ i) && decide (i ≤ b)))) N) : w_is_between [.int i, .int a, .int b] N R := by
  refine ⟨rfl, ?_⟩
  sizeOf_list_dec
  refine ⟨rfl, ?_⟩
  sizeOf_list_dec
  refine bIf_dec (fun hc => ?_) fun hc => ?_
  · rw [decide_eq_true hc] at h
    exact h
  · rw [decide_eq_false hc] at h
    exact h
theorem is_place_spec {i : Int} {n : Nat} (h : R (.sh (.bool (decide (0 ≤ i) && decide (i < (n : Int))))) N) : w_is_place [.int i, .int (n : Int)] N R := by
  refine ⟨rfl, ?_⟩
  sizeOf_list_dec
  refine is_between_spec ?_
  have e : decide (i ≤ (n : Int) - 1) = decide (i < (n : Int)) := decide_eq_decide.mpr (by omega)
  rw [e]
  exact h
theorem is_rising_spec {ns : List Int} (hn : ns.length ≤ 40000) (h : R (.sh (.bool (risesB ns))) N) : w_is_rising [.list (ns.map PyData.int)] N R := by
  refine ⟨rfl, ?_⟩
  sizeOf_list_dec
  refine lc_m (ns.zip (ns.drop 1)) (fun p => .tuple [.int p.1, .int p.2]) (fun p => .bool (decide (p.1 < p.2))) ?_ (by rw [List.length_zip]; omega) (fun x A hx hA => ?_) ?_
  · rw [← zip_map]
    refine gv_zip (fun R h => by sizeOf_list_dec; exact h) (fun R h => by
      sizeOf_list_dec
      rw [show (1 : Int) = ((1 : Nat) : Int) from rfl, cut_from, ← List.map_drop]
      exact h)
  · sizeOf_list_dec
    exact hA
  · have e : (ns.zip (ns.drop 1)).map (fun p => PyData.bool (decide (p.1 < p.2))) = ((ns.zip (ns.drop 1)).map fun p => decide (p.1 < p.2)).map PyData.bool := by rw [List.map_map]; rfl
    rw [e]
    sizeOf_list_dec
    rw [rises_zip]
    exact h
theorem inlets_of_spec (hl : ps.length ≤ 40000) (h : R (.lst (ps.map fun p => .sh (nD p.1))) N) : w_inlets_of [seqD k3 (ps.map pD)] N R := by
  refine ⟨rfl, ?_⟩
  sizeOf_list_dec
  refine lcT_m ps pD (fun p => .sh (nD p.1)) (gv_it (fun R h => by sizeOf_list_dec; exact h) (seqOf_seqD _ _)) hl (fun x A hx hA => ?_) h
  unfold pD
  sizeOf_list_dec
  exact hA
theorem outlets_of_spec (hl : ps.length ≤ 40000) (h : R (.lst (ps.map fun p => .sh (nD p.2))) N) : w_outlets_of [seqD k3 (ps.map pD)] N R := by
  refine ⟨rfl, ?_⟩
  sizeOf_list_dec
  refine lcT_m ps pD (fun p => .sh (nD p.2)) (gv_it (fun R h => by sizeOf_list_dec; exact h) (seqOf_seqD _ _)) hl (fun x A hx hA => ?_) h
  unfold pD
  sizeOf_list_dec
  exact hA
theorem asks_left_spec (hz : Sz M) (hl : ps.length ≤ 40000) (h : R (.lst ((leftN (ps.map (·.1)) (ps.map (·.2)) M).map fun r => .lst (r.map fun x => .sh (.int x)))) N) : w_asks_left [tabD k1 k2 M, seqD k3 (ps.map pD)] N R := by
  refine ⟨rfl, ?_⟩
  sizeOf_list_dec
  refine inlets_of_spec hl (outlets_of_spec hl ?_)
  have e1 := nats_data (ps.map (·.1))
  have e2 := nats_data (ps.map (·.2))
  rw [List.map_map] at e1 e2
  rw [show (fun p : Pr => T.sh (nD p.1)) = ((fun n => T.sh (nD n)) ∘ fun x : Pr => x.1) from rfl, show (fun p : Pr => T.sh (nD p.2)) = ((fun n => T.sh (nD n)) ∘ fun x : Pr => x.2) from rfl, e1, e2]
  exact left_out_spec (k3 := true) (k4 := true) hz h
theorem free_ask_spec (hz : Sz M) (hl : ps.length ≤ 40000) (h : R (.sh (oD ((asksN M).find? (freeB ps)))) N) : w_free_ask [tabD k1 k2 M, seqD k3 (ps.map pD)] N R := by
  refine ⟨rfl, ?_⟩
  sizeOf_list_dec
  refine asks_left_spec hz hl ?_
  rw [tab_data]
  refine asks_of_spec hz.left ?_
  rw [prs_data]
  rw [← asks_free] at h
  generalize asksN (leftN (ps.map (·.1)) (ps.map (·.2)) M) = L at h
  cases L with
  | nil => 
    sizeOf_list_dec
    exact h
  | cons p L =>
    sizeOf_list_dec
    exact h
theorem is_ask_spec {p : Pr} (hp : cell M p.1 p.2 = 1) (hn : ∃ m, ∀ r ∈ M, r.length = m) (h : R (.sh (.bool true)) N) : w_is_ask [tabD k1 k2 M, pD p] N R := by
  refine ⟨rfl, ?_⟩
  unfold pD
  sizeOf_list_dec
  obtain ⟨m, hm⟩ := hn
  have hlt : p.1 < M.length ∧ p.2 < (M.getD p.1 []).length := by
    have := Prs.lt (M := M) (ps := [p]) ⟨fun q hq => by rw [List.mem_singleton.mp hq]; exact hp, by simp, by simp⟩ (List.mem_singleton.mpr rfl)
    exact this
  have hrow : M[p.1]? = some (M.getD p.1 []) := by rw [List.getD_eq_getElem?_getD, List.getElem?_eq_getElem hlt.1]; rfl
  have hl := hm _ (List.mem_of_getElem? hrow)
  have get : ∀ (R' : PyData → Nat → Prop), R' (.int 1) N → oIx (tabD k1 k2 M) (.int (p.1 : Nat)) fun d => oIx d (.int (p.2 : Nat)) fun e => R' e N := fun R' hR => by
    unfold tabD
    sizeOf_list_dec
    refine ⟨rowD k2 (M.getD p.1 []), ?_, ?_⟩
    · refine atI_nat ?_
      rw [List.getElem?_map, hrow]
      rfl
    · unfold rowD
      sizeOf_list_dec
      refine ⟨_, atI_int hlt.2, ?_⟩
      rw [show (M.getD p.1 []).getD p.2 0 = 1 from hp]
      exact hR
  have len : ∀ (S : PyData → Prop), S (.int (M.length : Nat)) → oLen [tabD k1 k2 M] S := fun S hS => by
    unfold tabD
    sizeOf_list_dec
    exact hS
  refine len _ ?_
  refine is_place_spec ?_
  rw [decide_eq_true (by omega : (0 : Int) ≤ (p.1 : Int)), decide_eq_true (by omega : (p.1 : Int) < (M.length : Int))]
  sizeOf_list_dec
  cases M with
  | nil => exact absurd hlt.1 (Nat.not_lt_zero _)
  | cons r Ms =>
    refine outlets_in_spec ?_
    have hr := hm r (List.mem_cons_self ..)
    refine is_place_spec ?_
    rw [decide_eq_true (by omega : (0 : Int) ≤ (p.2 : Int)), decide_eq_true (by omega : (p.2 : Int) < (r.length : Int))]
    sizeOf_list_dec
    refine get (fun e N => oEq e (.int 1) fun f => R (.sh f) N) ?_
    sizeOf_list_dec
    exact h
theorem all_true {α : Type} (xs : List α) : (xs.map fun _ => true).all id = true := by
  rw [List.all_eq_true]
  intro x hx
  obtain ⟨_, _, rfl⟩ := List.mem_map.mp hx
  rfl
theorem are_pairs_spec (hp : Prs M ps) (hz : Sz M) (hn : ∃ m, ∀ r ∈ M, r.length = m) (h : R (.sh (.bool true)) N) : w_are_pairs [tabD k1 k2 M, .list (ps.map pD)] N R := by
  have hl : ps.length ≤ 40000 := by have := hp.len; have := hz.1; omega
  refine ⟨rfl, ?_⟩
  sizeOf_list_dec
  refine lc_m ps pD (fun _ => .bool true) (gv_it (fun R h => by sizeOf_list_dec; exact h) rfl) hl (fun x A hx hA => ?_) ?_
  · sizeOf_list_dec
    exact is_ask_spec (hp.ask x hx) hn hA
  · have e : ps.map (fun _ => PyData.bool true) = (ps.map fun _ => true).map PyData.bool := by rw [List.map_map]; rfl
    rw [e]
    sizeOf_list_dec
    rw [all_true]
    sizeOf_list_dec
    refine inlets_of_spec (k3 := true) hl ?_
    have e1 : (T.lst (ps.map fun p => .sh (nD p.1))).data = .list ((ps.map fun p : Pr => (p.1 : Int)).map PyData.int) := by
      show PyData.list (T.datas _) = _
      rw [datas_map, List.map_map, List.map_map]
      rfl
    have e2 : (T.lst (ps.map fun p => .sh (nD p.2))).data = .list ((ps.map fun p : Pr => (p.2 : Int)).map PyData.int) := by
      show PyData.list (T.datas _) = _
      rw [datas_map, List.map_map, List.map_map]
      rfl
    rw [e1]
    refine is_rising_spec (by rw [List.length_map]; exact hl) ?_
    have h1 := rises_nat hp.rise
    rw [List.map_map] at h1
    rw [show (ps.map fun p : Pr => (p.1 : Int)) = ps.map ((fun n : Nat => (n : Int)) ∘ fun x : Pr => x.1) from rfl, h1]
    sizeOf_list_dec
    refine outlets_of_spec (k3 := true) hl ?_
    rw [e2]
    refine ⟨_, intsOf_map _, fun ms hpm hsm => ?_⟩
    show w_is_rising [(T.lst ((ms.map PyData.int).map T.sh)).data] _ _
    rw [data_shs]
    refine is_rising_spec (by rw [hpm.length_eq, List.length_map]; exact hl) ?_
    rw [rises_sorted hp.once (by rw [List.map_map]; exact hpm) hsm]
    exact h
end
/-! first pairs -/
section
variable {N : Nat} {R : T → Nat → Prop} {k1 k2 k3 k4 : Bool} {M : Mat} {ps : List Pr}
theorem first_pairs_spec (hz : Sz M) (h : R (.lst ((greedy (asksN M)).map fun p => .sh (pD p))) N) : w_first_pairs [tabD k1 k2 M] N R := by
  refine ⟨rfl, ?_⟩
  sizeOf_list_dec
  have nolen : ∀ {pre suf : List Pr}, asksN M = pre ++ suf → (greedy pre).length ≤ 40000 := fun {pre suf} hs => by
    obtain ⟨s, h1, h2⟩ := gfold_grow pre []
    have e : greedy pre = s := h1
    have h3 := h2.length_le
    have h4 := asks_len hz
    rw [hs, List.length_append] at h4
    rw [e]; omega
  have hp0 : seqD true (([] : List Pr).map pD) = .list [] := rfl
  rw [← hp0]
  refine free_ask_spec hz (by decide) ?_
  have immO : ∀ o : Option Pr, imm (oD o) = true := fun o => by cases o <;> rfl
  refine ⟨immO _, ?_⟩
  sizeOf_list_dec
  refine while_i (fun m ε M' => M' = N ∧ ∃ pre suf, asksN M = pre ++ suf ∧ m = suf.length ∧ ε = [.is (.sh (tabD k1 k2 M)), .is (.lst ((greedy pre).map fun p => .sh (pD p))), .is (.sh (oD ((asksN M).find? (freeB (greedy pre)))))]) (asksN M).length ⟨rfl, [], asksN M, rfl, rfl, rfl⟩ (fun m ε M' hI => ?_)
  obtain ⟨rfl, pre, suf, hs, rfl, rfl⟩ := hI
  sizeOf_list_dec
  rcases first_free hs with ⟨h1, h2⟩ | ⟨p, s1, s2, h1, h2, h3⟩
  · rw [h1, show isNone (oD none) = true from rfl]
    sizeOf_list_dec
    rw [← h2]
    exact h
  · rw [h1, show isNone (oD (some p)) = false from rfl, show oD (some p) = pD p from rfl]
    sizeOf_list_dec
    refine ⟨Nat.le_trans (nolen hs) (by decide), ?_⟩
    have e1 : (greedy pre).map (fun p => T.sh (pD p)) ++ [T.sh (pD p)] = (greedy (pre ++ s1 ++ [p])).map fun p => T.sh (pD p) := by
      rw [h3, List.map_append, List.map_cons, List.map_nil]
    have hs2 : asksN M = (pre ++ s1 ++ [p]) ++ s2 := by rw [hs, h2]; simp
    have e3 : PyData.list (T.datas ((greedy (pre ++ s1 ++ [p])).map fun p => T.sh (pD p))) = seqD true ((greedy (pre ++ s1 ++ [p])).map pD) := prs_data (greedy (pre ++ s1 ++ [p]))
    rw [e1, e3]
    refine free_ask_spec hz (nolen hs2) ⟨immO _, ?_⟩
    sizeOf_list_dec
    exact ⟨s2.length, by rw [h2, List.length_append, List.length_cons]; omega, pre ++ s1 ++ [p], s2, hs2, rfl, rfl⟩
end
/-! what is reached, and pairs grown -/
section
variable {N : Nat} {R : T → Nat → Prop} {k1 k2 k3 : Bool} {M : Mat} {P : List Pr}
theorem ks_data (P : List Pr) : (T.lst (P.map fun p => T.sh (nD p.1))).data = seqD true ((Ks P).map nD) := by
  show PyData.list (T.datas _) = _
  unfold Ks
  rw [datas_map, List.map_map, List.map_map]
  rfl
theorem vs_data (P : List Pr) : (T.lst (P.map fun p => T.sh (nD p.2))).data = seqD true ((Vs P).map nD) := by
  show PyData.list (T.datas _) = _
  unfold Vs
  rw [datas_map, List.map_map, List.map_map]
  rfl
theorem free_inlets_spec (hz : Sz M) (hl : P.length ≤ 40000) (h : R (.lst ((freeN M P).map fun i => .sh (nD i))) N) : w_free_inlets [tabD k1 k2 M, seqD k3 (P.map pD)] N R := by
  refine ⟨rfl, ?_⟩
  sizeOf_list_dec
  refine inlets_of_spec hl ?_
  rw [ks_data]
  refine lcT_f (List.range M.length) (fun k => PyData.int (k : Int)) (fun k => if !(Ks P).contains k then some (.sh (nD k)) else none) (gv_r1 (n := M.length) (fun R h => by unfold tabD; sizeOf_list_dec; exact h) (by have := hz.1; omega)) (by rw [List.length_range]; have := hz.1; omega) (fun k A B hk hA hB => ?_) ?_
  · sizeOf_list_dec
    cases e : (Ks P).contains k with
    | true =>
      rw [e] at hB
      sizeOf_list_dec
      exact hB rfl
    | false =>
      rw [e] at hA
      sizeOf_list_dec
      exact hA _ rfl
  · rw [filter_map_if]
    exact h
/-- what reached_by tells -/
structure Rch (M : Mat) (P L : List Pr) : Prop where
  shut : Shut M M.length P L
  way : ∃ ρ, Way M P (fun i => i < M.length ∧ i ∉ Ks P) L ρ ∧ ∀ o ∈ Ks L, ρ o < 200
theorem reached_by_spec (hz : Sz M) (hP : Apart P) (ha : ∀ p ∈ P, cell M p.1 p.2 = 1) (h : Rch M P (reachF M P) → R (.dic ((reachF M P).map cN)) N) : w_reached_by [tabD k1 k2 M, seqD k3 (P.map pD)] N R := by
  have hlt : ∀ p ∈ P, p.1 < M.length := fun p hp => (cell_lt (ha p hp)).1
  have hl : P.length ≤ 40000 := by
    have := nodup_len (apart_iff.mp hP).1 fun x hx => by
      obtain ⟨v, hv⟩ := mem_ks.mp hx
      exact hlt _ hv
    unfold Ks at this
    rw [List.length_map] at this
    have := hz.1
    omega
  refine ⟨rfl, ?_⟩
  sizeOf_list_dec
  refine dc_m P pD (·.2) (·.1) (gv_it (fun R h => by sizeOf_list_dec; exact h) (seqOf_seqD _ _)) hl (apart_iff.mp hP).2 (fun p A hp hA => ?_) ?_
  · unfold pD
    sizeOf_list_dec
    exact hA
  rw [show (P.map fun x => (x.2, x.1)) = flipP P from rfl]
  sizeOf_list_dec
  refine free_inlets_spec hz hl ?_
  sizeOf_list_dec
  have mem0 : ∀ i, i ∈ freeN M P ↔ i < M.length ∧ (i < M.length ∧ i ∉ Ks P) := fun i => by
    unfold freeN
    rw [List.mem_filter, List.mem_range, Bool.not_eq_true', ← Bool.not_eq_true, List.contains_iff_mem]
    exact ⟨fun h => ⟨h.1, h⟩, fun h => h.2⟩
  refine while_i (fun m ε M' => N = M' ∧ ∃ (L : List Pr) (C : List Nat) (t : Nat) (a5 a6 a7 : Sl), m = C.length + (100 - L.length) ∧ t + m ≤ 200 ∧ iterS (turnS M P) t ([], freeN M P) = (L, C) ∧ Mid M M.length P (fun i => i < M.length ∧ i ∉ Ks P) t C L ∧ ε = [.is (.sh (tabD k1 k2 M)), .is (.sh (seqD k3 (P.map pD))), .is (.dic ((flipP P).map cN)), .is (.dic (L.map cN)), .is (.lst (C.map fun i => .sh (nD i))), a5, a6, a7]) _ ⟨rfl, [], _, 0, _, _, _, rfl, by have e1 := List.length_filter_le (fun i => !(Ks P).contains i) (List.range M.length); rw [List.length_range] at e1; have := hz.1; have e2 : (freeN M P).length ≤ M.length := e1; show 0 + ((freeN M P).length + 100) ≤ 200; omega, rfl, Mid.first mem0, rfl⟩ (fun m ε M' hI => ?_)
  obtain ⟨rfl, L, C, t, a5, a6, a7, rfl, hm2, hit, mid, rfl⟩ := hI
  sizeOf_list_dec
  rcases List.eq_nil_or_concat C with rfl | ⟨C', i, rfl⟩
  · sizeOf_list_dec
    have eL : reachF M P = L := by
      unfold reachF
      rw [iter_end hit rfl (T := 200) (by omega)]
    rw [eL] at h
    exact h ⟨mid.shut hlt, mid.way.imp fun ρ q => ⟨q.1, fun o ho => by have := q.2 o ho; omega⟩⟩
  · have eC : C'.concat i = C' ++ [i] := List.concat_eq_append
    rw [eC] at mid hm2 hit ⊢
    rw [List.length_append, List.length_singleton] at hm2
    have edat : T.datas ((C' ++ [i]).map fun i => T.sh (nD i)) = C'.map nD ++ [nD i] := by rw [datas_map, List.map_map, List.map_append]; rfl
    have eemp : (C'.map nD ++ [nD i]).isEmpty = false := by cases C' <;> rfl
    rw [edat, eemp]
    sizeOf_list_dec
    rw [List.length_append]
    refine ⟨by rw [List.length_singleton]; omega, .int (i : Nat), ?_, ?_⟩
    · rw [List.map_append, List.getElem?_append_right (by rw [List.length_map]; exact Nat.le_refl _)]
      simp
      rfl
    rw [List.map_append, List.map_cons, List.map_nil, List.dropLast_concat]
    sizeOf_list_dec
    have hi : i < M.length := (mid.com i (List.mem_append_right _ (List.mem_singleton.mpr rfl))).1
    have hr : M[i]? = some (M.getD i []) := by rw [List.getD_eq_getElem?_getD, List.getElem?_eq_getElem hi]; rfl
    generalize er : M.getD i [] = r at hr
    have hrl := hz.2 r (List.mem_of_getElem? hr)
    have row0 : Row M M.length P (fun i => i < M.length ∧ i ∉ Ks P) t i (fun j => 0 ≤ j) C' L := mid.row (List.mem_append_right _ (List.mem_singleton.mpr rfl)) (fun x hx => (List.mem_append.mp hx).imp id fun h => List.mem_singleton.mp h) (fun x hx => List.mem_append_left _ hx) fun j _ => Nat.zero_le _
    refine for_en (d := rowD k2 r) (ds := r.map PyData.int) (fun k ε M' => N = M' ∧ ∃ (L2 : List Pr) (C2 : List Nat) (a6 a7 : Sl), C2.length + (100 - L2.length) ≤ C'.length + (100 - L.length) ∧ (r.zipIdx.take k).foldl (rowStep P i) (L, C') = (L2, C2) ∧ Row M M.length P (fun i => i < M.length ∧ i ∉ Ks P) t i (fun j => k ≤ j) C2 L2 ∧ ε = [.is (.sh (tabD k1 k2 M)), .is (.sh (seqD k3 (P.map pD))), .is (.dic ((flipP P).map cN)), .is (.dic (L2.map cN)), .is (.lst (C2.map fun i => .sh (nD i))), .is (.sh (.int (i : Nat))), a6, a7]) (fun R h => by
      unfold tabD
      sizeOf_list_dec
      exact ⟨rowD k2 r, atI_nat (by rw [List.getElem?_map, hr]; rfl), h⟩) (seqOf_seqD _ _) ⟨rfl, L, C', _, _, Nat.le_refl _, rfl, row0, rfl⟩ (fun k x ε M' hx hI => ?_) fun ε M' hI => ?_
    · obtain ⟨rfl, L2, C2, a6, a7, hm, hfo, row, rfl⟩ := hI
      rw [List.getElem?_map] at hx
      cases hrk : r[k]? with
      | none => rw [hrk] at hx; cases hx
      | some x0 =>
        rw [hrk] at hx
        have ex : PyData.int x0 = x := Option.some.inj hx
        subst ex
        have ecell : cell M i k = x0 := by unfold cell; rw [er, List.getD_eq_getElem?_getD, hrk]; rfl
        have hzk : r.zipIdx[k]? = some (x0, k) := by rw [List.getElem?_zipIdx, hrk]; simp
        have hfs : (r.zipIdx.take (k + 1)).foldl (rowStep P i) (L, C') = rowStep P i (L2, C2) (x0, k) := by
          rw [take_snoc hzk, List.foldl_append, hfo]
          rfl
        have hno : ¬ (x0 = 1 ∧ k ∉ Ks L2) → (r.zipIdx.take (k + 1)).foldl (rowStep P i) (L, C') = (L2, C2) := fun hn => hfs.trans (if_neg hn)
        have skip : (cell M i k ≠ 1 ∨ k ∈ Ks L2) → Row M M.length P (fun i => i < M.length ∧ i ∉ Ks P) t i (fun j => k + 1 ≤ j) C2 L2 := fun hk => row.skip fun j hj hc => by
          by_cases hjk : j = k
          · rw [hjk] at hc ⊢
            exact .inr (hk.resolve_left fun z => z hc)
          · exact .inl (by omega)
        sizeOf_list_dec
        refine bIf_beq (fun e1 => ?_) fun ne1 => ?_
        · rw [valI_some]
          refine bIf_of (fun hs => ?_) fun hs => ?_
          · exact ⟨L2, C2, _, _, hm, hno (fun z => z.2 (val_isSome.mp hs)), skip (.inr (val_isSome.mp hs)), rfl⟩
          · have hk : k ∉ Ks L2 := fun z => by rw [val_isSome.mpr z] at hs; cases hs
            have hl2 : L2.length ≤ 100 := by
              obtain ⟨ρ, w, _⟩ := row.way
              exact way_len w hz row.ks
            refine ⟨by omega, ?_⟩
            rw [putI_cN, put_new hk, valI_cN]
            have hc1 : cell M i k = 1 := ecell.trans e1
            have kf : (Ks (flipP P)).Nodup := by rw [ks_flip]; exact (apart_iff.mp hP).2
            cases hv : valN (flipP P) k with
            | none =>
              have row2 : Row M M.length P (fun i => i < M.length ∧ i ∉ Ks P) t i (fun j => k + 1 ≤ j) C2 (L2 ++ [(k, i)]) := row.add hk hc1 (fun x hx => hx) (fun x hx => absurd (mem_ks.mpr ⟨x, mem_flip.mpr hx⟩) (val_none.mp hv)) (fun x hx => .inl hx) fun j hj hc => by
                by_cases hjk : j = k
                · exact .inr hjk
                · exact .inl (by omega)
              rw [show (Option.map (fun v : Nat => (v : Int)) none) = none from rfl, Option.isSome_none]
              sizeOf_list_dec
              refine ⟨L2 ++ [(k, i)], C2, _, _, ?_, ?_, row2, rfl⟩
              · rw [List.length_append, List.length_singleton]
                omega
              · rw [hfs]
                refine (if_pos ⟨e1, hk⟩).trans ?_
                show (L2 ++ [(k, i)], C2 ++ (valN (flipP P) k).toList) = _
                rw [hv, Option.toList_none, List.append_nil]
            | some y =>
              have hy : (y, k) ∈ P := mem_flip.mp ((val_some kf).mp hv)
              have row2 : Row M M.length P (fun i => i < M.length ∧ i ∉ Ks P) t i (fun j => k + 1 ≤ j) (C2 ++ [y]) (L2 ++ [(k, i)]) := row.add hk hc1 (fun x hx => List.mem_append_left _ hx) (fun x hx => List.mem_append_right _ (List.mem_singleton.mpr (val_fun (apart_iff.mp hP).2 hx hy))) (fun x hx => (List.mem_append.mp hx).imp id fun h => by rw [List.mem_singleton.mp h]; exact ⟨hlt _ hy, hy⟩) fun j hj hc => by
                by_cases hjk : j = k
                · exact .inr hjk
                · exact .inl (by omega)
              have hl3 : (L2 ++ [(k, i)]).length ≤ 100 := by
                obtain ⟨ρ, w, _⟩ := row2.way
                exact way_len w hz row2.ks
              rw [List.length_append, List.length_singleton] at hl3
              rw [show (Option.map (fun v : Nat => (v : Int)) (some y)) = some (y : Int) from rfl, Option.isSome_some]
              sizeOf_list_dec
              have el : C2.map (fun i => T.sh (nD i)) ++ [T.sh (PyData.int (y : Int))] = (C2 ++ [y]).map fun i => T.sh (nD i) := by rw [List.map_append]; rfl
              rw [el]
              refine ⟨by omega, L2 ++ [(k, i)], C2 ++ [y], _, _, ?_, ?_, row2, rfl⟩
              · rw [List.length_append, List.length_append, List.length_singleton, List.length_singleton]
                omega
              · rw [hfs]
                refine (if_pos ⟨e1, hk⟩).trans ?_
                show (L2 ++ [(k, i)], C2 ++ (valN (flipP P) k).toList) = _
                rw [hv]
                rfl
        · exact ⟨L2, C2, _, _, hm, hno (fun z => ne1 z.1), skip (.inl (by rw [ecell]; exact ne1)), rfl⟩
    · obtain ⟨rfl, L2, C2, a6, a7, hm, hfo, row, rfl⟩ := hI
      rw [List.length_map] at row hfo
      rw [List.take_of_length_le (by rw [List.length_zipIdx]; exact Nat.le_refl _)] at hfo
      sizeOf_list_dec
      refine ⟨_, ?_, L2, C2, t + 1, _, _, _, rfl, ?_, ?_, row.mid fun j hj hc => ?_, rfl⟩
      · omega
      · omega
      · show turnS M P (iterS (turnS M P) t ([], freeN M P)) = _
        rw [hit]
        unfold turnS
        rw [List.getLast?_concat, List.dropLast_concat]
        show (M.getD i []).zipIdx.foldl (rowStep P i) (L, C') = _
        rw [er]
        exact hfo
      · have := (cell_lt hc).2
        rw [er] at this
        omega
theorem taken_over_spec {L : List Pr} {o : Nat} (hz : Sz M) (hP : Apart P) (ha : ∀ p ∈ P, cell M p.1 p.2 = 1) (hr : Rch M P L) (ho : o ∈ Ks L) (hv : o ∉ Vs P) (h : Grown M P (overF L P o) → R (.lst ((sortF (overF L P o)).map fun p => .sh (pD p))) N) : w_taken_over [seqD k3 (P.map pD), .dict ((L.map cN).map kdI), .int (o : Nat)] N R := by
  have hlt : ∀ p ∈ P, p.1 < M.length := fun p hp => (cell_lt (ha p hp)).1
  have hl : P.length ≤ 100 := by
    have := nodup_len (apart_iff.mp hP).1 fun x hx => by
      obtain ⟨v, hv⟩ := mem_ks.mp hx
      exact hlt _ hv
    unfold Ks at this
    rw [List.length_map] at this
    have := hz.1
    omega
  obtain ⟨ρ, w, hρ⟩ := hr.way
  refine ⟨rfl, ?_⟩
  sizeOf_list_dec
  refine dc_m P pD (·.1) (·.2) (gv_it (fun R h => by sizeOf_list_dec; exact h) (seqOf_seqD _ _)) (by omega) (apart_iff.mp hP).1 (fun p A hp hA => ?_) ?_
  · unfold pD
    sizeOf_list_dec
    exact hA
  rw [show (P.map fun x => (x.1, x.2)) = P from List.map_id' P]
  sizeOf_list_dec
  refine while_i (fun m ε M' => N = M' ∧ ∃ (D : List Pr) (x : Option Nat) (a5 a6 : Sl) (t : Nat), t + m ≤ 300 ∧ iterS (overS L) t (P, some o) = (D, x) ∧ ((∃ o, x = some o ∧ m = ρ o + 1 ∧ Aug M P L ρ D o) ∨ (x = none ∧ m = 0 ∧ Grown M P D)) ∧ ε = [.is (.sh (seqD k3 (P.map pD))), .is (.sh (.dict ((L.map cN).map kdI))), .is (.sh (.int (o : Nat))), .is (.dic (D.map cN)), .is (.sh (oInt? (x.map fun v : Nat => (v : Int)))), a5, a6]) _ ⟨rfl, P, some o, _, _, 0, by have := hρ o ho; show 0 + (ρ o + 1) ≤ 300; omega, rfl, .inl ⟨o, rfl, rfl, aug_first hP ha ho hv⟩, rfl⟩ (fun m ε M' hI => ?_)
  obtain ⟨rfl, D, x, a5, a6, t, ht, hit, hx, rfl⟩ := hI
  rcases hx with ⟨o2, rfl, rfl, aug⟩ | ⟨rfl, rfl, gr⟩
  · rw [show (Option.map (fun v : Nat => (v : Int)) (some o2)) = some (o2 : Int) from rfl, show oInt? (some (o2 : Int)) = PyData.int o2 from rfl]
    sizeOf_list_dec
    obtain ⟨i, hi, hstep⟩ := aug_step hP (fun i h => h.2) hr.shut.ks w aug
    rw [valI_cN, hi]
    sizeOf_list_dec
    refine ⟨(i : Int), rfl, by rw [aug.len]; omega, ?_⟩
    rw [putI_cN, valI_cN]
    rcases hstep with ⟨e, g⟩ | ⟨o', e, l, a⟩
    · rw [e]
      exact ⟨0, by omega, putN D i o2, none, _, _, t + 1, by omega, by show overS L (iterS (overS L) t (P, some o)) = _; rw [hit]; unfold overS; simp only [hi, e], .inr ⟨rfl, rfl, g⟩, rfl⟩
    · rw [e]
      exact ⟨ρ o' + 1, by omega, putN D i o2, some o', _, _, t + 1, by omega, by show overS L (iterS (overS L) t (P, some o)) = _; rw [hit]; unfold overS; simp only [hi, e], .inl ⟨o', rfl, rfl, a⟩, rfl⟩
  · rw [show (Option.map (fun v : Nat => (v : Int)) none) = none from rfl, show oInt? none = PyData.none from rfl]
    sizeOf_list_dec
    refine lcT_m D (fun p => PyData.int (p.1 : Nat)) (fun p => .sh (pD p)) (fun R h => ?_) (by rw [gr.len]; omega) (fun p A hp hA => ?_) ?_
    · sizeOf_list_dec
      rw [List.map_map]
      exact h
    · sizeOf_list_dec
      rw [valI_cN, (val_some gr.ks).mpr (show (p.1, p.2) ∈ D from hp)]
      exact ⟨_, rfl, hA⟩
    · have eD : overF L P o = D := by
        unfold overF
        rw [iter_end hit rfl (T := 300) (by omega)]
      rw [eD] at h
      refine ⟨cleansM fun p _ => rfl, ?_⟩
      rw [dataP]
      refine sortP_is gr.ks ?_
      rw [List.map_map]
      exact h gr
theorem grown_spec (hz : Sz M) (hP : Apart P) (ha : ∀ p ∈ P, cell M p.1 p.2 = 1) (h0 : grownF M P = none → (∃ X Y, Cov M M.length X Y ∧ X.length + Y.length = P.length) → R (.sh .none) N) (h1 : ∀ ps, grownF M P = some ps → Prs M ps → ps.length = P.length + 1 → (∀ i ∈ Ks P, i ∈ Ks ps) → (∀ j ∈ Vs P, j ∈ Vs ps) → R (.lst (ps.map fun p => .sh (pD p))) N) : w_grown [tabD k1 k2 M, seqD k3 (P.map pD)] N R := by
  have hlt : ∀ p ∈ P, p.1 < M.length := fun p hp => (cell_lt (ha p hp)).1
  have hl : P.length ≤ 100 := by
    have := nodup_len (apart_iff.mp hP).1 fun x hx => by
      obtain ⟨v, hv⟩ := mem_ks.mp hx
      exact hlt _ hv
    unfold Ks at this
    rw [List.length_map] at this
    have := hz.1
    omega
  refine ⟨rfl, ?_⟩
  sizeOf_list_dec
  refine reached_by_spec hz hP ha fun rch => ?_
  sizeOf_list_dec
  refine outlets_of_spec (by omega) ?_
  rw [vs_data]
  sizeOf_list_dec
  have rl : (reachF M P).length ≤ 100 := by
    obtain ⟨ρ, w, _⟩ := rch.way
    exact way_len w hz rch.shut.ks
  refine lcT_f (reachF M P) (fun p => PyData.int (p.1 : Nat)) (fun p => if (!(Vs P).contains p.1) = true then some (.sh (nD p.1)) else none) (fun R h => ?_) (by omega) (fun p A B hp hA hB => ?_) ?_
  · sizeOf_list_dec
    rw [List.map_map]
    exact h
  · sizeOf_list_dec
    cases e : (Vs P).contains p.1 with
    | true =>
      rw [e] at hB
      sizeOf_list_dec
      exact hB rfl
    | false =>
      rw [e] at hA
      sizeOf_list_dec
      exact hA _ rfl
  · rw [filter_map_if (fun p : Pr => !(Vs P).contains p.1) (fun p : Pr => T.sh (nD p.1))]
    have eF : ((reachF M P).filter fun p => !(Vs P).contains p.1).map (fun p => T.sh (nD p.1)) = ((Ks (reachF M P)).filter fun o => !(Vs P).contains o).map fun o => T.sh (nD o) := by
      unfold Ks
      rw [List.filter_map, List.map_map]
      rfl
    rw [eF]
    refine ⟨cleansM fun p _ => rfl, ?_⟩
    have eG : grownF M P = match ((Ks (reachF M P)).filter fun o => !(Vs P).contains o).head? with | none => none | some o => some (sortF (overF (reachF M P) P o)) := rfl
    cases hF : (Ks (reachF M P)).filter fun o => !(Vs P).contains o with
    | nil =>
      rw [hF] at eG
      have hv : ∀ o ∈ Ks (reachF M P), o ∈ Vs P := fun o ho => by
        have := List.filter_eq_nil_iff.mp hF o ho
        rw [Bool.not_eq_true', ← Bool.not_eq_true, List.contains_iff_mem] at this
        exact Classical.byContradiction this
      sizeOf_list_dec
      exact h0 eG ⟨_, _, shut_cov rch.shut, shut_size rch.shut hP hv⟩
    | cons o os =>
      rw [hF] at eG
      have ho : o ∈ (Ks (reachF M P)).filter fun o => !(Vs P).contains o := by rw [hF]; exact List.mem_cons_self ..
      obtain ⟨ho1, ho2⟩ := List.mem_filter.mp ho
      rw [Bool.not_eq_true', ← Bool.not_eq_true, List.contains_iff_mem] at ho2
      sizeOf_list_dec
      refine taken_over_spec hz hP ha rch ho1 ho2 fun gr => ⟨cleansM fun p _ => rfl, ?_⟩
      have sp := sort_perm (overF (reachF M P) P o)
      exact h1 _ eG (sort_prs gr.ks gr.vs gr.ask) (sp.length_eq.trans gr.len) (fun i hi => (ks_perm sp).mem_iff.mpr (gr.keys i hi)) fun j hj => (vs_perm sp).mem_iff.mpr (gr.vals j hj)
end
/-! the most pairs -/
section
variable {N : Nat} {R : T → Nat → Prop} {k1 k2 k3 : Bool} {M : Mat} {P : List Pr}
def mostS (M : Mat) (ps : List Pr) : List Pr := match grownF M ps with
  | none => ps
  | some q => q
def mostF (M : Mat) : List Pr := iterS (mostS M) 101 (greedy (asksN M))
theorem prs_apart {ps : List Pr} (h : Prs M ps) : Apart ps := apart_iff.mpr ⟨List.Pairwise.imp (fun h => Nat.ne_of_lt h) h.rise, h.once⟩
def tOf : Option (List Pr) → T
  | none => .sh .none
  | some ps => .lst (ps.map fun p => .sh (pD p))
theorem tOf_clean (o : Option (List Pr)) : (tOf o).clean = true := by
  cases o with
  | none => rfl
  | some ps => exact cleansM fun p _ => rfl
def Told (M : Mat) (ps : List Pr) : Prop := (grownF M ps = none ∧ ∃ X Y, Cov M M.length X Y ∧ X.length + Y.length = ps.length) ∨ ∃ q, grownF M ps = some q ∧ Prs M q ∧ q.length = ps.length + 1
theorem grown_is {ps : List Pr} (hz : Sz M) (hp : Prs M ps) (h : Told M ps → R (tOf (grownF M ps)) N) : w_grown [tabD k1 k2 M, seqD k3 (ps.map pD)] N R := by
  refine grown_spec hz (prs_apart hp) hp.ask (fun g c => ?_) fun q g h1 h2 _ _ => ?_
  · have := h (.inl ⟨g, c⟩)
    rw [g] at this
    exact this
  · have := h (.inr ⟨q, g, h1, h2⟩)
    rw [g] at this
    exact this
theorem most_pairs_spec (hz : Sz M) (h : Prs M (mostF M) → (∃ X Y, Cov M M.length X Y ∧ X.length + Y.length = (mostF M).length) → R (.lst ((mostF M).map fun p => .sh (pD p))) N) : w_most_pairs [tabD k1 k2 M] N R := by
  refine ⟨rfl, ?_⟩
  sizeOf_list_dec
  refine first_pairs_spec hz ?_
  sizeOf_list_dec
  have hg := greedy_prs M
  have dl : ∀ ps : List Pr, PyData.list (T.datas (ps.map fun p => T.sh (pD p))) = seqD true (ps.map pD) := fun ps => by
    rw [datas_map, List.map_map]
    rfl
  rw [dl]
  refine grown_is hz hg fun told => ⟨tOf_clean _, ?_⟩
  refine while_i (fun m ε M' => N = M' ∧ ∃ (ps : List Pr) (t : Nat), m = M.length + 1 - ps.length ∧ Prs M ps ∧ iterS (mostS M) t (greedy (asksN M)) = ps ∧ t + m ≤ 101 ∧ Told M ps ∧ ε = [.is (.sh (tabD k1 k2 M)), .is (.lst (ps.map fun p => .sh (pD p))), .is (tOf (grownF M ps))]) _ ⟨rfl, greedy (asksN M), 0, rfl, hg, rfl, by have := hz.1; omega, told, rfl⟩ (fun m ε M' hI => ?_)
  obtain ⟨rfl, ps, t, rfl, hp, hit, ht, told, rfl⟩ := hI
  have hl := hp.len
  rcases told with ⟨g, c⟩ | ⟨q, g, hq, hql⟩
  · rw [g]
    have e : mostF M = ps := iter_end hit (by unfold mostS; rw [g]) (by omega)
    rw [e] at h
    rw [show tOf none = T.sh .none from rfl]
    sizeOf_list_dec
    exact h hp c
  · rw [g]
    have hql2 := hq.len
    rw [show tOf (some q) = T.lst (q.map fun p => T.sh (pD p)) from rfl]
    sizeOf_list_dec
    rw [dl]
    refine grown_is hz hq fun told2 => ⟨tOf_clean _, ?_⟩
    refine ⟨_, ?_, q, t + 1, rfl, hq, ?_, ?_, told2, rfl⟩
    · omega
    · show mostS M (iterS (mostS M) t (greedy (asksN M))) = q
      rw [hit]
      unfold mostS
      rw [g]
    · omega
end
end K11

set_option Elab.async false
set_option linter.all false
set_option maxRecDepth 100000
set_option maxHeartbeats 1000000
namespace K11
open PySem PySem.Spec PyProof.Rows L2 Evl Cg
local macro_rules
  | `(tactic| sizeOf_list_dec) => `(tactic| simp (config := {failIfUnchanged := false}) only [↓wVar_eq, ↓wC_eq, ↓wRetV_eq, ↓wFrz_eq, isBox_eq, ↓wNil_eq, ↓wCons_eq, ↓wOp_eq, ↓wOpT_eq, ↓wUn_eq, ↓wCb_eq, ↓wCbT_eq, ↓wTest_eq, ↓wTru_eq, ↓wYes_eq, ↓wNot_eq, ↓wAnd_eq, ↓wOr_eq, ↓wAndV_eq, ↓wOrV_eq, ↓wNotV_eq, ↓wIf_eq, ↓wIfT_eq, ↓wChain_eq, ↓wLst_eq, ↓wTup_eq, ↓wNilT_eq, ↓wConsT_eq, ↓wLstT_eq, ↓wTupT_eq, ↓wSh_eq, ↓wFz_eq, ↓wVw_eq, ↓wVb_eq, ↓wVt_eq, view_nil, view_cons, view_no, view_box, view_is, ↓wCall_eq, ↓wCallT_eq, ↓wCallB_eq, ↓wCallBT_eq, ↓wIs_eq, ↓wNoPart_eq, ↓wPart_eq, ↓wSl_eq, ↓wSlT_eq, ↓wRevT_eq, ↓wRgL_eq, ↓wSkip_eq, ↓wBreak_eq, ↓wCont_eq, ↓wSeq_eq, ↓seq_nx, ↓seq_rt, ↓seq_bk, ↓seq_ct, ↓loop_nx, ↓loop_rt, ↓loop_bk, ↓loop_ct, ↓fn_nx, ↓fn_rt, ↓wRet_eq, ↓wRetN_eq, ↓wIfS_eq, ↓wAsgT_eq, ↓wAsg_eq, ↓wParN_eq, setsE_cons, setsE_nil, ↓wDrop_eq, ↓wName_eq, ↓wGNil_eq, ↓wGCons_eq, ↓wGTup_eq, ↓wApp_eq, ↓wRev_eq, ↓wClr_eq, ↓wExt_eq, ↓wSet_eq, ↓wPop_eq, ↓wipe_nil, ↓wipe_cons, env0_f, env0_t, atSh_is, atIs_is, atOwn_is, atBox_is, bIf_t, bIf_f, bIf_not, dBool_is, dInt_is, dTup_is, dList_is, dSeq_list, dSeq_tup, dSeq_seq, dTru_none, dTru_bool, dTru_int, dTru_list, dTru_tup, dCons_is, oI_int, oI0_int, oAdd_int, oAdd_list, oMul_int, oMul_list, oNeg_int, oEq_int, oEq_bool, oEq_nn, oEq_in, oEq_ni, oNe_int, oNe_bool, oNe_nn, oNe_in, oNe_ni, oEq_list, oNe_list, oEq_tup, oNe_tup, oEq_str, oNe_str, oIx_list, oIx_tup, oIx_seq, oLen_list, oLen_tup, oLen_seq, oInt_int, oInt_bool, oAbs_int, oMin2_int, oMax2_int, oAll_is, oSum_is, oListD_list, oListD_tup, oListD_seq, oTuple_list, oTuple_tup, oTuple_seq, oRepr_is, oIs_none, oIsNot_none, in_nats_t, in_nats_f, oIn_list, oIn_seq, oList_list, oList_tup, oList_seq, oCat_list, oRep_list, atI_l0, atI_l1, atI_l2, exists_eq_left', exists_eq_left, wPickT_eq, ↓wDNew_eq, ↓wDPut_eq, ↓wDList_eq, atDic_is, ↓wDGet_eq, ↓wDIn_eq, ↓wDNotIn_eq, ↓wDGet1_eq, ↓wD0_eq, ↓wDKeys_eq, ↓wDSort_eq, ↓wDSet_eq, ↓wLk_eq, ↓wKeys_eq, ↓wItems_eq, atD_own, atD_frz, atD_sh, atDO_is, atF_is, ↓wPop0_eq, ↓wSelf_eq, ↓wMove_eq, ↓wRetVT_eq, ↓wApp2_eq, ↓wSet2_eq, ↓wSetP_eq, ↓wAug_eq, oCount_list, ↓wRetPick_eq, oIsB_is, ↓wBmL_eq, oIndexS_is, ↓wAppPop_eq, ↓wAppPopT_eq, ↓wRev2_eq, oSumS_list, oSumS_tup, oSumS_seq, ↓wRetV2_eq, atOwnB_lst, atOwnB_tup, atL_int, mkT_t, mkT_f, w_take_is, w_same_is, notI_none, notI_bool, notI_int, notI_str, notI_list, notI_tup, notI_seq, isNone_none, isNone_bool, isNone_int, isNone_str, isNone_list, isNone_tup, isInt_none, isInt_bool, isInt_int, isInt_str, isInt_list, isInt_tup, isBool_none, isBool_bool, isBool_int, isBool_str, isBool_list, isBool_tup, isList_none, isList_bool, isList_int, isList_str, isList_list, isList_tup, isTuple_none, isTuple_bool, isTuple_int, isTuple_str, isTuple_list, isTuple_tup, isStr_none, isStr_bool, isStr_int, isStr_str, isStr_list, isStr_tup, isNone_seq, isList_seq, isTuple_seq, isInt_seq, isBool_seq, isStr_seq, dTru_seq, List.isEmpty_nil, List.isEmpty_cons, beq_self_eq_true, decide_true, decide_false, T.clean, T.cleans, T.data, T.datas, imm, immAll, List.getElem?_cons_zero, List.getElem?_cons_succ, List.set_cons_zero, List.set_cons_succ, List.map_cons, List.map_nil, List.cons_append, List.nil_append, List.replicate_succ, List.replicate_zero, List.length_cons, List.length_nil, List.length_map, if_true, if_false, Bool.true_and, Bool.and_true, Bool.false_and, Bool.and_false, Bool.not_true, Bool.not_false, Bool.or_true, Bool.true_or, Bool.false_or, Bool.or_false, Bool.false_eq_true, reduceIte, reduceCtorEq, true_and, and_true, Option.some.injEq, Nat.reduceAdd, Nat.reduceLeDiff, Int.reduceLE, Int.reduceLT, Int.cast_ofNat_Int, Int.reduceBEq, Int.reduceToNat])
/-! covers -/
section
variable {N : Nat} {R : T → Nat → Prop} {k1 k2 k3 : Bool} {M : Mat} {P : List Pr}
def sortN (ns : List Nat) : List Nat := ns.mergeSort fun a b => decide (a ≤ b)
theorem sortN_perm (ns : List Nat) : (sortN ns).Perm ns := List.mergeSort_perm _ _
theorem sortN_le (ns : List Nat) : (sortN ns).Pairwise (· ≤ ·) := by
  have := List.pairwise_mergeSort (le := fun a b : Nat => decide (a ≤ b)) (fun a b c h1 h2 => by
    rw [decide_eq_true_eq] at *
    omega) (fun a b => by
    rw [Bool.or_eq_true, decide_eq_true_eq, decide_eq_true_eq]
    omega) ns
  exact this.imp fun h => by simpa using h
theorem sortN_is {ns : List Nat} {ms : List Int} (hp : ms.Perm (ns.map fun n : Nat => (n : Int))) (hs : ms.Pairwise (· ≤ ·)) : ms = (sortN ns).map fun n : Nat => (n : Int) := by
  refine List.Perm.eq_of_pairwise (le := fun a b : Int => a ≤ b) (fun a b _ _ h1 h2 => by omega) hs (List.pairwise_map.mpr ((sortN_le ns).imp fun h => by omega)) (hp.trans ((sortN_perm ns).map _).symm)
/-- sorted of a list of places -/
theorem sortI_is {ns : List Nat} {S : List PyData → Prop} (h : S ((sortN ns).map nD)) : oSortI [.list (ns.map nD)] S := by
  refine ⟨_, ints_nD ns, fun ms hp hs => ?_⟩
  rw [sortN_is hp hs, List.map_map]
  exact h
theorem aug_end {M : Mat} {P L : List Pr} {ρ : Nat → Nat} {S : Nat → Prop} (hP : Apart P) (hS : ∀ i, S i → i ∉ Ks P) (hL : (Ks L).Nodup) (w : Way M P S L ρ) : ∀ (n : Nat) {D : List Pr} {o : Nat}, ρ o < n → Aug M P L ρ D o → ∃ D', Grown M P D'
  | 0, _, _, h, _ => absurd h (Nat.not_lt_zero _)
  | n + 1, D, o, h, A => by
    obtain ⟨i, _, hs⟩ := aug_step hP hS hL w A
    rcases hs with ⟨_, g⟩ | ⟨o', _, hlt, A'⟩
    · exact ⟨_, g⟩
    · exact aug_end hP hS hL w n (by omega) A'
theorem most_shut {L : List Pr} (hp : Prs M P) (c : ∃ X Y, Cov M M.length X Y ∧ X.length + Y.length = P.length) (rch : Rch M P L) : ∀ o ∈ Ks L, o ∈ Vs P := fun o ho => Classical.byContradiction fun hv => by
  obtain ⟨ρ, w, _⟩ := rch.way
  obtain ⟨D, g⟩ := aug_end (prs_apart hp) (fun i h => h.2) rch.shut.ks w _ (Nat.lt_succ_self _) (aug_first (ρ := ρ) (prs_apart hp) hp.ask ho hv)
  obtain ⟨X, Y, h1, h2⟩ := c
  have := cov_le h1 (apart_iff.mpr ⟨g.ks, g.vs⟩) fun p hp' => ⟨(cell_lt (g.ask p hp')).1, g.ask p hp'⟩
  have := g.len
  omega
def coverF (M : Mat) : List Nat × List Nat := (coverX (mostF M) (reachF M (mostF M)), sortN (Ks (reachF M (mostF M))))
/-- a cover as told -/
structure Cvr (M : Mat) (m k : Nat) (X Y : List Nat) : Prop where
  rx : X.Pairwise (· < ·)
  ry : Y.Pairwise (· < ·)
  lx : ∀ x ∈ X, x < M.length
  ly : ∀ y ∈ Y, y < m
  cov : Cov M M.length X Y
  len : X.length + Y.length = k
theorem cover_of_spec {m : Nat} (hz : Sz M) (hr : ∀ r ∈ M, r.length = m) (h : Prs M (mostF M) → (∃ X Y, Cov M M.length X Y ∧ X.length + Y.length = (mostF M).length) → Cvr M m (mostF M).length (coverF M).1 (coverF M).2 → R (.tup [.lst ((coverF M).1.map fun i => .sh (nD i)), .lst ((coverF M).2.map fun i => .sh (nD i))]) N) : w_cover_of [tabD k1 k2 M] N R := by
  refine ⟨rfl, ?_⟩
  sizeOf_list_dec
  refine most_pairs_spec hz fun hp hc => ?_
  rw [dataP]
  have pl : (mostF M).length ≤ 100 := by have := hp.len; have := hz.1; omega
  refine reached_by_spec (k3 := true) hz (prs_apart hp) hp.ask fun rch => ?_
  sizeOf_list_dec
  refine lcT_f (mostF M) pD (fun p => if (!(valN (reachF M (mostF M)) p.2).isSome) = true then some (.sh (nD p.1)) else none) (gv_it (d := .list ((mostF M).map pD)) (fun R h => by sizeOf_list_dec; exact h) rfl) (by omega) (fun p A B hp' hA hB => ?_) ?_
  · rw [show pD p = PyData.tuple [.int (p.1 : Nat), .int (p.2 : Nat)] from rfl]
    sizeOf_list_dec
    rw [valI_some]
    cases e : (valN (reachF M (mostF M)) p.2).isSome with
    | true =>
      rw [e] at hB
      sizeOf_list_dec
      exact hB rfl
    | false =>
      rw [e] at hA
      sizeOf_list_dec
      exact hA _ rfl
  rw [filter_map_if (fun p : Pr => !(valN (reachF M (mostF M)) p.2).isSome) (fun p : Pr => T.sh (nD p.1))]
  have eX : ((mostF M).filter fun p => !(valN (reachF M (mostF M)) p.2).isSome).map (fun p => T.sh (nD p.1)) = (coverF M).1.map fun i => T.sh (nD i) := by
    show _ = (Ks ((mostF M).filter fun p => !(Ks (reachF M (mostF M))).contains p.2)).map _
    unfold Ks
    rw [List.map_map]
    congr 1
    refine List.filter_congr fun p _ => ?_
    congr 1
    rw [Bool.eq_iff_iff, val_isSome, List.contains_iff_mem]
    rfl
  rw [eX]
  sizeOf_list_dec
  have eK : T.datas (keysT (((reachF M (mostF M)).map cN).map (·.1))) = (Ks (reachF M (mostF M))).map nD := by
    unfold keysT Ks
    rw [datas_map, List.map_map, List.map_map, List.map_map, List.map_map]
    rfl
  rw [eK]
  refine sortI_is ?_
  rw [List.map_map]
  obtain ⟨ρ, w, _⟩ := rch.way
  refine h hp hc ⟨?_, ?_, fun x hx => ?_, fun y hy => ?_, fun i j hi hc1 => ?_, ?_⟩
  · exact List.Pairwise.sublist (List.filter_sublist.map _) hp.rise
  · have nd : (sortN (Ks (reachF M (mostF M)))).Nodup := (List.Perm.nodup_iff (sortN_perm _)).mpr rch.shut.ks
    exact ((sortN_le _).and nd).imp fun h => Nat.lt_of_le_of_ne h.1 h.2
  · obtain ⟨v, hv⟩ := mem_ks.mp hx
    exact (cell_lt (hp.ask _ (List.mem_filter.mp hv).1)).1
  · have hy2 : y ∈ Ks (reachF M (mostF M)) := (sortN_perm _).mem_iff.mp hy
    obtain ⟨i, hi⟩ := mem_ks.mp hy2
    have hcl := cell_lt (w _ hi).1
    have hm : M.getD i [] ∈ M := by
      rw [List.getD_eq_getElem?_getD, List.getElem?_eq_getElem hcl.1]
      exact List.getElem_mem hcl.1
    have := hcl.2
    rw [hr _ hm] at this
    exact this
  · exact (shut_cov rch.shut i j hi hc1).imp id fun h => (sortN_perm _).mem_iff.mpr h
  · have := shut_size rch.shut (prs_apart hp) (most_shut hp hc rch)
    show (coverX _ _).length + (sortN _).length = _
    rw [(sortN_perm _).length_eq]
    exact this
/-! what is shown -/
def plB (n : Nat) (X : List Nat) : Bool := X.all fun x => decide (x < n)
def riB (X : List Nat) : Bool := risesB (X.map fun n : Nat => (n : Int))
def metB (M : Mat) (X Y : List Nat) : Bool := (asksN M).all fun p => X.contains p.1 || Y.contains p.2
def shB (n m : Nat) (M : Mat) (k : Nat) (X Y : List Nat) : Bool := plB n X && (riB X && (plB m Y && (riB Y && (metB M X Y && decide (X.length + Y.length = k)))))
theorem are_places_spec {n : Nat} {X : List Nat} (hX : X.length ≤ 40000) (h : R (.sh (.bool (plB n X && riB X))) N) : w_are_places [.list (X.map nD), .int (n : Nat)] N R := by
  refine ⟨rfl, ?_⟩
  sizeOf_list_dec
  refine lc_m X nD (fun x => .bool (decide (x < n))) (gv_it (d := .list (X.map nD)) (fun R h => by sizeOf_list_dec; exact h) rfl) hX (fun x A hx hA => ?_) ?_
  · rw [show nD x = PyData.int (x : Int) from rfl]
    sizeOf_list_dec
    refine is_place_spec ?_
    rw [decide_eq_true (by omega : (0 : Int) ≤ (x : Int)), show decide ((x : Int) < (n : Int)) = decide (x < n) from decide_eq_decide.mpr (by omega)]
    exact hA
  · have e : X.map (fun x => PyData.bool (decide (x < n))) = (X.map fun x => decide (x < n)).map PyData.bool := by rw [List.map_map]; rfl
    rw [e]
    sizeOf_list_dec
    have e2 : (X.map fun x => decide (x < n)).all id = plB n X := by unfold plB; rw [List.all_map]; rfl
    rw [e2]
    cases hp : plB n X with
    | false =>
      rw [hp] at h
      sizeOf_list_dec
      exact h
    | true =>
      rw [hp] at h
      sizeOf_list_dec
      have e3 : X.map nD = (X.map fun n : Nat => (n : Int)).map PyData.int := by rw [List.map_map]; rfl
      rw [e3]
      exact is_rising_spec (by rw [List.length_map]; exact hX) h
theorem is_cover_spec {n m : Nat} {X Y : List Nat} (hz : Sz M) (hn : M.length = n) (h1 : 1 ≤ n) (hr : ∀ r ∈ M, r.length = m) (hX : X.length ≤ 40000) (hY : Y.length ≤ 40000) (h : R (.sh (.bool (plB n X && (riB X && (plB m Y && (riB Y && metB M X Y)))))) N) : w_is_cover [tabD k1 k2 M, .tuple [.list (X.map nD), .list (Y.map nD)]] N R := by
  refine ⟨rfl, ?_⟩
  sizeOf_list_dec
  have eL : ∀ {S : PyData → Prop}, oLen [tabD k1 k2 M] S = S (.int (n : Nat)) := fun {S} => by
    unfold tabD
    sizeOf_list_dec
    rw [hn]
  rw [eL]
  refine are_places_spec hX ?_
  sizeOf_list_dec
  rw [show (plB n X && (riB X && (plB m Y && (riB Y && metB M X Y)))) = ((plB n X && riB X) && ((plB m Y && riB Y) && metB M X Y)) by cases plB n X <;> cases riB X <;> cases plB m Y <;> cases riB Y <;> rfl] at h
  cases e1 : plB n X && riB X with
  | false =>
    rw [e1] at h
    sizeOf_list_dec
    exact h
  | true =>
    rw [e1] at h
    sizeOf_list_dec
    have hO : ∀ {R : T → Nat → Prop} {N : Nat}, R (.sh (.int (m : Nat))) N → w_outlets_in [tabD k1 k2 M] N R := fun {R N} hR => by
      cases M with
      | nil => exact absurd hn (by show ¬ 0 = n; omega)
      | cons r Ms =>
        refine outlets_in_spec ?_
        rw [hr r (List.mem_cons_self ..)]
        exact hR
    refine hO ?_
    refine are_places_spec hY ?_
    sizeOf_list_dec
    cases e2 : plB m Y && riB Y with
    | false =>
      rw [e2] at h
      sizeOf_list_dec
      exact h
    | true =>
      rw [e2] at h
      sizeOf_list_dec
      refine left_out_spec (k3 := true) (k4 := true) hz ?_
      rw [tab_data]
      refine asks_of_spec hz.left ?_
      rw [dataP, asks_left_eq]
      have em : ((asksN M).filter fun p => !cutB X Y p.1 p.2).isEmpty = metB M X Y := by
        unfold metB
        rw [Bool.eq_iff_iff, List.isEmpty_iff, List.filter_eq_nil_iff, List.all_eq_true]
        constructor
        · intro h p hp
          have := h p hp
          rw [Bool.not_eq_true', Bool.not_eq_false] at this
          exact this
        · intro h p hp
          rw [Bool.not_eq_true', Bool.not_eq_false]
          exact h p hp
      have al := asks_len hz
      have shp : ∀ ps : List Pr, Shp 2 (.list (ps.map pD)) := fun ps => Shp.list fun x hx => by
        obtain ⟨p, _, rfl⟩ := List.mem_map.mp hx
        refine Shp.tuple fun y hy => ?_
        rcases List.mem_cons.mp hy with rfl | hy
        · exact Shp.int _
        · rw [List.mem_singleton.mp hy]; exact Shp.int _
      sizeOf_list_dec
      refine ⟨(shp _).shaped (by decide), (shp []).shaped (by decide), ?_⟩
      rw [eqvNil, List.isEmpty_map, em]
      exact h
theorem shows_most_spec {n m k : Nat} {X Y : List Nat} {ps : List PyData} (hz : Sz M) (hn : M.length = n) (h1 : 1 ≤ n) (hr : ∀ r ∈ M, r.length = m) (hX : X.length ≤ 40000) (hY : Y.length ≤ 40000) (hk : ps.length = k) (h : R (.sh (.bool (shB n m M k X Y))) N) : w_shows_most [tabD k1 k2 M, .list ps, .tuple [.list (X.map nD), .list (Y.map nD)]] N R := by
  refine ⟨rfl, ?_⟩
  sizeOf_list_dec
  refine is_cover_spec hz hn h1 hr hX hY ?_
  sizeOf_list_dec
  have e : shB n m M k X Y = ((plB n X && (riB X && (plB m Y && (riB Y && metB M X Y)))) && ((X.length : Int) + (Y.length : Int) == (ps.length : Int))) := by
    unfold shB
    rw [show decide (X.length + Y.length = k) = ((X.length : Int) + (Y.length : Int) == (ps.length : Int)) by rw [Bool.eq_iff_iff, decide_eq_true_eq, beq_iff_eq]; omega]
    cases plB n X <;> cases riB X <;> cases plB m Y <;> cases riB Y <;> cases metB M X Y <;> rfl
  rw [e] at h
  cases e2 : (plB n X && (riB X && (plB m Y && (riB Y && metB M X Y)))) with
  | false =>
    rw [e2] at h
    exact h
  | true =>
    rw [e2] at h
    exact h
end
/-! tables of at most twelve -/
section
variable {N : Nat} {R : T → Nat → Prop} {M : Mat}
/-- a table of n rows of m, at most twelve -/
structure Tb (n m : Nat) (M : Mat) : Prop where
  len : M.length = n
  row : ∀ r ∈ M, r.length = m
  n1 : 1 ≤ n
  n2 : n ≤ 12
  m2 : m ≤ 12
theorem Tb.at {n m i : Nat} (h : Tb n m M) (hi : i < n) : M[i]? = some (M.getD i []) ∧ (M.getD i []).length = m := by
  have hi' : i < M.length := by rw [h.len]; exact hi
  have e : M[i]? = some (M.getD i []) := by rw [List.getD_eq_getElem?_getD, List.getElem?_eq_getElem hi']; rfl
  exact ⟨e, h.row _ (List.mem_of_getElem? e)⟩
end
/-! in a drawn order -/
section
variable {N : Nat} {R : T → Nat → Prop} {M : Mat}
theorem datasF {α : Type} (f : α → PyData) (xs : List α) : T.datas (xs.map fun x => T.sh (f x)) = xs.map f := by
  rw [datas_map, List.map_map]
  rfl
theorem law_strewn_spec {α : Type} {xs : List α} {f : α → PyData} (hx : xs.length ≤ 1000) (hN : N ≤ 900000000) (h : ∀ (ys : List α) N', ys.Perm xs → N' ≤ N + xs.length → R (.lst (ys.map fun x => .sh (f x))) N') : w_law_strewn [.list (xs.map f)] N R := by
  refine ⟨rfl, ?_⟩
  sizeOf_list_dec
  rw [List.map_map]
  refine for_r1 (n := xs.length) (fun k ε M' => M' ≤ N + k ∧ ∃ (left found : List α) (a2 : Sl), left.length + k = xs.length ∧ (found ++ left).Perm xs ∧ ε = [.box, .is (.sh (.list (xs.map f))), a2, .is (.lst (left.map fun x => .sh (f x))), .is (.lst (found.map fun x => .sh (f x)))]) (fun R h => by
      sizeOf_list_dec
      rw [datas_map, List.map_map, List.length_map]
      exact h) (by omega) ⟨by omega, xs, [], _, rfl, List.Perm.refl _, rfl⟩ (fun k ε M' hk hI => ?_) fun ε M' hI => ?_
  · obtain ⟨hM', left, found, a2, hl, hp, rfl⟩ := hI
    have hfl : found.length ≤ 1000 := by
      have := hp.length_eq
      rw [List.length_append] at this
      omega
    sizeOf_list_dec
    rw [datasF]
    sizeOf_list_dec
    refine ⟨by omega, fun i hi => ?_⟩
    have hil : i < left.length := by omega
    have ei : (i : Int).toNat = i := by omega
    rw [ei]
    have e1 : (left.map fun x => T.sh (f x)).eraseIdx i = (left.eraseIdx i).map fun x => T.sh (f x) := by
      exact eraseM _ _ _
    have e2 : found.map (fun x => T.sh (f x)) ++ [T.sh (f left[i])] = (found ++ [left[i]]).map fun x => T.sh (f x) := by rw [List.map_append]; rfl
    refine ⟨⟨by omega, by omega, by omega, by omega⟩, f left[i], by rw [List.getElem?_map, List.getElem?_eq_getElem hil]; rfl, by omega, ?_⟩
    rw [e1, e2]
    refine ⟨left.eraseIdx i, found ++ [left[i]], _, ?_, ?_, rfl⟩
    · have := List.length_eraseIdx_of_lt hil
      omega
    · rw [List.append_assoc]
      exact ((eraseP hil).append_left found).trans hp
  · obtain ⟨hM', left, found, a2, hl, hp, rfl⟩ := hI
    have el : left = [] := List.length_eq_zero_iff.mp (by omega)
    rw [el, List.append_nil] at hp
    sizeOf_list_dec
    exact h found M' hp hM'
end
/-! how many pairs there are, rows and columns in any order -/
section
variable {M : Mat} {n m c : Nat} {rs cs : List Nat} {P Q : List Pr}
def AskP (M : Mat) (P : List Pr) : Prop := Apart P ∧ ∀ p ∈ P, cell M p.1 p.2 = 1
def Wd (M : Mat) (n m c : Nat) : Prop := M.length = n ∧ (∀ r ∈ M, r.length = m) ∧ (∃ P, AskP M P ∧ P.length = c) ∧ ∀ Q, AskP M Q → Q.length ≤ c
def turnP (rs cs : List Nat) (M : Mat) : Mat := rs.map fun i => cs.map fun j => cell M i j
theorem cell_turnP {i j : Nat} (hi : i < rs.length) (hj : j < cs.length) : cell (turnP rs cs M) i j = cell M (rs.getD i 0) (cs.getD j 0) := by
  unfold turnP
  rw [show cell (rs.map fun i => cs.map fun j => cell M i j) i j = ((rs.map fun i => cs.map fun j => cell M i j).getD i []).getD j 0 from rfl]
  rw [List.getD_eq_getElem?_getD (l := rs.map _), List.getElem?_map, List.getElem?_eq_getElem hi]
  show (cs.map fun j => cell M rs[i] j).getD j 0 = _
  rw [List.getD_eq_getElem?_getD, List.getElem?_map, List.getElem?_eq_getElem hj, List.getD_eq_getElem?_getD, List.getElem?_eq_getElem hi, List.getD_eq_getElem?_getD, List.getElem?_eq_getElem hj]
  rfl
theorem cell_in (hl : M.length = n) (hr : ∀ r ∈ M, r.length = m) {i j : Nat} (h : cell M i j = 1) : i < n ∧ j < m := by
  obtain ⟨h1, h2⟩ := cell_lt h
  refine ⟨hl ▸ h1, ?_⟩
  rw [List.getD_eq_getElem?_getD, List.getElem?_eq_getElem h1, Option.getD_some, hr _ (List.getElem_mem h1)] at h2
  exact h2
theorem ask_map {M' : Mat} {f g : Nat → Nat} (h : AskP M Q) (hf : ∀ p ∈ Q, ∀ q ∈ Q, f p.1 = f q.1 → p.1 = q.1) (hg : ∀ p ∈ Q, ∀ q ∈ Q, g p.2 = g q.2 → p.2 = q.2) (hc : ∀ p ∈ Q, cell M' (f p.1) (g p.2) = 1) : AskP M' (Q.map fun p => (f p.1, g p.2)) := by
  refine ⟨List.pairwise_map.mpr (List.Pairwise.imp_of_mem (fun {p q} hp hq hpq => ⟨fun z => hpq.1 (hf p hp q hq z), fun z => hpq.2 (hg p hp q hq z)⟩) h.1), fun p hp => ?_⟩
  obtain ⟨q, hq, rfl⟩ := List.mem_map.mp hp
  exact hc q hq
theorem nodup_getD {l : List Nat} (hl : l.Nodup) {i j : Nat} (hi : i < l.length) (hj : j < l.length) (h : l.getD i 0 = l.getD j 0) : i = j := by
  rw [List.getD_eq_getElem?_getD, List.getElem?_eq_getElem hi, List.getD_eq_getElem?_getD, List.getElem?_eq_getElem hj] at h
  exact (List.getElem_inj hl).mp h
theorem turned_wd (h : Wd M n m c) (hr : rs.Perm (List.range n)) (hc : cs.Perm (List.range m)) : Wd (turnP rs cs M) n m c := by
  obtain ⟨h1, h2, ⟨P, hP, hPc⟩, h4⟩ := h
  have lr : rs.length = n := by rw [hr.length_eq, List.length_range]
  have lc : cs.length = m := by rw [hc.length_eq, List.length_range]
  have nr : rs.Nodup := hr.nodup_iff.mpr List.nodup_range
  have nc : cs.Nodup := hc.nodup_iff.mpr List.nodup_range
  have t1 : (turnP rs cs M).length = n := by unfold turnP; rw [List.length_map, lr]
  have t2 : ∀ r ∈ turnP rs cs M, r.length = m := fun r hr => by
    unfold turnP at hr
    obtain ⟨i, _, rfl⟩ := List.mem_map.mp hr
    rw [List.length_map, lc]
  have inP : ∀ p ∈ P, p.1 ∈ rs ∧ p.2 ∈ cs := fun p hp => by
    obtain ⟨a, b⟩ := cell_in h1 h2 (hP.2 p hp)
    exact ⟨hr.mem_iff.mpr (List.mem_range.mpr a), hc.mem_iff.mpr (List.mem_range.mpr b)⟩
  have back : ∀ {l : List Nat} {x : Nat}, x ∈ l → l.idxOf x < l.length ∧ l.getD (l.idxOf x) 0 = x := fun {l x} hx => by
    have e := List.idxOf_lt_length_of_mem hx
    refine ⟨e, ?_⟩
    rw [List.getD_eq_getElem?_getD, List.getElem?_eq_getElem e]
    exact List.getElem_idxOf e
  refine ⟨t1, t2, ⟨P.map fun p => (rs.idxOf p.1, cs.idxOf p.2), ask_map (f := fun i => rs.idxOf i) (g := fun j => cs.idxOf j) hP (fun p hp q hq z => ?_) (fun p hp q hq z => ?_) fun p hp => ?_, by rw [List.length_map, hPc]⟩, fun Q hQ => ?_⟩
  · have e1 := (back (inP p hp).1).2
    rw [show rs.idxOf p.1 = rs.idxOf q.1 from z, (back (inP q hq).1).2] at e1
    exact e1.symm
  · have e1 := (back (inP p hp).2).2
    rw [show cs.idxOf p.2 = cs.idxOf q.2 from z, (back (inP q hq).2).2] at e1
    exact e1.symm
  · rw [cell_turnP (back (inP p hp).1).1 (back (inP p hp).2).1, (back (inP p hp).1).2, (back (inP p hp).2).2]
    exact hP.2 p hp
  · have inQ : ∀ q ∈ Q, q.1 < n ∧ q.2 < m := fun q hq => cell_in t1 t2 (hQ.2 q hq)
    have := h4 _ (ask_map (M' := M) (f := fun i => rs.getD i 0) (g := fun j => cs.getD j 0) hQ (fun p hp q hq z => nodup_getD nr (by rw [lr]; exact (inQ p hp).1) (by rw [lr]; exact (inQ q hq).1) z) (fun p hp q hq z => nodup_getD nc (by rw [lc]; exact (inQ p hp).2) (by rw [lc]; exact (inQ q hq).2) z) fun q hq => by
      rw [← cell_turnP (by rw [lr]; exact (inQ q hq).1) (by rw [lc]; exact (inQ q hq).2)]
      exact hQ.2 q hq)
    rw [List.length_map] at this
    exact this
theorem wd_size (h : Wd M n m c) (hQ : AskP M Q) (hc : ∃ X Y, Cov M M.length X Y ∧ X.length + Y.length = Q.length) : Q.length = c := by
  obtain ⟨h1, h2, ⟨P, hP, rfl⟩, h4⟩ := h
  obtain ⟨X, Y, hX, hXY⟩ := hc
  have := cov_le hX hP.1 fun p hp => ⟨(cell_lt (hP.2 p hp)).1, hP.2 p hp⟩
  have := h4 Q hQ
  omega
end
end K11

set_option Elab.async false
set_option linter.all false
set_option maxRecDepth 100000
set_option maxHeartbeats 1000000
namespace K11
open PySem PySem.Spec PyProof.Rows L2 Evl Cg
local macro_rules
  | `(tactic| sizeOf_list_dec) => `(tactic| simp (config := {failIfUnchanged := false}) only [↓wVar_eq, ↓wC_eq, ↓wRetV_eq, ↓wFrz_eq, isBox_eq, ↓wNil_eq, ↓wCons_eq, ↓wOp_eq, ↓wOpT_eq, ↓wUn_eq, ↓wCb_eq, ↓wCbT_eq, ↓wTest_eq, ↓wTru_eq, ↓wYes_eq, ↓wNot_eq, ↓wAnd_eq, ↓wOr_eq, ↓wAndV_eq, ↓wOrV_eq, ↓wNotV_eq, ↓wIf_eq, ↓wIfT_eq, ↓wChain_eq, ↓wLst_eq, ↓wTup_eq, ↓wNilT_eq, ↓wConsT_eq, ↓wLstT_eq, ↓wTupT_eq, ↓wSh_eq, ↓wFz_eq, ↓wVw_eq, ↓wVb_eq, ↓wVt_eq, view_nil, view_cons, view_no, view_box, view_is, ↓wCall_eq, ↓wCallT_eq, ↓wCallB_eq, ↓wCallBT_eq, ↓wIs_eq, ↓wNoPart_eq, ↓wPart_eq, ↓wSl_eq, ↓wSlT_eq, ↓wRevT_eq, ↓wRgL_eq, ↓wSkip_eq, ↓wBreak_eq, ↓wCont_eq, ↓wSeq_eq, ↓seq_nx, ↓seq_rt, ↓seq_bk, ↓seq_ct, ↓loop_nx, ↓loop_rt, ↓loop_bk, ↓loop_ct, ↓fn_nx, ↓fn_rt, ↓wRet_eq, ↓wRetN_eq, ↓wIfS_eq, ↓wAsgT_eq, ↓wAsg_eq, ↓wParN_eq, setsE_cons, setsE_nil, ↓wDrop_eq, ↓wName_eq, ↓wGNil_eq, ↓wGCons_eq, ↓wGTup_eq, ↓wApp_eq, ↓wRev_eq, ↓wClr_eq, ↓wExt_eq, ↓wSet_eq, ↓wPop_eq, ↓wipe_nil, ↓wipe_cons, env0_f, env0_t, atSh_is, atIs_is, atOwn_is, atBox_is, bIf_t, bIf_f, bIf_not, dBool_is, dInt_is, dTup_is, dList_is, dSeq_list, dSeq_tup, dSeq_seq, dTru_none, dTru_bool, dTru_int, dTru_list, dTru_tup, dCons_is, oI_int, oI0_int, oAdd_int, oAdd_list, oMul_int, oMul_list, oNeg_int, oEq_int, oEq_bool, oEq_nn, oEq_in, oEq_ni, oNe_int, oNe_bool, oNe_nn, oNe_in, oNe_ni, oEq_list, oNe_list, oEq_tup, oNe_tup, oEq_str, oNe_str, oIx_list, oIx_tup, oIx_seq, oLen_list, oLen_tup, oLen_seq, oInt_int, oInt_bool, oAbs_int, oMin2_int, oMax2_int, oAll_is, oSum_is, oListD_list, oListD_tup, oListD_seq, oTuple_list, oTuple_tup, oTuple_seq, oRepr_is, oIs_none, oIsNot_none, in_nats_t, in_nats_f, oIn_list, oIn_seq, oList_list, oList_tup, oList_seq, oCat_list, oRep_list, atI_l0, atI_l1, atI_l2, exists_eq_left', exists_eq_left, wPickT_eq, ↓wDNew_eq, ↓wDPut_eq, ↓wDList_eq, atDic_is, ↓wDGet_eq, ↓wDIn_eq, ↓wDNotIn_eq, ↓wDGet1_eq, ↓wD0_eq, ↓wDKeys_eq, ↓wDSort_eq, ↓wDSet_eq, ↓wLk_eq, ↓wKeys_eq, ↓wItems_eq, atD_own, atD_frz, atD_sh, atDO_is, atF_is, ↓wPop0_eq, ↓wSelf_eq, ↓wMove_eq, ↓wRetVT_eq, ↓wApp2_eq, ↓wSet2_eq, ↓wSetP_eq, ↓wAug_eq, oCount_list, ↓wRetPick_eq, oIsB_is, ↓wBmL_eq, oIndexS_is, ↓wAppPop_eq, ↓wAppPopT_eq, ↓wRev2_eq, oSumS_list, oSumS_tup, oSumS_seq, ↓wRetV2_eq, atOwnB_lst, atOwnB_tup, atL_int, mkT_t, mkT_f, w_take_is, w_same_is, notI_none, notI_bool, notI_int, notI_str, notI_list, notI_tup, notI_seq, isNone_none, isNone_bool, isNone_int, isNone_str, isNone_list, isNone_tup, isInt_none, isInt_bool, isInt_int, isInt_str, isInt_list, isInt_tup, isBool_none, isBool_bool, isBool_int, isBool_str, isBool_list, isBool_tup, isList_none, isList_bool, isList_int, isList_str, isList_list, isList_tup, isTuple_none, isTuple_bool, isTuple_int, isTuple_str, isTuple_list, isTuple_tup, isStr_none, isStr_bool, isStr_int, isStr_str, isStr_list, isStr_tup, isNone_seq, isList_seq, isTuple_seq, isInt_seq, isBool_seq, isStr_seq, dTru_seq, List.isEmpty_nil, List.isEmpty_cons, beq_self_eq_true, decide_true, decide_false, T.clean, T.cleans, T.data, T.datas, imm, immAll, List.getElem?_cons_zero, List.getElem?_cons_succ, List.set_cons_zero, List.set_cons_succ, List.map_cons, List.map_nil, List.cons_append, List.nil_append, List.replicate_succ, List.replicate_zero, List.length_cons, List.length_nil, List.length_map, if_true, if_false, Bool.true_and, Bool.and_true, Bool.false_and, Bool.and_false, Bool.not_true, Bool.not_false, Bool.or_true, Bool.true_or, Bool.false_or, Bool.or_false, Bool.false_eq_true, reduceIte, reduceCtorEq, true_and, and_true, Option.some.injEq, Nat.reduceAdd, Nat.reduceLeDiff, Int.reduceLE, Int.reduceLT, Int.cast_ofNat_Int, Int.reduceBEq, Int.reduceToNat])
section
variable {M : Mat} {n m c N : Nat} {R : T → Nat → Prop}
theorem atI_nat {ds : List PyData} {d : PyData} {i : Nat} (h : ds[i]? = some d) : atI ds (i : Int) = some d := by
  have hl := (List.getElem?_eq_some_iff.mp h).1
  unfold atI
  rw [ixN_nat hl]
  exact h
theorem shB_cvr {n m k : Nat} {X Y : List Nat} (hn : M.length = n) (c : Cvr M m k X Y) (j : Nat) : shB n m M j X Y = decide (k = j) := by
  have a1 : plB n X = true := List.all_eq_true.mpr fun x hx => decide_eq_true (by rw [← hn]; exact c.lx x hx)
  have a2 : riB X = true := rises_nat c.rx
  have a3 : plB m Y = true := List.all_eq_true.mpr fun x hx => decide_eq_true (c.ly x hx)
  have a4 : riB Y = true := rises_nat c.ry
  have a5 : metB M X Y = true := List.all_eq_true.mpr fun p hp => by
    have ha := mem_asks.mp hp
    rw [Bool.or_eq_true, List.contains_iff_mem, List.contains_iff_mem]
    exact c.cov p.1 p.2 (cell_lt ha).1 ha
  unfold shB
  rw [a1, a2, a3, a4, a5, c.len]
  rfl
theorem turned_spec (h1 : M.length = n) (h2 : ∀ r ∈ M, r.length = m) (n1 : 1 ≤ n) (n2 : n ≤ 12) (m2 : m ≤ 12) (hN : N ≤ 800000000) (h : ∀ rs cs N', rs.Perm (List.range n) → cs.Perm (List.range m) → N' ≤ N + 24 → R (.lst ((turnP rs cs M).map fun r => .lst (r.map fun x => .sh (.int x)))) N') : w_law_turned [tabD true true M] N R := by
  refine ⟨rfl, ?_⟩
  have g0 : M[0]? = some (M.getD 0 []) := by
    rw [List.getD_eq_getElem?_getD, List.getElem?_eq_getElem (show 0 < M.length by omega)]; rfl
  have l0 := h2 _ (List.mem_of_getElem? g0)
  have ra : ∀ k : Nat, PyData.list (T.datas (List.map (fun (k : Nat) => T.sh (.int (k : Int))) (List.range k))) = .list ((List.range k).map nD) := fun k => by
    rw [datasF]
    rfl
  unfold tabD
  sizeOf_list_dec
  refine ⟨⟨by omega, by omega⟩, ?_⟩
  rw [h1, show ((n : Int)).toNat = n from rfl, ra]
  refine law_strewn_spec (by rw [List.length_range]; omega) (by omega) fun rs N1 hrs hN1 => ?_
  refine ⟨rowD true (M.getD 0 []), atI_nat (i := 0) (by rw [List.getElem?_map, g0]; rfl), ?_⟩
  rw [List.length_range] at hN1
  unfold rowD
  sizeOf_list_dec
  rw [l0]
  refine ⟨⟨by omega, by omega⟩, ?_⟩
  rw [show ((m : Int)).toNat = m from rfl, ra]
  refine law_strewn_spec (by rw [List.length_range]; omega) (by omega) fun cs N2 hcs hN2 => ?_
  rw [List.length_range] at hN2
  have lr : rs.length = n := by rw [hrs.length_eq, List.length_range]
  have lc : cs.length = m := by rw [hcs.length_eq, List.length_range]
  have er : ∀ xs : List Nat, (T.lst (xs.map fun x => .sh (nD x))).data = .list (xs.map nD) := fun xs => by
    show PyData.list (T.datas _) = _
    rw [datasF]
  rw [er, datasF]
  refine lcT_m rs nD (fun i => .lst ((cs.map fun j => cell M i j).map fun x => .sh (.int x))) (gv_it (d := .list (rs.map nD)) (fun R h => by sizeOf_list_dec; exact h) rfl) (by omega) (fun i A hi hA => ?_) ?_
  · sizeOf_list_dec
    have hi2 : i < n := List.mem_range.mp (hrs.mem_iff.mp hi)
    have gi : M[i]? = some (M.getD i []) := by
      rw [List.getD_eq_getElem?_getD, List.getElem?_eq_getElem (show i < M.length by omega)]; rfl
    have li := h2 _ (List.mem_of_getElem? gi)
    rw [List.map_map] at hA
    refine lcT_m cs nD (fun j => .sh (.int (cell M i j))) (gv_it (d := .list (cs.map nD)) (fun R h => by sizeOf_list_dec; exact h) rfl) (by omega) (fun j B hj hB => ?_) hA
    have hj2 : j < m := List.mem_range.mp (hcs.mem_iff.mp hj)
    have gj : (M.getD i [])[j]? = some (cell M i j) := by
      unfold cell
      rw [List.getD_eq_getElem?_getD (l := M.getD i []), List.getElem?_eq_getElem (show j < (M.getD i []).length by omega)]; rfl
    unfold nD
    sizeOf_list_dec
    refine ⟨_, atI_nat (by rw [List.getElem?_map, gi]; rfl), ?_⟩
    sizeOf_list_dec
    refine ⟨_, atI_nat (by rw [List.getElem?_map, gj]; rfl), ?_⟩
    exact hB
  · have e : rs.map (fun i => T.lst ((cs.map fun j => cell M i j).map fun x => .sh (.int x))) = (turnP rs cs M).map fun r => .lst (r.map fun x => .sh (.int x)) := by
      unfold turnP
      rw [List.map_map]
      rfl
    rw [e]
    exact h rs cs N2 hrs hcs (by omega)
theorem world_right_spec (hw : Wd M n m c) (n1 : 1 ≤ n) (n2 : n ≤ 12) (m2 : m ≤ 12) (h : R (.sh (.bool true)) N) : w_law_world_right [tabD true true M, .int (c : Int)] N R := by
  have hz : Sz M := ⟨by have := hw.1; omega, fun r hr => by have := hw.2.1 r hr; omega⟩
  have hb : ∀ {Q : List Pr}, Prs M Q → Q.length ≤ 12 := fun {Q} hQ => by
    have := cov_le (X := List.range n) (Y := []) (fun i j hi _ => .inl (List.mem_range.mpr hi)) (prs_apart hQ) fun p hp => ⟨(cell_in hw.1 hw.2.1 (hQ.ask p hp)).1, hQ.ask p hp⟩
    rw [List.length_range] at this
    exact Nat.le_trans this n2
  refine ⟨rfl, ?_⟩
  sizeOf_list_dec
  refine for_r1 (n := 13) (fun k ε M' => M' = N ∧ ∃ (ps : List Pr) (s2 s6 : Sl), Prs M ps ∧ (ps.length = k ∨ grownF M ps = none ∧ ∃ X Y, Cov M M.length X Y ∧ X.length + Y.length = ps.length) ∧ ε = [.is (.sh (tabD true true M)), .is (.sh (.int (c : Int))), s2, .no, .is (.sh (.list (ps.map pD))), .is (.sh (.int (ps.length : Nat))), s6]) (fun R h => by sizeOf_list_dec; exact h) (by decide) ⟨rfl, [], _, _, ⟨(fun _ z => nomatch z), .nil, .nil⟩, .inl rfl, rfl⟩ (fun k ε M' hk hI => ?_) fun ε M' hI => ?_
  · obtain ⟨rfl, ps, s2, s6, hp, hs, rfl⟩ := hI
    sizeOf_list_dec
    refine grown_is (k3 := true) hz hp fun ht => ?_
    rcases ht with ⟨g, hc⟩ | ⟨q, g, hq, hql⟩
    · rw [g]
      sizeOf_list_dec
      rw [show isNone (tOf none).data = true from rfl, bIf_t]
      exact ⟨ps, _, _, hp, .inr ⟨g, hc⟩, rfl⟩
    · have ed : (tOf (some q)).data = .list (q.map pD) := by
        show PyData.list (T.datas (q.map fun p => T.sh (pD p))) = _
        rw [datasF]
      rw [g]
      sizeOf_list_dec
      rw [ed, show isNone (PyData.list (q.map pD)) = false from rfl, bIf_f]
      have hk1 : ps.length = k := by
        rcases hs with z | z
        · exact z
        · rw [g] at z; exact nomatch z.1
      refine ⟨q, .is (.sh (.int (k : Int))), .is (.sh (.list (q.map pD))), hq, .inl (by omega), ?_⟩
      rw [show ((ps.length : Nat) : Int) + 1 = ((q.length : Nat) : Int) by omega]
  · obtain ⟨rfl, ps, s2, s6, hp, hs, rfl⟩ := hI
    obtain ⟨g, hc⟩ : grownF M ps = none ∧ ∃ X Y, Cov M M.length X Y ∧ X.length + Y.length = ps.length := by
      rcases hs with z | z
      · have := hb hp; omega
      · exact z
    have hlen := wd_size hw ⟨prs_apart hp, hp.ask⟩ hc
    sizeOf_list_dec
    rw [hlen, beq_self_eq_true, bIf_t]
    refine are_pairs_spec hp hz ⟨m, hw.2.1⟩ ?_
    sizeOf_list_dec
    refine grown_is (k3 := true) hz hp fun _ => ?_
    rw [g, show isNone (tOf none).data = true from rfl, bIf_t]
    refine cover_of_spec hz hw.2.1 fun hp2 hc2 hcv => ?_
    have h2 := wd_size hw ⟨prs_apart hp2, hp2.ask⟩ hc2
    have ed : (T.tup [.lst ((coverF M).1.map fun i => .sh (nD i)), .lst ((coverF M).2.map fun i => .sh (nD i))]).data = .tuple [.list ((coverF M).1.map nD), .list ((coverF M).2.map nD)] := by
      show PyData.tuple [PyData.list (T.datas _), PyData.list (T.datas _)] = _
      rw [datasF, datasF]
    have em : (T.lst ((mostF M).map fun p => .sh (pD p))).data = .list ((mostF M).map pD) := by
      show PyData.list (T.datas _) = _
      rw [datasF]
    refine most_pairs_spec hz fun _ _ => ?_
    rw [ed, em]
    sizeOf_list_dec
    have hc12 := hb hp2
    have hcl := hcv.len
    rw [h2, beq_self_eq_true, bIf_t, show ((coverF M).1.length : Int) + ((coverF M).2.length : Int) = (c : Int) by omega, beq_self_eq_true, bIf_t]
    refine shows_most_spec (k := c) hz hw.1 n1 hw.2.1 (by omega) (by omega) (by rw [List.length_map, hlen]) ?_
    rw [shB_cvr hw.1 hcv, decide_eq_true h2]
    sizeOf_list_dec
    refine most_pairs_spec hz fun _ _ => ?_
    rw [em]
    refine are_pairs_spec hp2 hz ⟨m, hw.2.1⟩ ?_
    exact h
end
end K11

set_option Elab.async false
set_option linter.all false
set_option maxRecDepth 100000
set_option maxHeartbeats 1000000
namespace K11
open PySem PySem.Spec PyProof.Rows L2 Evl Cg
local macro_rules
  | `(tactic| sizeOf_list_dec) => `(tactic| simp (config := {failIfUnchanged := false}) only [↓wVar_eq, ↓wC_eq, ↓wRetV_eq, ↓wFrz_eq, isBox_eq, ↓wNil_eq, ↓wCons_eq, ↓wOp_eq, ↓wOpT_eq, ↓wUn_eq, ↓wCb_eq, ↓wCbT_eq, ↓wTest_eq, ↓wTru_eq, ↓wYes_eq, ↓wNot_eq, ↓wAnd_eq, ↓wOr_eq, ↓wAndV_eq, ↓wOrV_eq, ↓wNotV_eq, ↓wIf_eq, ↓wIfT_eq, ↓wChain_eq, ↓wLst_eq, ↓wTup_eq, ↓wNilT_eq, ↓wConsT_eq, ↓wLstT_eq, ↓wTupT_eq, ↓wSh_eq, ↓wFz_eq, ↓wVw_eq, ↓wVb_eq, ↓wVt_eq, view_nil, view_cons, view_no, view_box, view_is, ↓wCall_eq, ↓wCallT_eq, ↓wCallB_eq, ↓wCallBT_eq, ↓wIs_eq, ↓wNoPart_eq, ↓wPart_eq, ↓wSl_eq, ↓wSlT_eq, ↓wRevT_eq, ↓wRgL_eq, ↓wSkip_eq, ↓wBreak_eq, ↓wCont_eq, ↓wSeq_eq, ↓seq_nx, ↓seq_rt, ↓seq_bk, ↓seq_ct, ↓loop_nx, ↓loop_rt, ↓loop_bk, ↓loop_ct, ↓fn_nx, ↓fn_rt, ↓wRet_eq, ↓wRetN_eq, ↓wIfS_eq, ↓wAsgT_eq, ↓wAsg_eq, ↓wParN_eq, setsE_cons, setsE_nil, ↓wDrop_eq, ↓wName_eq, ↓wGNil_eq, ↓wGCons_eq, ↓wGTup_eq, ↓wApp_eq, ↓wRev_eq, ↓wClr_eq, ↓wExt_eq, ↓wSet_eq, ↓wPop_eq, ↓wipe_nil, ↓wipe_cons, env0_f, env0_t, atSh_is, atIs_is, atOwn_is, atBox_is, bIf_t, bIf_f, bIf_not, dBool_is, dInt_is, dTup_is, dList_is, dSeq_list, dSeq_tup, dSeq_seq, dTru_none, dTru_bool, dTru_int, dTru_list, dTru_tup, dCons_is, oI_int, oI0_int, oAdd_int, oAdd_list, oMul_int, oMul_list, oNeg_int, oEq_int, oEq_bool, oEq_nn, oEq_in, oEq_ni, oNe_int, oNe_bool, oNe_nn, oNe_in, oNe_ni, oEq_list, oNe_list, oEq_tup, oNe_tup, oEq_str, oNe_str, oIx_list, oIx_tup, oIx_seq, oLen_list, oLen_tup, oLen_seq, oInt_int, oInt_bool, oAbs_int, oMin2_int, oMax2_int, oAll_is, oSum_is, oListD_list, oListD_tup, oListD_seq, oTuple_list, oTuple_tup, oTuple_seq, oRepr_is, oIs_none, oIsNot_none, in_nats_t, in_nats_f, oIn_list, oIn_seq, oList_list, oList_tup, oList_seq, oCat_list, oRep_list, atI_l0, atI_l1, atI_l2, exists_eq_left', exists_eq_left, wPickT_eq, ↓wDNew_eq, ↓wDPut_eq, ↓wDList_eq, atDic_is, ↓wDGet_eq, ↓wDIn_eq, ↓wDNotIn_eq, ↓wDGet1_eq, ↓wD0_eq, ↓wDKeys_eq, ↓wDSort_eq, ↓wDSet_eq, ↓wLk_eq, ↓wKeys_eq, ↓wItems_eq, atD_own, atD_frz, atD_sh, atDO_is, atF_is, ↓wPop0_eq, ↓wSelf_eq, ↓wMove_eq, ↓wRetVT_eq, ↓wApp2_eq, ↓wSet2_eq, ↓wSetP_eq, ↓wAug_eq, oCount_list, ↓wRetPick_eq, oIsB_is, ↓wBmL_eq, oIndexS_is, ↓wAppPop_eq, ↓wAppPopT_eq, ↓wRev2_eq, oSumS_list, oSumS_tup, oSumS_seq, ↓wRetV2_eq, atOwnB_lst, atOwnB_tup, atL_int, mkT_t, mkT_f, w_take_is, w_same_is, notI_none, notI_bool, notI_int, notI_str, notI_list, notI_tup, notI_seq, isNone_none, isNone_bool, isNone_int, isNone_str, isNone_list, isNone_tup, isInt_none, isInt_bool, isInt_int, isInt_str, isInt_list, isInt_tup, isBool_none, isBool_bool, isBool_int, isBool_str, isBool_list, isBool_tup, isList_none, isList_bool, isList_int, isList_str, isList_list, isList_tup, isTuple_none, isTuple_bool, isTuple_int, isTuple_str, isTuple_list, isTuple_tup, isStr_none, isStr_bool, isStr_int, isStr_str, isStr_list, isStr_tup, isNone_seq, isList_seq, isTuple_seq, isInt_seq, isBool_seq, isStr_seq, dTru_seq, List.isEmpty_nil, List.isEmpty_cons, beq_self_eq_true, decide_true, decide_false, T.clean, T.cleans, T.data, T.datas, imm, immAll, List.getElem?_cons_zero, List.getElem?_cons_succ, List.set_cons_zero, List.set_cons_succ, List.map_cons, List.map_nil, List.cons_append, List.nil_append, List.replicate_succ, List.replicate_zero, List.length_cons, List.length_nil, List.length_map, if_true, if_false, Bool.true_and, Bool.and_true, Bool.false_and, Bool.and_false, Bool.not_true, Bool.not_false, Bool.or_true, Bool.true_or, Bool.false_or, Bool.or_false, Bool.false_eq_true, reduceIte, reduceCtorEq, true_and, and_true, Option.some.injEq, Nat.reduceAdd, Nat.reduceLeDiff, Int.reduceLE, Int.reduceLT, Int.cast_ofNat_Int, Int.reduceBEq, Int.reduceToNat])
/-! tables by hand -/
section
variable {M : Mat} {n m c N : Nat} {R : T → Nat → Prop}
def tabF (n m : Nat) (f : Nat → Nat → Bool) : Mat := (List.range n).map fun i => (List.range m).map fun j => if f i j then 1 else 0
def worldsF (n : Nat) : List (Mat × Nat) := [(tabF n n fun _ _ => true, n), (tabF n n fun _ _ => false, 0), (tabF n n fun i j => decide (j ≤ i), n), (tabF n n fun i j => decide (i = j), n), (tabF n n fun i j => decide (i = 0) || decide (j = 0), min n 2), (tabF n n fun i j => decide (j = i) || decide (j = i + 1), n), (tabF n n fun i j => decide (i / 3 = j / 3), n), (tabF n n fun i j => decide (j < n / 2), n / 2), (tabF 1 n fun _ _ => true, 1), (tabF n 1 fun _ _ => true, 1)]
def okW (M : Mat) (a b c : Nat) (P : List Pr) (X Y : List Nat) : Bool :=
  M.length == a && M.all (fun r => r.length == b) && decide (Ks P).Nodup && decide (Vs P).Nodup && P.all (fun p => cell M p.1 p.2 == 1) && P.length == c && ((List.range a).all fun i => (List.range b).all fun j => !(cell M i j == 1) || X.contains i || Y.contains j) && X.length + Y.length == c
theorem okW_wd {a b : Nat} {P : List Pr} {X Y : List Nat} (h : okW M a b c P X Y = true) : Wd M a b c := by
  unfold okW at h
  simp only [Bool.and_eq_true, beq_iff_eq, decide_eq_true_eq, List.all_eq_true] at h
  obtain ⟨⟨⟨⟨⟨⟨⟨h1, h2⟩, h3⟩, h4⟩, h5⟩, h6⟩, h7⟩, h8⟩ := h
  refine ⟨h1, h2, ⟨P, ⟨apart_iff.mpr ⟨h3, h4⟩, h5⟩, h6⟩, fun Q hQ => ?_⟩
  rw [← h8]
  refine cov_le (M := M) (n := a) (fun i j hi hc => ?_) hQ.1 fun p hp => ⟨(cell_in h1 h2 (hQ.2 p hp)).1, hQ.2 p hp⟩
  obtain ⟨_, hj⟩ := cell_in h1 h2 hc
  have := h7 i (List.mem_range.mpr hi) j (List.mem_range.mpr hj)
  rw [hc] at this
  simpa using this
def wits (n : Nat) : List (Nat × Nat × List Pr × List Nat × List Nat) :=
  let D := (List.range n).map fun i => (i, i)
  let A := List.range n
  [(n, n, D, A, []), (n, n, [], [], []), (n, n, D, A, []), (n, n, D, A, []), (n, n, (if n = 1 then [(0, 0)] else [(0, 1), (1, 0)]), [0], (if n = 1 then [] else [0])), (n, n, D, A, []), (n, n, D, A, []), (n, n, (List.range (n / 2)).map fun i => (i, i), [], List.range (n / 2)), (1, n, [(0, 0)], [0], []), (n, 1, [(0, 0)], [], [0])]
def okAll (n : Nat) : Bool := ((worldsF n).zip (wits n)).all fun p => okW p.1.1 p.2.1 p.2.2.1 p.1.2 p.2.2.2.1 p.2.2.2.2.1 p.2.2.2.2.2 && decide (1 ≤ p.2.1) && decide (p.2.1 ≤ 12) && decide (1 ≤ p.2.2.1) && decide (p.2.2.1 ≤ 12)
theorem ok_all : (List.range 12).all (fun k => okAll (k + 1)) = true := by decide +kernel
theorem worlds_wd (h1 : 1 ≤ n) (h2 : n ≤ 12) {k : Nat} {w : Mat × Nat} (hw : (worldsF n)[k]? = some w) : ∃ a b, 1 ≤ a ∧ a ≤ 12 ∧ 1 ≤ b ∧ b ≤ 12 ∧ Wd w.1 a b w.2 := by
  have h := List.all_eq_true.mp ok_all (n - 1) (List.mem_range.mpr (by omega))
  rw [Nat.sub_add_cancel h1] at h
  unfold okAll at h
  have hk : k < (worldsF n).length := (List.getElem?_eq_some_iff.mp hw).1
  have hk2 : k < (wits n).length := hk
  have := List.all_eq_true.mp h (w, (wits n)[k]) (by
    refine List.mem_of_getElem? (i := k) ?_
    rw [List.getElem?_zip_eq_some]
    exact ⟨hw, List.getElem?_eq_getElem hk2⟩)
  simp only [Bool.and_eq_true, decide_eq_true_eq] at this
  obtain ⟨⟨⟨⟨g1, g2⟩, g3⟩, g4⟩, g5⟩ := this
  exact ⟨_, _, g2, g3, g4, g5, okW_wd g1⟩
end
end K11

set_option Elab.async false
set_option linter.all false
set_option maxRecDepth 100000
set_option maxHeartbeats 1000000
namespace K11
open PySem PySem.Spec PyProof.Rows L2 Evl Cg
local macro_rules
  | `(tactic| sizeOf_list_dec) => `(tactic| simp (config := {failIfUnchanged := false}) only [↓wVar_eq, ↓wC_eq, ↓wRetV_eq, ↓wFrz_eq, isBox_eq, ↓wNil_eq, ↓wCons_eq, ↓wOp_eq, ↓wOpT_eq, ↓wUn_eq, ↓wCb_eq, ↓wCbT_eq, ↓wTest_eq, ↓wTru_eq, ↓wYes_eq, ↓wNot_eq, ↓wAnd_eq, ↓wOr_eq, ↓wAndV_eq, ↓wOrV_eq, ↓wNotV_eq, ↓wIf_eq, ↓wIfT_eq, ↓wChain_eq, ↓wLst_eq, ↓wTup_eq, ↓wNilT_eq, ↓wConsT_eq, ↓wLstT_eq, ↓wTupT_eq, ↓wSh_eq, ↓wFz_eq, ↓wVw_eq, ↓wVb_eq, ↓wVt_eq, view_nil, view_cons, view_no, view_box, view_is, ↓wCall_eq, ↓wCallT_eq, ↓wCallB_eq, ↓wCallBT_eq, ↓wIs_eq, ↓wNoPart_eq, ↓wPart_eq, ↓wSl_eq, ↓wSlT_eq, ↓wRevT_eq, ↓wRgL_eq, ↓wSkip_eq, ↓wBreak_eq, ↓wCont_eq, ↓wSeq_eq, ↓seq_nx, ↓seq_rt, ↓seq_bk, ↓seq_ct, ↓loop_nx, ↓loop_rt, ↓loop_bk, ↓loop_ct, ↓fn_nx, ↓fn_rt, ↓wRet_eq, ↓wRetN_eq, ↓wIfS_eq, ↓wAsgT_eq, ↓wAsg_eq, ↓wParN_eq, setsE_cons, setsE_nil, ↓wDrop_eq, ↓wName_eq, ↓wGNil_eq, ↓wGCons_eq, ↓wGTup_eq, ↓wApp_eq, ↓wRev_eq, ↓wClr_eq, ↓wExt_eq, ↓wSet_eq, ↓wPop_eq, ↓wipe_nil, ↓wipe_cons, env0_f, env0_t, atSh_is, atIs_is, atOwn_is, atBox_is, bIf_t, bIf_f, bIf_not, dBool_is, dInt_is, dTup_is, dList_is, dSeq_list, dSeq_tup, dSeq_seq, dTru_none, dTru_bool, dTru_int, dTru_list, dTru_tup, dCons_is, oI_int, oI0_int, oAdd_int, oAdd_list, oMul_int, oMul_list, oNeg_int, oEq_int, oEq_bool, oEq_nn, oEq_in, oEq_ni, oNe_int, oNe_bool, oNe_nn, oNe_in, oNe_ni, oEq_list, oNe_list, oEq_tup, oNe_tup, oEq_str, oNe_str, oIx_list, oIx_tup, oIx_seq, oLen_list, oLen_tup, oLen_seq, oInt_int, oInt_bool, oAbs_int, oMin2_int, oMax2_int, oAll_is, oSum_is, oListD_list, oListD_tup, oListD_seq, oTuple_list, oTuple_tup, oTuple_seq, oRepr_is, oIs_none, oIsNot_none, in_nats_t, in_nats_f, oIn_list, oIn_seq, oList_list, oList_tup, oList_seq, oCat_list, oRep_list, atI_l0, atI_l1, atI_l2, exists_eq_left', exists_eq_left, wPickT_eq, ↓wDNew_eq, ↓wDPut_eq, ↓wDList_eq, atDic_is, ↓wDGet_eq, ↓wDIn_eq, ↓wDNotIn_eq, ↓wDGet1_eq, ↓wD0_eq, ↓wDKeys_eq, ↓wDSort_eq, ↓wDSet_eq, ↓wLk_eq, ↓wKeys_eq, ↓wItems_eq, atD_own, atD_frz, atD_sh, atDO_is, atF_is, ↓wPop0_eq, ↓wSelf_eq, ↓wMove_eq, ↓wRetVT_eq, ↓wApp2_eq, ↓wSet2_eq, ↓wSetP_eq, ↓wAug_eq, oCount_list, ↓wRetPick_eq, oIsB_is, ↓wBmL_eq, oIndexS_is, ↓wAppPop_eq, ↓wAppPopT_eq, ↓wRev2_eq, oSumS_list, oSumS_tup, oSumS_seq, ↓wRetV2_eq, atOwnB_lst, atOwnB_tup, atL_int, mkT_t, mkT_f, w_take_is, w_same_is, notI_none, notI_bool, notI_int, notI_str, notI_list, notI_tup, notI_seq, isNone_none, isNone_bool, isNone_int, isNone_str, isNone_list, isNone_tup, isInt_none, isInt_bool, isInt_int, isInt_str, isInt_list, isInt_tup, isBool_none, isBool_bool, isBool_int, isBool_str, isBool_list, isBool_tup, isList_none, isList_bool, isList_int, isList_str, isList_list, isList_tup, isTuple_none, isTuple_bool, isTuple_int, isTuple_str, isTuple_list, isTuple_tup, isStr_none, isStr_bool, isStr_int, isStr_str, isStr_list, isStr_tup, isNone_seq, isList_seq, isTuple_seq, isInt_seq, isBool_seq, isStr_seq, dTru_seq, List.isEmpty_nil, List.isEmpty_cons, beq_self_eq_true, decide_true, decide_false, T.clean, T.cleans, T.data, T.datas, imm, immAll, List.getElem?_cons_zero, List.getElem?_cons_succ, List.set_cons_zero, List.set_cons_succ, List.map_cons, List.map_nil, List.cons_append, List.nil_append, List.replicate_succ, List.replicate_zero, List.length_cons, List.length_nil, List.length_map, if_true, if_false, Bool.true_and, Bool.and_true, Bool.false_and, Bool.and_false, Bool.not_true, Bool.not_false, Bool.or_true, Bool.true_or, Bool.false_or, Bool.or_false, Bool.false_eq_true, reduceIte, reduceCtorEq, true_and, and_true, Option.some.injEq, Nat.reduceAdd, Nat.reduceLeDiff, Int.reduceLE, Int.reduceLT, Int.cast_ofNat_Int, Int.reduceBEq, Int.reduceToNat])
section
variable {M : Mat} {n m c N : Nat} {R : T → Nat → Prop}
theorem tabF_data (f : Nat → Nat → Bool) : PyData.list ((List.range n).map fun i => PyData.list ((List.range m).map fun j => .int (if f i j = true then 1 else 0))) = tabD true true (tabF n m f) := by
  unfold tabF tabD
  show _ = PyData.list (List.map _ (List.map _ _))
  rw [List.map_map]
  refine congrArg _ (List.map_congr_left fun i _ => ?_)
  show PyData.list _ = PyData.list (List.map _ (List.map _ _))
  rw [List.map_map]
  rfl
theorem oIn_two {x a b : Int} {S : PyData → Prop} : oIn false (.int x) (.tuple [.int a, .int b]) S = S (.bool ((x == a) || (x == b))) := by
  have e : [a, b].contains x = ((x == a) || (x == b)) := by
    show (match x == a with | true => true | false => match x == b with | true => true | false => false) = _
    cases x == a <;> cases x == b <;> rfl
  rw [← e]
  exact oIn_seq (kd := false) (ns := [a, b])
theorem rep_map {α : Type} (d : α) : ∀ n : Nat, (List.replicate n [d]).flatten = (List.range n).map fun _ => d
  | 0 => rfl
  | n + 1 => by
    rw [List.replicate_succ, List.flatten_cons, rep_map d n, List.range_succ_eq_map, List.map_cons, List.map_map]
    rfl
theorem worlds_spec (n1 : 1 ≤ n) (n2 : n ≤ 12) (h : R (.lst ((worldsF n).map fun w => .sh (.tuple [tabD true true w.1, .int (w.2 : Int)]))) N) : w_law_worlds [.int (n : Int)] N R := by
  refine ⟨rfl, ?_⟩
  sizeOf_list_dec
  refine lc_rp (n := n) (fun i => .list ((List.range n).map fun j => .int 1)) (fun R h => by sizeOf_list_dec; exact h) (by omega) (fun i A hi hA => ?_) ?_
  · sizeOf_list_dec
    rw [rep_map, show ((n : Int)).toNat = n from rfl]
    exact ⟨⟨by omega, by omega, by omega⟩, hA⟩
  refine lc_rp (n := n) (fun i => .list ((List.range n).map fun j => .int 0)) (fun R h => by sizeOf_list_dec; exact h) (by omega) (fun i A hi hA => ?_) ?_
  · sizeOf_list_dec
    rw [rep_map, show ((n : Int)).toNat = n from rfl]
    exact ⟨⟨by omega, by omega, by omega⟩, hA⟩
  sizeOf_list_dec
  refine lc_rp (n := n) (fun i => .list ((List.range n).map fun j => .int (if (decide (j ≤ i)) = true then 1 else 0))) (fun R h => by sizeOf_list_dec; exact h) (by omega) (fun i A hi hA => ?_) ?_
  · sizeOf_list_dec
    refine lc_rp (n := n) (fun j => .int (if (decide (j ≤ i)) = true then 1 else 0)) (fun R h => by sizeOf_list_dec; exact h) (by omega) (fun j B hj hB => ?_) hA
    sizeOf_list_dec
    rw [show decide ((j : Int) ≤ (i : Int)) = decide (j ≤ i) from decide_eq_decide.mpr (by omega)]
    exact hB
  sizeOf_list_dec
  refine lc_rp (n := n) (fun i => .list ((List.range n).map fun j => .int (if (decide (i = j)) = true then 1 else 0))) (fun R h => by sizeOf_list_dec; exact h) (by omega) (fun i A hi hA => ?_) ?_
  · sizeOf_list_dec
    refine lc_rp (n := n) (fun j => .int (if (decide (i = j)) = true then 1 else 0)) (fun R h => by sizeOf_list_dec; exact h) (by omega) (fun j B hj hB => ?_) hA
    sizeOf_list_dec
    rw [show ((i : Int) == (j : Int)) = decide (i = j) from Bool.eq_iff_iff.mpr (by simp only [beq_iff_eq, decide_eq_true_eq]; omega)]
    exact hB
  sizeOf_list_dec
  refine lc_rp (n := n) (fun i => .list ((List.range n).map fun j => .int (if (decide (i = 0) || decide (j = 0)) = true then 1 else 0))) (fun R h => by sizeOf_list_dec; exact h) (by omega) (fun i A hi hA => ?_) ?_
  · sizeOf_list_dec
    refine lc_rp (n := n) (fun j => .int (if (decide (i = 0) || decide (j = 0)) = true then 1 else 0)) (fun R h => by sizeOf_list_dec; exact h) (by omega) (fun j B hj hB => ?_) hA
    sizeOf_list_dec
    refine bIf_of (fun z => ?_) fun z => ?_
    · have z : i = 0 := by
        have := eq_of_beq z
        omega
      subst z
      exact hB
    · have z : i ≠ 0 := by
        intro e
        subst e
        cases z
      rw [show ((j : Int) == 0) = (decide (i = 0) || decide (j = 0)) from Bool.eq_iff_iff.mpr (by simp only [Bool.or_eq_true, beq_iff_eq, decide_eq_true_eq]; omega)]
      exact hB
  sizeOf_list_dec
  refine lc_rp (n := n) (fun i => .list ((List.range n).map fun j => .int (if (decide (j = i) || decide (j = i + 1)) = true then 1 else 0))) (fun R h => by sizeOf_list_dec; exact h) (by omega) (fun i A hi hA => ?_) ?_
  · sizeOf_list_dec
    refine lc_rp (n := n) (fun j => .int (if (decide (j = i) || decide (j = i + 1)) = true then 1 else 0)) (fun R h => by sizeOf_list_dec; exact h) (by omega) (fun j B hj hB => ?_) hA
    sizeOf_list_dec
    rw [oIn_two]
    sizeOf_list_dec
    rw [show (((j : Int) == (i : Int)) || ((j : Int) == (i : Int) + 1)) = (decide (j = i) || decide (j = i + 1)) from Bool.eq_iff_iff.mpr (by simp only [Bool.or_eq_true, beq_iff_eq, decide_eq_true_eq]; omega)]
    exact hB
  sizeOf_list_dec
  refine lc_rp (n := n) (fun i => .list ((List.range n).map fun j => .int (if (decide (i / 3 = j / 3)) = true then 1 else 0))) (fun R h => by sizeOf_list_dec; exact h) (by omega) (fun i A hi hA => ?_) ?_
  · sizeOf_list_dec
    refine lc_rp (n := n) (fun j => .int (if (decide (i / 3 = j / 3)) = true then 1 else 0)) (fun R h => by sizeOf_list_dec; exact h) (by omega) (fun j B hj hB => ?_) hA
    sizeOf_list_dec
    refine ⟨by unfold CDiv; omega, by unfold CDiv; omega, ?_⟩
    rw [show ((i : Int) / 3 == (j : Int) / 3) = decide (i / 3 = j / 3) from Bool.eq_iff_iff.mpr (by simp only [beq_iff_eq, decide_eq_true_eq]; omega)]
    exact hB
  sizeOf_list_dec
  refine lc_rp (n := n) (fun i => .list ((List.range n).map fun j => .int (if (decide (j < n / 2)) = true then 1 else 0))) (fun R h => by sizeOf_list_dec; exact h) (by omega) (fun i A hi hA => ?_) ?_
  · sizeOf_list_dec
    refine lc_rp (n := n) (fun j => .int (if (decide (j < n / 2)) = true then 1 else 0)) (fun R h => by sizeOf_list_dec; exact h) (by omega) (fun j B hj hB => ?_) hA
    sizeOf_list_dec
    refine ⟨by unfold CDiv; omega, ?_⟩
    rw [show decide ((j : Int) < (n : Int) / 2) = decide (j < n / 2) from decide_eq_decide.mpr (by omega)]
    exact hB
  sizeOf_list_dec
  refine ⟨by unfold CDiv; omega, ⟨by omega, by omega, by omega⟩, ?_⟩
  refine lc_rp (n := n) (fun _ => .list [.int 1]) (fun R h => by sizeOf_list_dec; exact h) (by omega) (fun i A hi hA => by sizeOf_list_dec; exact hA) ?_
  rw [rep_map, show ((n : Int)).toNat = n from rfl]
  have h2 := h
  unfold worldsF at h2
  simp only [List.map_cons, List.map_nil, ← tabF_data, if_true, Bool.false_eq_true, if_false, show List.range 1 = [0] from rfl] at h2
  sizeOf_list_dec
  rw [show (if (2 : Int) < (n : Int) then (2 : Int) else (n : Int)) = ((min n 2 : Nat) : Int) by split <;> omega, show (n : Int) / 2 = ((n / 2 : Nat) : Int) by omega]
  exact h2
theorem inc_all : ∀ (l : List Nat) (a : Nat), l.Pairwise (· < ·) → (∀ x ∈ l, a ≤ x ∧ x < a + l.length) → l = (List.range l.length).map (a + ·)
  | [], _, _, _ => rfl
  | x :: l, a, hp, hb => by
    obtain ⟨h1, h2⟩ := List.pairwise_cons.mp hp
    have hx := hb x (List.mem_cons_self ..)
    have ih := inc_all l (a + 1) h2 fun y hy => by
      have := h1 y hy
      have := (hb y (List.mem_cons_of_mem _ hy)).2
      rw [List.length_cons] at this
      omega
    have xa : x = a := by
      cases l with
      | nil =>
        have := hx.2
        rw [List.length_cons, List.length_nil] at this
        omega
      | cons y l =>
        rw [List.length_cons, List.range_succ_eq_map, List.map_cons] at ih
        have hy := (List.cons.inj ih).1
        have := h1 y (List.mem_cons_self ..)
        omega
    rw [List.length_cons, List.range_succ_eq_map, List.map_cons, List.map_map, xa]
    conv => lhs; rw [ih]
    refine congrArg (List.cons _) ?_
    exact List.map_congr_left fun i _ => by show a + 1 + i = a + (i + 1); omega
theorem nd_inj {α β : Type} {f : α → β} : ∀ {l : List α}, (l.map f).Nodup → ∀ x ∈ l, ∀ y ∈ l, f x = f y → x = y
  | [], _, x, hx, _, _, _ => nomatch hx
  | z :: l, h, x, hx, y, hy, e => by
    obtain ⟨h1, h2⟩ := List.nodup_cons.mp h
    rcases List.mem_cons.mp hx with ex | hx <;> rcases List.mem_cons.mp hy with ey | hy
    · rw [ex, ey]
    · exact absurd (List.mem_map.mpr ⟨y, hy, by rw [← e, ex]⟩) h1
    · exact absurd (List.mem_map.mpr ⟨x, hx, by rw [e, ey]⟩) h1
    · exact nd_inj h2 x hx y hy e
/-- the chain's pairs that are as many as there are inlets -/
theorem chain_one {ps : List Pr} (n1 : 1 ≤ n) (hp : Prs (tabF n n fun i j => decide (j = i) || decide (j = i + 1)) ps) (hl : ps.length = n) : ps = (List.range n).map fun i => (i, i) := by
  have hlen : (tabF n n fun i j => decide (j = i) || decide (j = i + 1)).length = n := by unfold tabF; rw [List.length_map, List.length_range]
  have hrow : ∀ r ∈ tabF n n fun i j => decide (j = i) || decide (j = i + 1), r.length = n := fun r hr => by
    unfold tabF at hr
    obtain ⟨i, _, rfl⟩ := List.mem_map.mp hr
    rw [List.length_map, List.length_range]
  have hin := fun p hp2 => cell_in hlen hrow (hp.ask p hp2)
  have hc : ∀ p ∈ ps, p.2 = p.1 ∨ p.2 = p.1 + 1 := fun p hp2 => by
    have h1 := hp.ask p hp2
    obtain ⟨a, b⟩ := hin p hp2
    have e : cell (tabF n n fun i j => decide (j = i) || decide (j = i + 1)) p.1 p.2 = if (decide (p.2 = p.1) || decide (p.2 = p.1 + 1)) = true then 1 else 0 := by
      unfold cell tabF
      rw [List.getD_eq_getElem?_getD (l := List.map _ (List.range n)), List.getElem?_map, List.getElem?_range a]
      show (List.map _ (List.range n)).getD p.2 0 = _
      rw [List.getD_eq_getElem?_getD, List.getElem?_map, List.getElem?_range b]
      rfl
    rw [e] at h1
    by_cases z : (decide (p.2 = p.1) || decide (p.2 = p.1 + 1)) = true
    · simpa using z
    · rw [if_neg z] at h1; omega
  have k1 : Ks ps = List.range n := by
    have rise : (Ks ps).Pairwise (· < ·) := hp.rise
    have sub : ∀ x ∈ Ks ps, x < n := fun x hx => by
      obtain ⟨v, hv⟩ := mem_ks.mp hx
      exact (hin _ hv).1
    have hk : (Ks ps).length = n := by unfold Ks; rw [List.length_map, hl]
    have := inc_all (Ks ps) 0 rise fun x hx => ⟨Nat.zero_le _, by rw [hk, Nat.zero_add]; exact sub x hx⟩
    rw [this, hk]
    exact (List.map_congr_left fun i _ => Nat.zero_add i).trans (List.map_id _)
  have key : ∀ d i, i + d + 1 = n → ∀ v, (i, v) ∈ ps → v = i := by
    intro d
    induction d with
    | zero =>
      intro i hi v hv
      have := (hin _ hv).2
      rcases hc _ hv with z | z
      · exact z
      · have z : v = i + 1 := z
        have : v < n := this
        omega
    | succ d ih =>
      intro i hi v hv
      rcases hc _ hv with z | z
      · exact z
      · have z : v = i + 1 := z
        obtain ⟨w, hw⟩ := mem_ks.mp (show i + 1 ∈ Ks ps by rw [k1]; exact List.mem_range.mpr (by omega))
        have hw1 := ih (i + 1) (by omega) w hw
        have e := nd_inj hp.once _ hv _ hw (show v = w by omega)
        have := congrArg Prod.fst e
        have : i = i + 1 := this
        omega
  have h2 : ps = ps.map fun p => (p.1, p.1) := by
    refine ((List.map_congr_left fun p hp2 => ?_).trans (List.map_id ps)).symm
    obtain ⟨i, v⟩ := p
    have hi := (hin _ hp2).1
    have hi : i < n := hi
    have := key (n - 1 - i) i (by omega) v hp2
    subst this
    rfl
  rw [h2, ← k1]
  unfold Ks
  rw [List.map_map]
  conv => rhs; rw [h2]
  rw [List.map_map]
  rfl
theorem chain_spec (n1 : 1 ≤ n) (n2 : n ≤ 12) (h : R (.sh (.bool true)) N) : w_law_chain_right [.int (n : Int)] N R := by
  refine ⟨rfl, ?_⟩
  sizeOf_list_dec
  refine lc_rp (n := n) (fun i => .list ((List.range n).map fun j => .int (if (decide (j = i) || decide (j = i + 1)) = true then 1 else 0))) (fun R h => by sizeOf_list_dec; exact h) (by omega) (fun i A hi hA => ?_) ?_
  · sizeOf_list_dec
    refine lc_rp (n := n) (fun j => .int (if (decide (j = i) || decide (j = i + 1)) = true then 1 else 0)) (fun R h => by sizeOf_list_dec; exact h) (by omega) (fun j B hj hB => ?_) hA
    sizeOf_list_dec
    rw [oIn_two]
    sizeOf_list_dec
    rw [show (((j : Int) == (i : Int)) || ((j : Int) == (i : Int) + 1)) = (decide (j = i) || decide (j = i + 1)) from Bool.eq_iff_iff.mpr (by simp only [Bool.or_eq_true, beq_iff_eq, decide_eq_true_eq]; omega)]
    exact hB
  rw [tabF_data (n := n) (m := n) fun i j => decide (j = i) || decide (j = i + 1)]
  sizeOf_list_dec
  have hcell : ∀ {i j : Nat}, i < n → j < n → cell (tabF n n fun i j => decide (j = i) || decide (j = i + 1)) i j = if (decide (j = i) || decide (j = i + 1)) = true then 1 else 0 := fun {i j} a b => by
    unfold cell tabF
    rw [List.getD_eq_getElem?_getD (l := List.map _ (List.range n)), List.getElem?_map, List.getElem?_range a]
    show (List.map _ (List.range n)).getD j 0 = _
    rw [List.getD_eq_getElem?_getD, List.getElem?_map, List.getElem?_range b]
    rfl
  have hw : ∃ a b, 1 ≤ a ∧ a ≤ 12 ∧ 1 ≤ b ∧ b ≤ 12 ∧ Wd (tabF n n fun i j => decide (j = i) || decide (j = i + 1)) a b n := worlds_wd n1 n2 (k := 5) (w := (tabF n n fun i j => decide (j = i) || decide (j = i + 1), n)) rfl
  generalize hM : (tabF n n fun i j => decide (j = i) || decide (j = i + 1)) = M at *
  obtain ⟨wa, wb, a1, a2, b1, b2, hW⟩ := hw
  have hz : Sz M := ⟨by have := hW.1; omega, fun r hr => by have := hW.2.1 r hr; omega⟩
  refine lc_rp (n := n - 1) (fun i => pD (i, i + 1)) (fun R h => by
    sizeOf_list_dec
    rw [show (n : Int) - 1 = ((n - 1 : Nat) : Int) by omega]
    exact h) (by omega) (fun i A hi hA => by
    sizeOf_list_dec
    exact hA) ?_
  have hp : Prs M ((List.range (n - 1)).map fun i => (i, i + 1)) := by
    refine ⟨fun p hp => ?_, ?_, ?_⟩
    · obtain ⟨i, hi, rfl⟩ := List.mem_map.mp hp
      have hi := List.mem_range.mp hi
      show cell M i (i + 1) = 1
      rw [hcell (by omega) (by omega), if_pos (by simp)]
    · rw [List.map_map]
      exact List.pairwise_map.mpr List.pairwise_lt_range
    · rw [List.map_map]
      exact List.pairwise_map.mpr (List.pairwise_lt_range.imp fun {a b} (h : a < b) => by show a + 1 ≠ b + 1; omega)
  have ed : PyData.list ((List.range (n - 1)).map fun i => pD (i, i + 1)) = seqD true (((List.range (n - 1)).map fun i => (i, i + 1)).map pD) := by
    rw [List.map_map]
    rfl
  rw [ed]
  refine grown_is hz hp fun ht => ?_
  have hq : ∃ q, grownF M ((List.range (n - 1)).map fun i => (i, i + 1)) = some q ∧ q = (List.range n).map fun i => (i, i) := by
    rcases ht with ⟨_, X, Y, hc, hXY⟩ | ⟨q, g, hq, hql⟩
    · obtain ⟨P, hP, hPl⟩ := hW.2.2.1
      have := cov_le hc hP.1 fun p hp => ⟨(cell_lt (hP.2 p hp)).1, hP.2 p hp⟩
      rw [List.length_map, List.length_range] at hXY
      omega
    · rw [List.length_map, List.length_range] at hql
      subst hM
      exact ⟨q, g, chain_one n1 hq (by omega)⟩
  obtain ⟨q, g, hqe⟩ := hq
  rw [g]
  refine lc_rp (n := n) (fun i => pD (i, i)) (fun R h => by sizeOf_list_dec; exact h) (by omega) (fun i A hi hA => by
    sizeOf_list_dec
    exact hA) ?_
  have et : (tOf (some q)).data = .list ((List.range n).map fun i => pD (i, i)) := by
    show PyData.list (T.datas (q.map fun p => T.sh (pD p))) = _
    rw [datasF, hqe, List.map_map]
    rfl
  rw [et]
  have sh : Shp 2 (.list ((List.range n).map fun i => pD (i, i))) := Shp.list fun x hx => by
    obtain ⟨i, _, rfl⟩ := List.mem_map.mp hx
    exact Shp.tuple fun y hy => by
      simp only [List.mem_cons, List.not_mem_nil, or_false] at hy
      rcases hy with rfl | rfl <;> exact Shp.int _
  sizeOf_list_dec
  exact ⟨sh.shaped (by decide), sh.shaped (by decide), by rw [sh.self]; exact h⟩
end
end K11

set_option Elab.async false
set_option linter.all false
set_option maxRecDepth 100000
set_option maxHeartbeats 1000000
namespace K11
open PySem PySem.Spec PyProof.Rows L2 Evl Cg
local macro_rules
  | `(tactic| sizeOf_list_dec) => `(tactic| simp (config := {failIfUnchanged := false}) only [↓wVar_eq, ↓wC_eq, ↓wRetV_eq, ↓wFrz_eq, isBox_eq, ↓wNil_eq, ↓wCons_eq, ↓wOp_eq, ↓wOpT_eq, ↓wUn_eq, ↓wCb_eq, ↓wCbT_eq, ↓wTest_eq, ↓wTru_eq, ↓wYes_eq, ↓wNot_eq, ↓wAnd_eq, ↓wOr_eq, ↓wAndV_eq, ↓wOrV_eq, ↓wNotV_eq, ↓wIf_eq, ↓wIfT_eq, ↓wChain_eq, ↓wLst_eq, ↓wTup_eq, ↓wNilT_eq, ↓wConsT_eq, ↓wLstT_eq, ↓wTupT_eq, ↓wSh_eq, ↓wFz_eq, ↓wVw_eq, ↓wVb_eq, ↓wVt_eq, view_nil, view_cons, view_no, view_box, view_is, ↓wCall_eq, ↓wCallT_eq, ↓wCallB_eq, ↓wCallBT_eq, ↓wIs_eq, ↓wNoPart_eq, ↓wPart_eq, ↓wSl_eq, ↓wSlT_eq, ↓wRevT_eq, ↓wRgL_eq, ↓wSkip_eq, ↓wBreak_eq, ↓wCont_eq, ↓wSeq_eq, ↓seq_nx, ↓seq_rt, ↓seq_bk, ↓seq_ct, ↓loop_nx, ↓loop_rt, ↓loop_bk, ↓loop_ct, ↓fn_nx, ↓fn_rt, ↓wRet_eq, ↓wRetN_eq, ↓wIfS_eq, ↓wAsgT_eq, ↓wAsg_eq, ↓wParN_eq, setsE_cons, setsE_nil, ↓wDrop_eq, ↓wName_eq, ↓wGNil_eq, ↓wGCons_eq, ↓wGTup_eq, ↓wApp_eq, ↓wRev_eq, ↓wClr_eq, ↓wExt_eq, ↓wSet_eq, ↓wPop_eq, ↓wipe_nil, ↓wipe_cons, env0_f, env0_t, atSh_is, atIs_is, atOwn_is, atBox_is, bIf_t, bIf_f, bIf_not, dBool_is, dInt_is, dTup_is, dList_is, dSeq_list, dSeq_tup, dSeq_seq, dTru_none, dTru_bool, dTru_int, dTru_list, dTru_tup, dCons_is, oI_int, oI0_int, oAdd_int, oAdd_list, oMul_int, oMul_list, oNeg_int, oEq_int, oEq_bool, oEq_nn, oEq_in, oEq_ni, oNe_int, oNe_bool, oNe_nn, oNe_in, oNe_ni, oEq_list, oNe_list, oEq_tup, oNe_tup, oEq_str, oNe_str, oIx_list, oIx_tup, oIx_seq, oLen_list, oLen_tup, oLen_seq, oInt_int, oInt_bool, oAbs_int, oMin2_int, oMax2_int, oAll_is, oSum_is, oListD_list, oListD_tup, oListD_seq, oTuple_list, oTuple_tup, oTuple_seq, oRepr_is, oIs_none, oIsNot_none, in_nats_t, in_nats_f, oIn_list, oIn_seq, oList_list, oList_tup, oList_seq, oCat_list, oRep_list, atI_l0, atI_l1, atI_l2, exists_eq_left', exists_eq_left, wPickT_eq, ↓wDNew_eq, ↓wDPut_eq, ↓wDList_eq, atDic_is, ↓wDGet_eq, ↓wDIn_eq, ↓wDNotIn_eq, ↓wDGet1_eq, ↓wD0_eq, ↓wDKeys_eq, ↓wDSort_eq, ↓wDSet_eq, ↓wLk_eq, ↓wKeys_eq, ↓wItems_eq, atD_own, atD_frz, atD_sh, atDO_is, atF_is, ↓wPop0_eq, ↓wSelf_eq, ↓wMove_eq, ↓wRetVT_eq, ↓wApp2_eq, ↓wSet2_eq, ↓wSetP_eq, ↓wAug_eq, oCount_list, ↓wRetPick_eq, oIsB_is, ↓wBmL_eq, oIndexS_is, ↓wAppPop_eq, ↓wAppPopT_eq, ↓wRev2_eq, oSumS_list, oSumS_tup, oSumS_seq, ↓wRetV2_eq, atOwnB_lst, atOwnB_tup, atL_int, mkT_t, mkT_f, w_take_is, w_same_is, notI_none, notI_bool, notI_int, notI_str, notI_list, notI_tup, notI_seq, isNone_none, isNone_bool, isNone_int, isNone_str, isNone_list, isNone_tup, isInt_none, isInt_bool, isInt_int, isInt_str, isInt_list, isInt_tup, isBool_none, isBool_bool, isBool_int, isBool_str, isBool_list, isBool_tup, isList_none, isList_bool, isList_int, isList_str, isList_list, isList_tup, isTuple_none, isTuple_bool, isTuple_int, isTuple_str, isTuple_list, isTuple_tup, isStr_none, isStr_bool, isStr_int, isStr_str, isStr_list, isStr_tup, isNone_seq, isList_seq, isTuple_seq, isInt_seq, isBool_seq, isStr_seq, dTru_seq, List.isEmpty_nil, List.isEmpty_cons, beq_self_eq_true, decide_true, decide_false, T.clean, T.cleans, T.data, T.datas, imm, immAll, List.getElem?_cons_zero, List.getElem?_cons_succ, List.set_cons_zero, List.set_cons_succ, List.map_cons, List.map_nil, List.cons_append, List.nil_append, List.replicate_succ, List.replicate_zero, List.length_cons, List.length_nil, List.length_map, if_true, if_false, Bool.true_and, Bool.and_true, Bool.false_and, Bool.and_false, Bool.not_true, Bool.not_false, Bool.or_true, Bool.true_or, Bool.false_or, Bool.or_false, Bool.false_eq_true, reduceIte, reduceCtorEq, true_and, and_true, Option.some.injEq, Nat.reduceAdd, Nat.reduceLeDiff, Int.reduceLE, Int.reduceLT, Int.cast_ofNat_Int, Int.reduceBEq, Int.reduceToNat])
section
theorem tbT_data (M : Mat) : (T.lst (M.map fun r => T.lst (r.map fun x => T.sh (.int x)))).data = tabD true true M := by
  show PyData.list (T.datas _) = PyData.list _
  rw [datas_map, List.map_map]
  refine congrArg _ (List.map_congr_left fun r _ => ?_)
  show PyData.list (T.datas _) = PyData.list _
  rw [datas_map, List.map_map]
  rfl
theorem n_of {a b q : Nat} {d : PyData} (ha : a < 12) (hb : b < 4) (h : [PyData.int (1 + (a : Int)), .int 12, .int (1 + (b : Int))][q]? = some d) : ∃ n : Nat, d = .int (n : Int) ∧ 1 ≤ n ∧ n ≤ 12 := by
  match q, h with
  | 0, h => exact ⟨1 + a, by rw [← Option.some.inj h]; congr 1, by omega, by omega⟩
  | 1, h => exact ⟨12, (Option.some.inj h).symm, by omega, by omega⟩
  | 2, h => exact ⟨1 + b, by rw [← Option.some.inj h]; congr 1, by omega, by omega⟩
  | q + 3, h => cases h
theorem law_turn_spec (ms : List Int) : (wFor (wIt (wTup (wCons (wOp oAdd (wC (.int 1)) (wCallB 3 w_law_take (wCons (wC (.int 12)) wNil))) (wCons (wC (.int 12)) (wCons (wOp oAdd (wC (.int 1)) (wCallB 3 w_law_take (wCons (wC (.int 4)) wNil))) wNil))))) (wName 4)
 (wSeq (wFor (wIt (wCall w_law_worlds (wCons (wVar 4) wNil))) (wGTup 2 (wGCons (wName 5) (wGCons (wName 6) wGNil)))
 (wIfS (wNot (wTest (wCall w_law_world_right (wCons (wCallB 3 w_law_turned (wCons (wVar 5) wNil)) (wCons (wVar 6) wNil)))))
 (wRet (wSh (wC (.bool false))))
 wSkip))
 (wIfS (wNot (wTest (wCall w_law_chain_right (wCons (wVar 4) wNil))))
 (wRet (wSh (wC (.bool false))))
 wSkip))) (turnW 7 1 ms) (boxE 7 1 3 ms) 0 := by
  rw [show boxE 7 1 3 ms = [.no, .is (.sh (.list (ms.map PyData.int))), .no, .box, .no, .no, .no] from rfl]
  show wIt _ _ 0 fun ds N1 => ∃ I : Nat → Cg.Env → Nat → Prop, I 0 _ N1 ∧ _
  rw [wIt_eq]
  sizeOf_list_dec
  intro k hk k1 hk1
  refine ⟨fun q ε M => M ≤ 2 + 250 * q ∧ ∃ x4 x5 x6, ε = [.no, .is (.sh (.list (ms.map PyData.int))), .no, .box, x4, x5, x6], ⟨by omega, _, _, _, rfl⟩, fun q d ε M hq hI => ?_, fun ε M hI => ?_⟩
  · obtain ⟨hM, x4, x5, x6, rfl⟩ := hI
    have hq3 : q < 3 := (List.getElem?_eq_some_iff.mp hq).1
    obtain ⟨n, rfl, n1, n2⟩ := n_of (by omega) (by omega) hq
    have ew : ∀ n : Nat, (T.lst ((worldsF n).map fun w => T.sh (.tuple [tabD true true w.1, .int (w.2 : Int)]))).data = .list ((worldsF n).map fun w => .tuple [tabD true true w.1, .int (w.2 : Int)]) := fun n => by
      show PyData.list (T.datas _) = _
      rw [datasF]
    sizeOf_list_dec
    refine for_f (worldsF n) (fun w => .tuple [tabD true true w.1, .int (w.2 : Int)]) (fun j ε M' => M' ≤ M + 24 * j ∧ ∃ x5 x6, ε = [.no, .is (.sh (.list (ms.map PyData.int))), .no, .box, .is (.sh (.int (n : Int))), x5, x6]) (gv_it (d := .list ((worldsF n).map fun w => .tuple [tabD true true w.1, .int (w.2 : Int)])) (fun R h => by
      sizeOf_list_dec
      refine worlds_spec n1 n2 ?_
      rw [ew]
      exact h) rfl) ⟨by omega, _, _, rfl⟩ (fun j w ε M' hj hI => ?_) fun ε M' hI => ?_
    · obtain ⟨hM', x5, x6, rfl⟩ := hI
      have hj10 : j < 10 := (List.getElem?_eq_some_iff.mp hj).1
      obtain ⟨a, b, a1, a2, b1, b2, hW⟩ := worlds_wd n1 n2 hj
      sizeOf_list_dec
      refine turned_spec hW.1 hW.2.1 a1 a2 b2 (by omega) fun rs cs N' hrs hcs hN' => ?_
      rw [tbT_data]
      refine world_right_spec (turned_wd hW hrs hcs) a1 a2 b2 ?_
      sizeOf_list_dec
      exact ⟨by omega, _, _, rfl⟩
    · obtain ⟨hM', x5, x6, rfl⟩ := hI
      have hl : (worldsF n).length = 10 := rfl
      rw [hl] at hM'
      sizeOf_list_dec
      refine chain_spec n1 n2 ?_
      sizeOf_list_dec
      exact ⟨by omega, _, _, _, rfl⟩
  · obtain ⟨hM, x4, x5, x6, rfl⟩ := hI
    exact ⟨rfl, rfl⟩
end
end K11

set_option Elab.async false
set_option linter.all false
set_option maxRecDepth 100000
set_option maxHeartbeats 1000000
namespace K11
open PySem PySem.Spec PyProof.Rows L2 Evl Cg
section
variable {P : Program} {w : World} {K : PySem.W.Frag} {mg : Str → Option Value} {base : Heap}
theorem ok_law {f : Addr} {fd : FuncData} (F : Fun K "law" "law" st_law f fd) (B : Bm mg) {f1 : Addr} {fd1 : FuncData} (d_law_folded : Df P w K mg base 1 "_law_folded" st_law_folded ["_law_script", "_law_size"] f1 fd1 (spFold K)) {f2 : Addr} {fd2 : FuncData} (d_law_box : Df P w K mg base 1 "_law_box" st_law_box ["_law_script", "_law_k"] f2 fd2 (spBox K)) {f_law_chain_right : Addr} {fd_law_chain_right : FuncData} (d_law_chain_right : Df P w K mg base 5 "_law_chain_right" st_law_chain_right ["_law_n"] f_law_chain_right fd_law_chain_right (spW false 1 w_law_chain_right)) {f_law_take : Addr} {fd_law_take : FuncData} (d_law_take : Df P w K mg base 1 "_law_take" st_law_take ["_law_box_here", "_law_size"] f_law_take fd_law_take (spW true 1 w_law_take)) {f_law_turned : Addr} {fd_law_turned : FuncData} (d_law_turned : Df P w K mg base 3 "_law_turned" st_law_turned ["_law_box_here", "_law_table"] f_law_turned fd_law_turned (spW true 1 w_law_turned)) {f_law_world_right : Addr} {fd_law_world_right : FuncData} (d_law_world_right : Df P w K mg base 7 "_law_world_right" st_law_world_right ["_law_table", "_law_count"] f_law_world_right fd_law_world_right (spW false 2 w_law_world_right)) {f_law_worlds : Addr} {fd_law_worlds : FuncData} (d_law_worlds : Df P w K mg base 1 "_law_worlds" st_law_worlds ["_law_n"] f_law_worlds fd_law_worlds (spW false 1 w_law_worlds)) : FnG P w K mg base 8 f fd ["_law_script"] (spLaw K) := by
  refine fnG F sc_law (fun vs H Q E h => ?_) (fun cv A outer s H vs Q E hg hr h => ?_)
  · obtain ⟨a, ns, rfl, _⟩ := h
    rfl
  · obtain ⟨a, ns, rfl, hS, hl, q⟩ := h
    refine ⟨_, (pss_cons (ps_set (i := 1) sc_law.nd rfl (.inl rfl) (pe_call d_law_folded.G (hr.mono (by omega)) (by rfl) d_law_folded.g d_law_folded.F.kp d_law_folded.b .nil pass0 (pa_cons (pv 0) (pa_cons pe_int pa_nil))))
 (pss_cons (ps_for PassesOwn.never rfl (pi_range1 (by rfl) B.range (pa_cons (pe_callB (call_max2 rfl) (by rfl) B.max (by decide +kernel) (pa_cons pe_int (pa_cons (pe_callB (lenK K) (by rfl) B.len (by decide +kernel) (pa_cons (pv 1) pa_nil)) pa_nil))) pa_nil)) (pg_name (i := 2) sc_law.nd rfl (.inl rfl))
 (pss_cons (ps_set (i := 3) sc_law.nd rfl (.inl rfl) (pe_call d_law_box.G (hr.mono (by omega)) (by rfl) d_law_box.g d_law_box.F.kp d_law_box.b .nil pass0 (pa_cons (pv 1) (pa_cons (pv 2) pa_nil))))
 (pss_one (ps_for PassesOwn.never rfl (pi_seq K (pe_tup (pa_cons (pe_op op_addU pe_int (pe_call d_law_take.G (hr.mono (by omega)) (by rfl) d_law_take.g d_law_take.F.kp d_law_take.b .nil pass0 (pa_cons (pv 3) (pa_cons pe_int pa_nil)))) (pa_cons pe_int (pa_cons (pe_op op_addU pe_int (pe_call d_law_take.G (hr.mono (by omega)) (by rfl) d_law_take.g d_law_take.F.kp d_law_take.b .nil pass0 (pa_cons (pv 3) (pa_cons pe_int pa_nil)))) pa_nil))))) (pg_name (i := 4) sc_law.nd rfl (.inl rfl))
 (pss_cons (ps_for PassesOwn.never rfl (pi_seq K (pe_call d_law_worlds.G (hr.mono (by omega)) (by rfl) d_law_worlds.g d_law_worlds.F.kp d_law_worlds.b .nil pass0 (pa_cons (pv 4) pa_nil))) (pg_tupK K (n := 2) rfl (pgs_cons (pg_name (i := 5) sc_law.nd rfl (.inl rfl)) (pgs_cons (pg_name (i := 6) sc_law.nd rfl (.inl rfl)) pgs_nil)))
 (pss_one (ps_if (pt_not (pt_val (pe_call d_law_world_right.G (hr.mono (by omega)) (by rfl) d_law_world_right.g d_law_world_right.F.kp d_law_world_right.b .nil pass0 (pa_cons (pe_call d_law_turned.G (hr.mono (by omega)) (by rfl) d_law_turned.g d_law_turned.F.kp d_law_turned.b .nil pass0 (pa_cons (pv 3) (pa_cons (pv 5) pa_nil))) (pa_cons (pv 6) pa_nil)))))
 (pss_one (ps_ret pe_bl))
 pss_nil)))
 (pss_one (ps_if (pt_not (pt_val (pe_call d_law_chain_right.G (hr.mono (by omega)) (by rfl) d_law_chain_right.g d_law_chain_right.F.kp d_law_chain_right.b .nil pass0 (pa_cons (pv 4) pa_nil))))
 (pss_one (ps_ret pe_bl))
 pss_nil)))))))
 (pss_one (ps_ret pe_bl)))), ?_⟩
    refine ⟨.ref a, rfl, a, ns, 3, rfl, hS, by decide, by decide, by omega, fun l ms H1 e1 nl hl1 hlen => ?_⟩
    exact law_loopB ((sim_for (sim_it (sim_tup (sim_cons (sim_op od_add sim_int (sim_callB w_law_take_len (sim_cons sim_int sim_nil))) (sim_cons sim_int (sim_cons (sim_op od_add sim_int (sim_callB w_law_take_len (sim_cons sim_int sim_nil))) sim_nil))))) (sim_name (vs := [4]) (by decide))
 (sim_seq (sim_for (sim_it (sim_call w_law_worlds_len (sim_cons sim_var sim_nil))) (sim_gtup (sim_gcons (sim_name (vs := [5, 6]) (by decide)) (sim_gcons (sim_name (vs := [5, 6]) (by decide)) sim_gnil)))
 (sim_ifS (sim_not (sim_tB (sim_call w_law_world_right_len (sim_cons (sim_callB w_law_turned_len (sim_cons sim_var sim_nil)) (sim_cons sim_var sim_nil)))))
 (sim_ret (sim_sh sim_bl))
 sim_skip))
 (sim_ifS (sim_not (sim_tB (sim_call w_law_chain_right_len (sim_cons sim_var sim_nil))))
 (sim_ret (sim_sh sim_bl))
 sim_skip)))) (s := 1) (k := 2) (b := 3) (ms := ms) (ev_maxN (m := 1) rfl (SqL.of hl1)) (by rw [List.length_map]; omega) rfl (by decide) (by decide) (by decide) (by show _ < 7; decide) (by show _ < 7; decide) hl1 (law_turn_spec ms) (fun H' => q H')
end
theorem all_mk {l : PySem.W.OpenLaw} {w : World} {K : PySem.W.Frag} {h : Heap} {mg : Str → Option Value} {fa : Addr} (X : K.In h) (G : h.Ns mainGlobals mg) (hfa : mg "law" = some (.ref fa))
    {f0 : Addr} {od0 an0 : Option Addr} {sl0 : Array (Option Value)} {oc0 kV0 dc0 pm0 cd0 ct0 : Value}
    {f1 : Addr} {od1 an1 : Option Addr} {sl1 : Array (Option Value)} {oc1 kV1 dc1 pm1 cd1 ct1 : Value}
    {f2 : Addr} {od2 an2 : Option Addr} {sl2 : Array (Option Value)} {oc2 kV2 dc2 pm2 cd2 ct2 : Value}
    {f3 : Addr} {od3 an3 : Option Addr} {sl3 : Array (Option Value)} {oc3 kV3 dc3 pm3 cd3 ct3 : Value}
    {f4 : Addr} {od4 an4 : Option Addr} {sl4 : Array (Option Value)} {oc4 kV4 dc4 pm4 cd4 ct4 : Value}
    {f5 : Addr} {od5 an5 : Option Addr} {sl5 : Array (Option Value)} {oc5 kV5 dc5 pm5 cd5 ct5 : Value}
    {f6 : Addr} {od6 an6 : Option Addr} {sl6 : Array (Option Value)} {oc6 kV6 dc6 pm6 cd6 ct6 : Value}
    {f7 : Addr} {od7 an7 : Option Addr} {sl7 : Array (Option Value)} {oc7 kV7 dc7 pm7 cd7 ct7 : Value}
    {f8 : Addr} {od8 an8 : Option Addr} {sl8 : Array (Option Value)} {oc8 kV8 dc8 pm8 cd8 ct8 : Value}
    {f9 : Addr} {od9 an9 : Option Addr} {sl9 : Array (Option Value)} {oc9 kV9 dc9 pm9 cd9 ct9 : Value}
    {f10 : Addr} {od10 an10 : Option Addr} {sl10 : Array (Option Value)} {oc10 kV10 dc10 pm10 cd10 ct10 : Value}
    {f11 : Addr} {od11 an11 : Option Addr} {sl11 : Array (Option Value)} {oc11 kV11 dc11 pm11 cd11 ct11 : Value}
    {f12 : Addr} {od12 an12 : Option Addr} {sl12 : Array (Option Value)} {oc12 kV12 dc12 pm12 cd12 ct12 : Value}
    {f13 : Addr} {od13 an13 : Option Addr} {sl13 : Array (Option Value)} {oc13 kV13 dc13 pm13 cd13 ct13 : Value}
    {f14 : Addr} {od14 an14 : Option Addr} {sl14 : Array (Option Value)} {oc14 kV14 dc14 pm14 cd14 ct14 : Value}
    {f15 : Addr} {od15 an15 : Option Addr} {sl15 : Array (Option Value)} {oc15 kV15 dc15 pm15 cd15 ct15 : Value}
    {f16 : Addr} {od16 an16 : Option Addr} {sl16 : Array (Option Value)} {oc16 kV16 dc16 pm16 cd16 ct16 : Value}
    {f17 : Addr} {od17 an17 : Option Addr} {sl17 : Array (Option Value)} {oc17 kV17 dc17 pm17 cd17 ct17 : Value}
    {f18 : Addr} {od18 an18 : Option Addr} {sl18 : Array (Option Value)} {oc18 kV18 dc18 pm18 cd18 ct18 : Value}
    {f19 : Addr} {od19 an19 : Option Addr} {sl19 : Array (Option Value)} {oc19 kV19 dc19 pm19 cd19 ct19 : Value}
    {f20 : Addr} {od20 an20 : Option Addr} {sl20 : Array (Option Value)} {oc20 kV20 dc20 pm20 cd20 ct20 : Value}
    {f21 : Addr} {od21 an21 : Option Addr} {sl21 : Array (Option Value)} {oc21 kV21 dc21 pm21 cd21 ct21 : Value}
    {f22 : Addr} {od22 an22 : Option Addr} {sl22 : Array (Option Value)} {oc22 kV22 dc22 pm22 cd22 ct22 : Value}
    {f23 : Addr} {od23 an23 : Option Addr} {sl23 : Array (Option Value)} {oc23 kV23 dc23 pm23 cd23 ct23 : Value}
    {f24 : Addr} {od24 an24 : Option Addr} {sl24 : Array (Option Value)} {oc24 kV24 dc24 pm24 cd24 ct24 : Value}
    {f25 : Addr} {od25 an25 : Option Addr} {sl25 : Array (Option Value)} {oc25 kV25 dc25 pm25 cd25 ct25 : Value}
    {f26 : Addr} {od26 an26 : Option Addr} {sl26 : Array (Option Value)} {oc26 kV26 dc26 pm26 cd26 ct26 : Value}
    {f27 : Addr} {od27 an27 : Option Addr} {sl27 : Array (Option Value)} {oc27 kV27 dc27 pm27 cd27 ct27 : Value}
    {f28 : Addr} {od28 an28 : Option Addr} {sl28 : Array (Option Value)} {oc28 kV28 dc28 pm28 cd28 ct28 : Value}
    {f29 : Addr} {od29 an29 : Option Addr} {sl29 : Array (Option Value)} {oc29 kV29 dc29 pm29 cd29 ct29 : Value}
    {f30 : Addr} {od30 an30 : Option Addr} {sl30 : Array (Option Value)} {oc30 kV30 dc30 pm30 cd30 ct30 : Value}
    {f31 : Addr} {od31 an31 : Option Addr} {sl31 : Array (Option Value)} {oc31 kV31 dc31 pm31 cd31 ct31 : Value}
    (a0 : PySem.W.nsIn K mainGlobals "is_number" = some (some (.ref f0))) (l0 : K.lookup f0 = some ⟨oc0, od0, .func (PySem.W.fnOf "is_number" "is_number" (defArgs st_is_number) (defBody st_is_number) (defScope st_is_number) .none kV0 dc0 pm0 an0 cd0 ct0), sl0⟩) (c0 : PySem.W.codeIn K cd0 "is_number" = true) (k0 : PySem.W.keepIn K (.ref f0) = true)
    (a1 : PySem.W.nsIn K mainGlobals "is_between" = some (some (.ref f1))) (l1 : K.lookup f1 = some ⟨oc1, od1, .func (PySem.W.fnOf "is_between" "is_between" (defArgs st_is_between) (defBody st_is_between) (defScope st_is_between) .none kV1 dc1 pm1 an1 cd1 ct1), sl1⟩) (c1 : PySem.W.codeIn K cd1 "is_between" = true) (k1 : PySem.W.keepIn K (.ref f1) = true)
    (a2 : PySem.W.nsIn K mainGlobals "is_place" = some (some (.ref f2))) (l2 : K.lookup f2 = some ⟨oc2, od2, .func (PySem.W.fnOf "is_place" "is_place" (defArgs st_is_place) (defBody st_is_place) (defScope st_is_place) .none kV2 dc2 pm2 an2 cd2 ct2), sl2⟩) (c2 : PySem.W.codeIn K cd2 "is_place" = true) (k2 : PySem.W.keepIn K (.ref f2) = true)
    (a3 : PySem.W.nsIn K mainGlobals "is_rising" = some (some (.ref f3))) (l3 : K.lookup f3 = some ⟨oc3, od3, .func (PySem.W.fnOf "is_rising" "is_rising" (defArgs st_is_rising) (defBody st_is_rising) (defScope st_is_rising) .none kV3 dc3 pm3 an3 cd3 ct3), sl3⟩) (c3 : PySem.W.codeIn K cd3 "is_rising" = true) (k3 : PySem.W.keepIn K (.ref f3) = true)
    (a4 : PySem.W.nsIn K mainGlobals "outlets_in" = some (some (.ref f4))) (l4 : K.lookup f4 = some ⟨oc4, od4, .func (PySem.W.fnOf "outlets_in" "outlets_in" (defArgs st_outlets_in) (defBody st_outlets_in) (defScope st_outlets_in) .none kV4 dc4 pm4 an4 cd4 ct4), sl4⟩) (c4 : PySem.W.codeIn K cd4 "outlets_in" = true) (k4 : PySem.W.keepIn K (.ref f4) = true)
    (a5 : PySem.W.nsIn K mainGlobals "asks_of" = some (some (.ref f5))) (l5 : K.lookup f5 = some ⟨oc5, od5, .func (PySem.W.fnOf "asks_of" "asks_of" (defArgs st_asks_of) (defBody st_asks_of) (defScope st_asks_of) .none kV5 dc5 pm5 an5 cd5 ct5), sl5⟩) (c5 : PySem.W.codeIn K cd5 "asks_of" = true) (k5 : PySem.W.keepIn K (.ref f5) = true)
    (a6 : PySem.W.nsIn K mainGlobals "left_out" = some (some (.ref f6))) (l6 : K.lookup f6 = some ⟨oc6, od6, .func (PySem.W.fnOf "left_out" "left_out" (defArgs st_left_out) (defBody st_left_out) (defScope st_left_out) .none kV6 dc6 pm6 an6 cd6 ct6), sl6⟩) (c6 : PySem.W.codeIn K cd6 "left_out" = true) (k6 : PySem.W.keepIn K (.ref f6) = true)
    (a7 : PySem.W.nsIn K mainGlobals "is_ask" = some (some (.ref f7))) (l7 : K.lookup f7 = some ⟨oc7, od7, .func (PySem.W.fnOf "is_ask" "is_ask" (defArgs st_is_ask) (defBody st_is_ask) (defScope st_is_ask) .none kV7 dc7 pm7 an7 cd7 ct7), sl7⟩) (c7 : PySem.W.codeIn K cd7 "is_ask" = true) (k7 : PySem.W.keepIn K (.ref f7) = true)
    (a8 : PySem.W.nsIn K mainGlobals "are_pairs" = some (some (.ref f8))) (l8 : K.lookup f8 = some ⟨oc8, od8, .func (PySem.W.fnOf "are_pairs" "are_pairs" (defArgs st_are_pairs) (defBody st_are_pairs) (defScope st_are_pairs) .none kV8 dc8 pm8 an8 cd8 ct8), sl8⟩) (c8 : PySem.W.codeIn K cd8 "are_pairs" = true) (k8 : PySem.W.keepIn K (.ref f8) = true)
    (a9 : PySem.W.nsIn K mainGlobals "inlets_of" = some (some (.ref f9))) (l9 : K.lookup f9 = some ⟨oc9, od9, .func (PySem.W.fnOf "inlets_of" "inlets_of" (defArgs st_inlets_of) (defBody st_inlets_of) (defScope st_inlets_of) .none kV9 dc9 pm9 an9 cd9 ct9), sl9⟩) (c9 : PySem.W.codeIn K cd9 "inlets_of" = true) (k9 : PySem.W.keepIn K (.ref f9) = true)
    (a10 : PySem.W.nsIn K mainGlobals "outlets_of" = some (some (.ref f10))) (l10 : K.lookup f10 = some ⟨oc10, od10, .func (PySem.W.fnOf "outlets_of" "outlets_of" (defArgs st_outlets_of) (defBody st_outlets_of) (defScope st_outlets_of) .none kV10 dc10 pm10 an10 cd10 ct10), sl10⟩) (c10 : PySem.W.codeIn K cd10 "outlets_of" = true) (k10 : PySem.W.keepIn K (.ref f10) = true)
    (a11 : PySem.W.nsIn K mainGlobals "asks_left" = some (some (.ref f11))) (l11 : K.lookup f11 = some ⟨oc11, od11, .func (PySem.W.fnOf "asks_left" "asks_left" (defArgs st_asks_left) (defBody st_asks_left) (defScope st_asks_left) .none kV11 dc11 pm11 an11 cd11 ct11), sl11⟩) (c11 : PySem.W.codeIn K cd11 "asks_left" = true) (k11 : PySem.W.keepIn K (.ref f11) = true)
    (a12 : PySem.W.nsIn K mainGlobals "free_ask" = some (some (.ref f12))) (l12 : K.lookup f12 = some ⟨oc12, od12, .func (PySem.W.fnOf "free_ask" "free_ask" (defArgs st_free_ask) (defBody st_free_ask) (defScope st_free_ask) .none kV12 dc12 pm12 an12 cd12 ct12), sl12⟩) (c12 : PySem.W.codeIn K cd12 "free_ask" = true) (k12 : PySem.W.keepIn K (.ref f12) = true)
    (a13 : PySem.W.nsIn K mainGlobals "first_pairs" = some (some (.ref f13))) (l13 : K.lookup f13 = some ⟨oc13, od13, .func (PySem.W.fnOf "first_pairs" "first_pairs" (defArgs st_first_pairs) (defBody st_first_pairs) (defScope st_first_pairs) .none kV13 dc13 pm13 an13 cd13 ct13), sl13⟩) (c13 : PySem.W.codeIn K cd13 "first_pairs" = true) (k13 : PySem.W.keepIn K (.ref f13) = true)
    (a14 : PySem.W.nsIn K mainGlobals "free_inlets" = some (some (.ref f14))) (l14 : K.lookup f14 = some ⟨oc14, od14, .func (PySem.W.fnOf "free_inlets" "free_inlets" (defArgs st_free_inlets) (defBody st_free_inlets) (defScope st_free_inlets) .none kV14 dc14 pm14 an14 cd14 ct14), sl14⟩) (c14 : PySem.W.codeIn K cd14 "free_inlets" = true) (k14 : PySem.W.keepIn K (.ref f14) = true)
    (a15 : PySem.W.nsIn K mainGlobals "reached_by" = some (some (.ref f15))) (l15 : K.lookup f15 = some ⟨oc15, od15, .func (PySem.W.fnOf "reached_by" "reached_by" (defArgs st_reached_by) (defBody st_reached_by) (defScope st_reached_by) .none kV15 dc15 pm15 an15 cd15 ct15), sl15⟩) (c15 : PySem.W.codeIn K cd15 "reached_by" = true) (k15 : PySem.W.keepIn K (.ref f15) = true)
    (a16 : PySem.W.nsIn K mainGlobals "taken_over" = some (some (.ref f16))) (l16 : K.lookup f16 = some ⟨oc16, od16, .func (PySem.W.fnOf "taken_over" "taken_over" (defArgs st_taken_over) (defBody st_taken_over) (defScope st_taken_over) .none kV16 dc16 pm16 an16 cd16 ct16), sl16⟩) (c16 : PySem.W.codeIn K cd16 "taken_over" = true) (k16 : PySem.W.keepIn K (.ref f16) = true)
    (a17 : PySem.W.nsIn K mainGlobals "grown" = some (some (.ref f17))) (l17 : K.lookup f17 = some ⟨oc17, od17, .func (PySem.W.fnOf "grown" "grown" (defArgs st_grown) (defBody st_grown) (defScope st_grown) .none kV17 dc17 pm17 an17 cd17 ct17), sl17⟩) (c17 : PySem.W.codeIn K cd17 "grown" = true) (k17 : PySem.W.keepIn K (.ref f17) = true)
    (a18 : PySem.W.nsIn K mainGlobals "most_pairs" = some (some (.ref f18))) (l18 : K.lookup f18 = some ⟨oc18, od18, .func (PySem.W.fnOf "most_pairs" "most_pairs" (defArgs st_most_pairs) (defBody st_most_pairs) (defScope st_most_pairs) .none kV18 dc18 pm18 an18 cd18 ct18), sl18⟩) (c18 : PySem.W.codeIn K cd18 "most_pairs" = true) (k18 : PySem.W.keepIn K (.ref f18) = true)
    (a19 : PySem.W.nsIn K mainGlobals "cover_of" = some (some (.ref f19))) (l19 : K.lookup f19 = some ⟨oc19, od19, .func (PySem.W.fnOf "cover_of" "cover_of" (defArgs st_cover_of) (defBody st_cover_of) (defScope st_cover_of) .none kV19 dc19 pm19 an19 cd19 ct19), sl19⟩) (c19 : PySem.W.codeIn K cd19 "cover_of" = true) (k19 : PySem.W.keepIn K (.ref f19) = true)
    (a20 : PySem.W.nsIn K mainGlobals "are_places" = some (some (.ref f20))) (l20 : K.lookup f20 = some ⟨oc20, od20, .func (PySem.W.fnOf "are_places" "are_places" (defArgs st_are_places) (defBody st_are_places) (defScope st_are_places) .none kV20 dc20 pm20 an20 cd20 ct20), sl20⟩) (c20 : PySem.W.codeIn K cd20 "are_places" = true) (k20 : PySem.W.keepIn K (.ref f20) = true)
    (a21 : PySem.W.nsIn K mainGlobals "is_cover" = some (some (.ref f21))) (l21 : K.lookup f21 = some ⟨oc21, od21, .func (PySem.W.fnOf "is_cover" "is_cover" (defArgs st_is_cover) (defBody st_is_cover) (defScope st_is_cover) .none kV21 dc21 pm21 an21 cd21 ct21), sl21⟩) (c21 : PySem.W.codeIn K cd21 "is_cover" = true) (k21 : PySem.W.keepIn K (.ref f21) = true)
    (a22 : PySem.W.nsIn K mainGlobals "shows_most" = some (some (.ref f22))) (l22 : K.lookup f22 = some ⟨oc22, od22, .func (PySem.W.fnOf "shows_most" "shows_most" (defArgs st_shows_most) (defBody st_shows_most) (defScope st_shows_most) .none kV22 dc22 pm22 an22 cd22 ct22), sl22⟩) (c22 : PySem.W.codeIn K cd22 "shows_most" = true) (k22 : PySem.W.keepIn K (.ref f22) = true)
    (a23 : PySem.W.nsIn K mainGlobals "_law_box" = some (some (.ref f23))) (l23 : K.lookup f23 = some ⟨oc23, od23, .func (PySem.W.fnOf "_law_box" "_law_box" (defArgs st_law_box) (defBody st_law_box) (defScope st_law_box) .none kV23 dc23 pm23 an23 cd23 ct23), sl23⟩) (c23 : PySem.W.codeIn K cd23 "_law_box" = true) (k23 : PySem.W.keepIn K (.ref f23) = true)
    (a24 : PySem.W.nsIn K mainGlobals "_law_take" = some (some (.ref f24))) (l24 : K.lookup f24 = some ⟨oc24, od24, .func (PySem.W.fnOf "_law_take" "_law_take" (defArgs st_law_take) (defBody st_law_take) (defScope st_law_take) .none kV24 dc24 pm24 an24 cd24 ct24), sl24⟩) (c24 : PySem.W.codeIn K cd24 "_law_take" = true) (k24 : PySem.W.keepIn K (.ref f24) = true)
    (a25 : PySem.W.nsIn K mainGlobals "_law_folded" = some (some (.ref f25))) (l25 : K.lookup f25 = some ⟨oc25, od25, .func (PySem.W.fnOf "_law_folded" "_law_folded" (defArgs st_law_folded) (defBody st_law_folded) (defScope st_law_folded) .none kV25 dc25 pm25 an25 cd25 ct25), sl25⟩) (c25 : PySem.W.codeIn K cd25 "_law_folded" = true) (k25 : PySem.W.keepIn K (.ref f25) = true)
    (a26 : PySem.W.nsIn K mainGlobals "_law_strewn" = some (some (.ref f26))) (l26 : K.lookup f26 = some ⟨oc26, od26, .func (PySem.W.fnOf "_law_strewn" "_law_strewn" (defArgs st_law_strewn) (defBody st_law_strewn) (defScope st_law_strewn) .none kV26 dc26 pm26 an26 cd26 ct26), sl26⟩) (c26 : PySem.W.codeIn K cd26 "_law_strewn" = true) (k26 : PySem.W.keepIn K (.ref f26) = true)
    (a27 : PySem.W.nsIn K mainGlobals "_law_worlds" = some (some (.ref f27))) (l27 : K.lookup f27 = some ⟨oc27, od27, .func (PySem.W.fnOf "_law_worlds" "_law_worlds" (defArgs st_law_worlds) (defBody st_law_worlds) (defScope st_law_worlds) .none kV27 dc27 pm27 an27 cd27 ct27), sl27⟩) (c27 : PySem.W.codeIn K cd27 "_law_worlds" = true) (k27 : PySem.W.keepIn K (.ref f27) = true)
    (a28 : PySem.W.nsIn K mainGlobals "_law_turned" = some (some (.ref f28))) (l28 : K.lookup f28 = some ⟨oc28, od28, .func (PySem.W.fnOf "_law_turned" "_law_turned" (defArgs st_law_turned) (defBody st_law_turned) (defScope st_law_turned) .none kV28 dc28 pm28 an28 cd28 ct28), sl28⟩) (c28 : PySem.W.codeIn K cd28 "_law_turned" = true) (k28 : PySem.W.keepIn K (.ref f28) = true)
    (a29 : PySem.W.nsIn K mainGlobals "_law_world_right" = some (some (.ref f29))) (l29 : K.lookup f29 = some ⟨oc29, od29, .func (PySem.W.fnOf "_law_world_right" "_law_world_right" (defArgs st_law_world_right) (defBody st_law_world_right) (defScope st_law_world_right) .none kV29 dc29 pm29 an29 cd29 ct29), sl29⟩) (c29 : PySem.W.codeIn K cd29 "_law_world_right" = true) (k29 : PySem.W.keepIn K (.ref f29) = true)
    (a30 : PySem.W.nsIn K mainGlobals "_law_chain_right" = some (some (.ref f30))) (l30 : K.lookup f30 = some ⟨oc30, od30, .func (PySem.W.fnOf "_law_chain_right" "_law_chain_right" (defArgs st_law_chain_right) (defBody st_law_chain_right) (defScope st_law_chain_right) .none kV30 dc30 pm30 an30 cd30 ct30), sl30⟩) (c30 : PySem.W.codeIn K cd30 "_law_chain_right" = true) (k30 : PySem.W.keepIn K (.ref f30) = true)
    (a31 : PySem.W.nsIn K mainGlobals "law" = some (some (.ref f31))) (l31 : K.lookup f31 = some ⟨oc31, od31, .func (PySem.W.fnOf "law" "law" (defArgs st_law) (defBody st_law) (defScope st_law) .none kV31 dc31 pm31 an31 cd31 ct31), sl31⟩) (c31 : PySem.W.codeIn K cd31 "law" = true) (k31 : PySem.W.keepIn K (.ref f31) = true)
    (z0 : PySem.W.nsIn K mainGlobals "int" = some none)
    (z1 : PySem.W.nsIn K mainGlobals "bool" = some none)
    (z2 : PySem.W.nsIn K mainGlobals "list" = some none)
    (z3 : PySem.W.nsIn K mainGlobals "tuple" = some none)
    (z4 : PySem.W.nsIn K mainGlobals "str" = some none)
    (z5 : PySem.W.nsIn K mainGlobals "len" = some none)
    (z6 : PySem.W.nsIn K mainGlobals "all" = some none)
    (z7 : PySem.W.nsIn K mainGlobals "isinstance" = some none)
    (z8 : PySem.W.nsIn K mainGlobals "range" = some none)
    (z9 : PySem.W.nsIn K mainGlobals "enumerate" = some none)
    (z10 : PySem.W.nsIn K mainGlobals "zip" = some none)
    (z11 : PySem.W.nsIn K mainGlobals "repr" = some none)
    (z12 : PySem.W.nsIn K mainGlobals "abs" = some none)
    (z13 : PySem.W.nsIn K mainGlobals "min" = some none)
    (z14 : PySem.W.nsIn K mainGlobals "max" = some none)
    (z15 : PySem.W.nsIn K mainGlobals "divmod" = some none)
    (z16 : PySem.W.nsIn K mainGlobals "sum" = some none)
    (z17 : PySem.W.nsIn K mainGlobals "sorted" = some none)
    (z18 : PySem.W.nsIn K mainGlobals "any" = some none)
    (z19 : PySem.W.nsIn K mainGlobals "set" = some none)
    (z20 : PySem.W.nsIn K mainGlobals "reversed" = some none)
    (z21 : PySem.W.nsIn K mainGlobals "dict" = some none) :
    ∃ fd : FuncData, (∀ (s : Shared) (v : Value), BindsTo s fd ⟨[v], []⟩ [("_law_script", v)]) ∧ ∀ base : Heap, K.In base → base.Ns mainGlobals mg → FnG l.prog w K mg base 8 fa fd ["_law_script"] (spLaw K) := by
  have e := hfa.symm.trans (PySem.W.mg_of X G a31)
  cases e
  have F_is_number := fun_mk (st := st_is_number) l0 c0 k0
  have b_is_number := F_is_number.binds (ps := ["thing"]) fun _ _ _ _ _ _ us hl => match us, hl with | [_], _ => rfl
  have g_is_number := PySem.W.mg_of X G a0
  have F_is_between := fun_mk (st := st_is_between) l1 c1 k1
  have b_is_between := F_is_between.binds (ps := ["thing", "least", "most"]) fun _ _ _ _ _ _ us hl => match us, hl with | [_, _, _], _ => rfl
  have g_is_between := PySem.W.mg_of X G a1
  have F_is_place := fun_mk (st := st_is_place) l2 c2 k2
  have b_is_place := F_is_place.binds (ps := ["thing", "many"]) fun _ _ _ _ _ _ us hl => match us, hl with | [_, _], _ => rfl
  have g_is_place := PySem.W.mg_of X G a2
  have F_is_rising := fun_mk (st := st_is_rising) l3 c3 k3
  have b_is_rising := F_is_rising.binds (ps := ["numbers"]) fun _ _ _ _ _ _ us hl => match us, hl with | [_], _ => rfl
  have g_is_rising := PySem.W.mg_of X G a3
  have F_outlets_in := fun_mk (st := st_outlets_in) l4 c4 k4
  have b_outlets_in := F_outlets_in.binds (ps := ["table"]) fun _ _ _ _ _ _ us hl => match us, hl with | [_], _ => rfl
  have g_outlets_in := PySem.W.mg_of X G a4
  have F_asks_of := fun_mk (st := st_asks_of) l5 c5 k5
  have b_asks_of := F_asks_of.binds (ps := ["table"]) fun _ _ _ _ _ _ us hl => match us, hl with | [_], _ => rfl
  have g_asks_of := PySem.W.mg_of X G a5
  have F_left_out := fun_mk (st := st_left_out) l6 c6 k6
  have b_left_out := F_left_out.binds (ps := ["table", "inlets", "outlets"]) fun _ _ _ _ _ _ us hl => match us, hl with | [_, _, _], _ => rfl
  have g_left_out := PySem.W.mg_of X G a6
  have F_is_ask := fun_mk (st := st_is_ask) l7 c7 k7
  have b_is_ask := F_is_ask.binds (ps := ["table", "thing"]) fun _ _ _ _ _ _ us hl => match us, hl with | [_, _], _ => rfl
  have g_is_ask := PySem.W.mg_of X G a7
  have F_are_pairs := fun_mk (st := st_are_pairs) l8 c8 k8
  have b_are_pairs := F_are_pairs.binds (ps := ["table", "thing"]) fun _ _ _ _ _ _ us hl => match us, hl with | [_, _], _ => rfl
  have g_are_pairs := PySem.W.mg_of X G a8
  have F_inlets_of := fun_mk (st := st_inlets_of) l9 c9 k9
  have b_inlets_of := F_inlets_of.binds (ps := ["pairs"]) fun _ _ _ _ _ _ us hl => match us, hl with | [_], _ => rfl
  have g_inlets_of := PySem.W.mg_of X G a9
  have F_outlets_of := fun_mk (st := st_outlets_of) l10 c10 k10
  have b_outlets_of := F_outlets_of.binds (ps := ["pairs"]) fun _ _ _ _ _ _ us hl => match us, hl with | [_], _ => rfl
  have g_outlets_of := PySem.W.mg_of X G a10
  have F_asks_left := fun_mk (st := st_asks_left) l11 c11 k11
  have b_asks_left := F_asks_left.binds (ps := ["table", "pairs"]) fun _ _ _ _ _ _ us hl => match us, hl with | [_, _], _ => rfl
  have g_asks_left := PySem.W.mg_of X G a11
  have F_free_ask := fun_mk (st := st_free_ask) l12 c12 k12
  have b_free_ask := F_free_ask.binds (ps := ["table", "pairs"]) fun _ _ _ _ _ _ us hl => match us, hl with | [_, _], _ => rfl
  have g_free_ask := PySem.W.mg_of X G a12
  have F_first_pairs := fun_mk (st := st_first_pairs) l13 c13 k13
  have b_first_pairs := F_first_pairs.binds (ps := ["table"]) fun _ _ _ _ _ _ us hl => match us, hl with | [_], _ => rfl
  have g_first_pairs := PySem.W.mg_of X G a13
  have F_free_inlets := fun_mk (st := st_free_inlets) l14 c14 k14
  have b_free_inlets := F_free_inlets.binds (ps := ["table", "pairs"]) fun _ _ _ _ _ _ us hl => match us, hl with | [_, _], _ => rfl
  have g_free_inlets := PySem.W.mg_of X G a14
  have F_reached_by := fun_mk (st := st_reached_by) l15 c15 k15
  have b_reached_by := F_reached_by.binds (ps := ["table", "pairs"]) fun _ _ _ _ _ _ us hl => match us, hl with | [_, _], _ => rfl
  have g_reached_by := PySem.W.mg_of X G a15
  have F_taken_over := fun_mk (st := st_taken_over) l16 c16 k16
  have b_taken_over := F_taken_over.binds (ps := ["pairs", "reached", "last"]) fun _ _ _ _ _ _ us hl => match us, hl with | [_, _, _], _ => rfl
  have g_taken_over := PySem.W.mg_of X G a16
  have F_grown := fun_mk (st := st_grown) l17 c17 k17
  have b_grown := F_grown.binds (ps := ["table", "pairs"]) fun _ _ _ _ _ _ us hl => match us, hl with | [_, _], _ => rfl
  have g_grown := PySem.W.mg_of X G a17
  have F_most_pairs := fun_mk (st := st_most_pairs) l18 c18 k18
  have b_most_pairs := F_most_pairs.binds (ps := ["table"]) fun _ _ _ _ _ _ us hl => match us, hl with | [_], _ => rfl
  have g_most_pairs := PySem.W.mg_of X G a18
  have F_cover_of := fun_mk (st := st_cover_of) l19 c19 k19
  have b_cover_of := F_cover_of.binds (ps := ["table"]) fun _ _ _ _ _ _ us hl => match us, hl with | [_], _ => rfl
  have g_cover_of := PySem.W.mg_of X G a19
  have F_are_places := fun_mk (st := st_are_places) l20 c20 k20
  have b_are_places := F_are_places.binds (ps := ["thing", "many"]) fun _ _ _ _ _ _ us hl => match us, hl with | [_, _], _ => rfl
  have g_are_places := PySem.W.mg_of X G a20
  have F_is_cover := fun_mk (st := st_is_cover) l21 c21 k21
  have b_is_cover := F_is_cover.binds (ps := ["table", "thing"]) fun _ _ _ _ _ _ us hl => match us, hl with | [_, _], _ => rfl
  have g_is_cover := PySem.W.mg_of X G a21
  have F_shows_most := fun_mk (st := st_shows_most) l22 c22 k22
  have b_shows_most := F_shows_most.binds (ps := ["table", "pairs", "thing"]) fun _ _ _ _ _ _ us hl => match us, hl with | [_, _, _], _ => rfl
  have g_shows_most := PySem.W.mg_of X G a22
  have F_law_box := fun_mk (st := st_law_box) l23 c23 k23
  have b_law_box := F_law_box.binds (ps := ["_law_script", "_law_k"]) fun _ _ _ _ _ _ us hl => match us, hl with | [_, _], _ => rfl
  have g_law_box := PySem.W.mg_of X G a23
  have F_law_take := fun_mk (st := st_law_take) l24 c24 k24
  have b_law_take := F_law_take.binds (ps := ["_law_box_here", "_law_size"]) fun _ _ _ _ _ _ us hl => match us, hl with | [_, _], _ => rfl
  have g_law_take := PySem.W.mg_of X G a24
  have F_law_folded := fun_mk (st := st_law_folded) l25 c25 k25
  have b_law_folded := F_law_folded.binds (ps := ["_law_script", "_law_size"]) fun _ _ _ _ _ _ us hl => match us, hl with | [_, _], _ => rfl
  have g_law_folded := PySem.W.mg_of X G a25
  have F_law_strewn := fun_mk (st := st_law_strewn) l26 c26 k26
  have b_law_strewn := F_law_strewn.binds (ps := ["_law_box_here", "_law_some"]) fun _ _ _ _ _ _ us hl => match us, hl with | [_, _], _ => rfl
  have g_law_strewn := PySem.W.mg_of X G a26
  have F_law_worlds := fun_mk (st := st_law_worlds) l27 c27 k27
  have b_law_worlds := F_law_worlds.binds (ps := ["_law_n"]) fun _ _ _ _ _ _ us hl => match us, hl with | [_], _ => rfl
  have g_law_worlds := PySem.W.mg_of X G a27
  have F_law_turned := fun_mk (st := st_law_turned) l28 c28 k28
  have b_law_turned := F_law_turned.binds (ps := ["_law_box_here", "_law_table"]) fun _ _ _ _ _ _ us hl => match us, hl with | [_, _], _ => rfl
  have g_law_turned := PySem.W.mg_of X G a28
  have F_law_world_right := fun_mk (st := st_law_world_right) l29 c29 k29
  have b_law_world_right := F_law_world_right.binds (ps := ["_law_table", "_law_count"]) fun _ _ _ _ _ _ us hl => match us, hl with | [_, _], _ => rfl
  have g_law_world_right := PySem.W.mg_of X G a29
  have F_law_chain_right := fun_mk (st := st_law_chain_right) l30 c30 k30
  have b_law_chain_right := F_law_chain_right.binds (ps := ["_law_n"]) fun _ _ _ _ _ _ us hl => match us, hl with | [_], _ => rfl
  have g_law_chain_right := PySem.W.mg_of X G a30
  have F_law := fun_mk (st := st_law) l31 c31 k31
  have b_law := F_law.binds (ps := ["_law_script"]) fun _ _ _ _ _ _ us hl => match us, hl with | [_], _ => rfl
  have g_law := PySem.W.mg_of X G a31
  have B : Bm mg := ⟨PySem.W.mg_none_of X G z0, PySem.W.mg_none_of X G z1, PySem.W.mg_none_of X G z2, PySem.W.mg_none_of X G z3, PySem.W.mg_none_of X G z4, PySem.W.mg_none_of X G z5, PySem.W.mg_none_of X G z6, PySem.W.mg_none_of X G z7, PySem.W.mg_none_of X G z8, PySem.W.mg_none_of X G z9, PySem.W.mg_none_of X G z10, PySem.W.mg_none_of X G z11, PySem.W.mg_none_of X G z12, PySem.W.mg_none_of X G z13, PySem.W.mg_none_of X G z14, PySem.W.mg_none_of X G z15, PySem.W.mg_none_of X G z16, PySem.W.mg_none_of X G z17, PySem.W.mg_none_of X G z18, PySem.W.mg_none_of X G z19, PySem.W.mg_none_of X G z20, PySem.W.mg_none_of X G z21⟩
  refine ⟨PySem.W.fnOf "law" "law" (defArgs st_law) (defBody st_law) (defScope st_law) .none kV31 dc31 pm31 an31 cd31 ct31, fun s v => .of_eq rfl, fun base _ _ => ?_⟩
  have D_is_number : Df l.prog w K mg base 1 _ _ _ _ _ _ := ⟨F_is_number, g_is_number, b_is_number, ok_is_number (P := l.prog) (w := w) (base := base) F_is_number B ⟩
  have D_is_between : Df l.prog w K mg base 2 _ _ _ _ _ _ := ⟨F_is_between, g_is_between, b_is_between, ok_is_between (P := l.prog) (w := w) (base := base) F_is_between B D_is_number⟩
  have D_is_place : Df l.prog w K mg base 3 _ _ _ _ _ _ := ⟨F_is_place, g_is_place, b_is_place, ok_is_place (P := l.prog) (w := w) (base := base) F_is_place B D_is_between⟩
  have D_is_rising : Df l.prog w K mg base 1 _ _ _ _ _ _ := ⟨F_is_rising, g_is_rising, b_is_rising, ok_is_rising (P := l.prog) (w := w) (base := base) F_is_rising B ⟩
  have D_outlets_in : Df l.prog w K mg base 1 _ _ _ _ _ _ := ⟨F_outlets_in, g_outlets_in, b_outlets_in, ok_outlets_in (P := l.prog) (w := w) (base := base) F_outlets_in B ⟩
  have D_asks_of : Df l.prog w K mg base 1 _ _ _ _ _ _ := ⟨F_asks_of, g_asks_of, b_asks_of, ok_asks_of (P := l.prog) (w := w) (base := base) F_asks_of B ⟩
  have D_left_out : Df l.prog w K mg base 1 _ _ _ _ _ _ := ⟨F_left_out, g_left_out, b_left_out, ok_left_out (P := l.prog) (w := w) (base := base) F_left_out B ⟩
  have D_is_ask : Df l.prog w K mg base 4 _ _ _ _ _ _ := ⟨F_is_ask, g_is_ask, b_is_ask, ok_is_ask (P := l.prog) (w := w) (base := base) F_is_ask B D_is_place D_outlets_in⟩
  have D_inlets_of : Df l.prog w K mg base 1 _ _ _ _ _ _ := ⟨F_inlets_of, g_inlets_of, b_inlets_of, ok_inlets_of (P := l.prog) (w := w) (base := base) F_inlets_of B ⟩
  have D_outlets_of : Df l.prog w K mg base 1 _ _ _ _ _ _ := ⟨F_outlets_of, g_outlets_of, b_outlets_of, ok_outlets_of (P := l.prog) (w := w) (base := base) F_outlets_of B ⟩
  have D_are_pairs : Df l.prog w K mg base 5 _ _ _ _ _ _ := ⟨F_are_pairs, g_are_pairs, b_are_pairs, ok_are_pairs (P := l.prog) (w := w) (base := base) F_are_pairs B D_inlets_of D_is_ask D_is_rising D_outlets_of⟩
  have D_asks_left : Df l.prog w K mg base 2 _ _ _ _ _ _ := ⟨F_asks_left, g_asks_left, b_asks_left, ok_asks_left (P := l.prog) (w := w) (base := base) F_asks_left B D_inlets_of D_left_out D_outlets_of⟩
  have D_free_ask : Df l.prog w K mg base 3 _ _ _ _ _ _ := ⟨F_free_ask, g_free_ask, b_free_ask, ok_free_ask (P := l.prog) (w := w) (base := base) F_free_ask B D_asks_left D_asks_of⟩
  have D_first_pairs : Df l.prog w K mg base 4 _ _ _ _ _ _ := ⟨F_first_pairs, g_first_pairs, b_first_pairs, ok_first_pairs (P := l.prog) (w := w) (base := base) F_first_pairs B D_free_ask⟩
  have D_free_inlets : Df l.prog w K mg base 2 _ _ _ _ _ _ := ⟨F_free_inlets, g_free_inlets, b_free_inlets, ok_free_inlets (P := l.prog) (w := w) (base := base) F_free_inlets B D_inlets_of⟩
  have D_reached_by : Df l.prog w K mg base 3 _ _ _ _ _ _ := ⟨F_reached_by, g_reached_by, b_reached_by, ok_reached_by (P := l.prog) (w := w) (base := base) F_reached_by B D_free_inlets⟩
  have D_taken_over : Df l.prog w K mg base 1 _ _ _ _ _ _ := ⟨F_taken_over, g_taken_over, b_taken_over, ok_taken_over (P := l.prog) (w := w) (base := base) F_taken_over B ⟩
  have D_grown : Df l.prog w K mg base 4 _ _ _ _ _ _ := ⟨F_grown, g_grown, b_grown, ok_grown (P := l.prog) (w := w) (base := base) F_grown B D_outlets_of D_reached_by D_taken_over⟩
  have D_most_pairs : Df l.prog w K mg base 5 _ _ _ _ _ _ := ⟨F_most_pairs, g_most_pairs, b_most_pairs, ok_most_pairs (P := l.prog) (w := w) (base := base) F_most_pairs B D_first_pairs D_grown⟩
  have D_cover_of : Df l.prog w K mg base 6 _ _ _ _ _ _ := ⟨F_cover_of, g_cover_of, b_cover_of, ok_cover_of (P := l.prog) (w := w) (base := base) F_cover_of B D_most_pairs D_reached_by⟩
  have D_are_places : Df l.prog w K mg base 4 _ _ _ _ _ _ := ⟨F_are_places, g_are_places, b_are_places, ok_are_places (P := l.prog) (w := w) (base := base) F_are_places B D_is_place D_is_rising⟩
  have D_is_cover : Df l.prog w K mg base 5 _ _ _ _ _ _ := ⟨F_is_cover, g_is_cover, b_is_cover, ok_is_cover (P := l.prog) (w := w) (base := base) F_is_cover B D_are_places D_asks_of D_left_out D_outlets_in⟩
  have D_shows_most : Df l.prog w K mg base 6 _ _ _ _ _ _ := ⟨F_shows_most, g_shows_most, b_shows_most, ok_shows_most (P := l.prog) (w := w) (base := base) F_shows_most B D_is_cover⟩
  have D_law_box : Df l.prog w K mg base 1 _ _ _ _ _ _ := ⟨F_law_box, g_law_box, b_law_box, ok_law_box (P := l.prog) (w := w) (base := base) F_law_box B⟩
  have D_law_take : Df l.prog w K mg base 1 _ _ _ _ _ _ := ⟨F_law_take, g_law_take, b_law_take, ok_law_take (P := l.prog) (w := w) (base := base) F_law_take B⟩
  have D_law_folded : Df l.prog w K mg base 1 _ _ _ _ _ _ := ⟨F_law_folded, g_law_folded, b_law_folded, ok_law_folded (P := l.prog) (w := w) (base := base) F_law_folded B⟩
  have D_law_strewn : Df l.prog w K mg base 2 _ _ _ _ _ _ := ⟨F_law_strewn, g_law_strewn, b_law_strewn, ok_law_strewn (P := l.prog) (w := w) (base := base) F_law_strewn B D_law_take⟩
  have D_law_worlds : Df l.prog w K mg base 1 _ _ _ _ _ _ := ⟨F_law_worlds, g_law_worlds, b_law_worlds, ok_law_worlds (P := l.prog) (w := w) (base := base) F_law_worlds B ⟩
  have D_law_turned : Df l.prog w K mg base 3 _ _ _ _ _ _ := ⟨F_law_turned, g_law_turned, b_law_turned, ok_law_turned (P := l.prog) (w := w) (base := base) F_law_turned B D_law_strewn⟩
  have D_law_world_right : Df l.prog w K mg base 7 _ _ _ _ _ _ := ⟨F_law_world_right, g_law_world_right, b_law_world_right, ok_law_world_right (P := l.prog) (w := w) (base := base) F_law_world_right B D_are_pairs D_cover_of D_grown D_most_pairs D_shows_most⟩
  have D_law_chain_right : Df l.prog w K mg base 5 _ _ _ _ _ _ := ⟨F_law_chain_right, g_law_chain_right, b_law_chain_right, ok_law_chain_right (P := l.prog) (w := w) (base := base) F_law_chain_right B D_grown⟩
  exact ok_law F_law B D_law_folded D_law_box D_law_chain_right D_law_take D_law_turned D_law_world_right D_law_worlds
end K11
open PySem PySem.W PyProof.Rows
set_option maxHeartbeats 0 in
theorem PySem.Challenge.cw_crossgrants_k11_known_pairs_holds : PySem.Challenge.rw_crossgrants_k11_known_pairs.Holds := by
  w_on; o_law; k_head; (case hw => w_witness2)
  k_fill
  refine Cg.walkG (l := PySem.Challenge.rw_crossgrants_k11_known_pairs) (n := 63) (k := 8) (x := "_law_script") (sp := Cg.spLaw) rfl (by decide) rfl ⟨rfl, by decide, by decide⟩ (fun w h Y => PySem.W.kIn_of Y) ?F (fun K H a ns hl hS => ⟨a, ns, rfl, hS, hl, fun _ => rfl⟩)
  case F =>
    intro w mg fa h KX G hmg
    refine' K11.all_mk KX G hmg ?a0 ?l0 ?c0 ?k0 ?a1 ?l1 ?c1 ?k1 ?a2 ?l2 ?c2 ?k2 ?a3 ?l3 ?c3 ?k3 ?a4 ?l4 ?c4 ?k4 ?a5 ?l5 ?c5 ?k5 ?a6 ?l6 ?c6 ?k6 ?a7 ?l7 ?c7 ?k7 ?a8 ?l8 ?c8 ?k8 ?a9 ?l9 ?c9 ?k9 ?a10 ?l10 ?c10 ?k10 ?a11 ?l11 ?c11 ?k11 ?a12 ?l12 ?c12 ?k12 ?a13 ?l13 ?c13 ?k13 ?a14 ?l14 ?c14 ?k14 ?a15 ?l15 ?c15 ?k15 ?a16 ?l16 ?c16 ?k16 ?a17 ?l17 ?c17 ?k17 ?a18 ?l18 ?c18 ?k18 ?a19 ?l19 ?c19 ?k19 ?a20 ?l20 ?c20 ?k20 ?a21 ?l21 ?c21 ?k21 ?a22 ?l22 ?c22 ?k22 ?a23 ?l23 ?c23 ?k23 ?a24 ?l24 ?c24 ?k24 ?a25 ?l25 ?c25 ?k25 ?a26 ?l26 ?c26 ?k26 ?a27 ?l27 ?c27 ?k27 ?a28 ?l28 ?c28 ?k28 ?a29 ?l29 ?c29 ?k29 ?a30 ?l30 ?c30 ?k30 ?a31 ?l31 ?c31 ?k31 ?z0 ?z1 ?z2 ?z3 ?z4 ?z5 ?z6 ?z7 ?z8 ?z9 ?z10 ?z11 ?z12 ?z13 ?z14 ?z15 ?z16 ?z17 ?z18 ?z19 ?z20 ?z21
    (case a0 => k_is); (case l0 => k_is); (case c0 => k_is); (case k0 => k_is); (case a1 => k_is); (case l1 => k_is); (case c1 => k_is); (case k1 => k_is); (case a2 => k_is); (case l2 => k_is); (case c2 => k_is); (case k2 => k_is); (case a3 => k_is); (case l3 => k_is); (case c3 => k_is); (case k3 => k_is); (case a4 => k_is); (case l4 => k_is); (case c4 => k_is); (case k4 => k_is); (case a5 => k_is); (case l5 => k_is); (case c5 => k_is); (case k5 => k_is); (case a6 => k_is); (case l6 => k_is); (case c6 => k_is); (case k6 => k_is); (case a7 => k_is); (case l7 => k_is); (case c7 => k_is); (case k7 => k_is); (case a8 => k_is); (case l8 => k_is); (case c8 => k_is); (case k8 => k_is); (case a9 => k_is); (case l9 => k_is); (case c9 => k_is); (case k9 => k_is); (case a10 => k_is); (case l10 => k_is); (case c10 => k_is); (case k10 => k_is); (case a11 => k_is); (case l11 => k_is); (case c11 => k_is); (case k11 => k_is); (case a12 => k_is); (case l12 => k_is); (case c12 => k_is); (case k12 => k_is); (case a13 => k_is); (case l13 => k_is); (case c13 => k_is); (case k13 => k_is); (case a14 => k_is); (case l14 => k_is); (case c14 => k_is); (case k14 => k_is); (case a15 => k_is); (case l15 => k_is); (case c15 => k_is); (case k15 => k_is); (case a16 => k_is); (case l16 => k_is); (case c16 => k_is); (case k16 => k_is); (case a17 => k_is); (case l17 => k_is); (case c17 => k_is); (case k17 => k_is); (case a18 => k_is); (case l18 => k_is); (case c18 => k_is); (case k18 => k_is); (case a19 => k_is); (case l19 => k_is); (case c19 => k_is); (case k19 => k_is); (case a20 => k_is); (case l20 => k_is); (case c20 => k_is); (case k20 => k_is); (case a21 => k_is); (case l21 => k_is); (case c21 => k_is); (case k21 => k_is); (case a22 => k_is); (case l22 => k_is); (case c22 => k_is); (case k22 => k_is); (case a23 => k_is); (case l23 => k_is); (case c23 => k_is); (case k23 => k_is); (case a24 => k_is); (case l24 => k_is); (case c24 => k_is); (case k24 => k_is); (case a25 => k_is); (case l25 => k_is); (case c25 => k_is); (case k25 => k_is); (case a26 => k_is); (case l26 => k_is); (case c26 => k_is); (case k26 => k_is); (case a27 => k_is); (case l27 => k_is); (case c27 => k_is); (case k27 => k_is); (case a28 => k_is); (case l28 => k_is); (case c28 => k_is); (case k28 => k_is); (case a29 => k_is); (case l29 => k_is); (case c29 => k_is); (case k29 => k_is); (case a30 => k_is); (case l30 => k_is); (case c30 => k_is); (case k30 => k_is); (case a31 => k_is); (case l31 => k_is); (case c31 => k_is); (case k31 => k_is); (case z0 => k_is); (case z1 => k_is); (case z2 => k_is); (case z3 => k_is); (case z4 => k_is); (case z5 => k_is); (case z6 => k_is); (case z7 => k_is); (case z8 => k_is); (case z9 => k_is); (case z10 => k_is); (case z11 => k_is); (case z12 => k_is); (case z13 => k_is); (case z14 => k_is); (case z15 => k_is); (case z16 => k_is); (case z17 => k_is); (case z18 => k_is); (case z19 => k_is); (case z20 => k_is); (case z21 => k_is)
