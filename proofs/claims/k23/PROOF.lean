import PyProof.Rows.All
import Wide.All
import OpenK.AllK
import Wide.FinOn
import HandS.ForMost
import HandS.IsInst
import HandS.Evl
import PyProof.StrLawsRepr
import KE.KDictZip
import KE.KStar
import HandS.Zip0
import HandS.Star
import KE.GoesMore
import HandS.Zip
import HandS.Conv
import HandS.Style
import HandS.SetFor
import HandS.Deep
import HandS.SortInts
import HandS.SortRule
import HandS.RaiseMore
import KE.GoesZip
import HandS.More
import HandS.TupSets
import HandS.DictComp
import HandS.MakeKwOnly
import HandS.Dict
import HandS.Strs
import HandS.Flt
import HandS.TupLe
import PySem.Challenge.RW_crossgrants_k23_what_is_left_falls
set_option Elab.async false
set_option linter.all false
set_option maxRecDepth 100000
namespace Cg
open PySem PySem.Spec PyProof.Rows L2
/-! ### calls where no repr is under way around them -/
section
variable {P : Program} {w : World} {K : PySem.W.Frag} {mg : Str → Option Value} {base : Heap}
/-- one call of a def of the text, at one place: its body's walk there -/
theorem run_at {k : Nat} {f : Addr} {x q : Str} {ar : Arguments} {bd : List Stmt} {sc : Scope} {d1 d2 d3 d4 cv d5 oc : Value} {an od : Option Addr} {sl : Array (Option Value)} {N ps : List Str}
    {A : Around} {outer : List Env} {s : Shared} {H : Hp} {args : Args} {us : List Value} {vs : List V} {Q : VK} {E : XK}
    (look : K.lookup f = some ⟨oc, od, .func (PySem.W.fnOf x q ar bd sc d1 d2 d3 d4 an cv d5), sl⟩) (code : PySem.W.codeIn K cv q = true) (S : FnScope N ps sc) (len : vs.length = ps.length)
    (room : Room (k + 1) A) (e0 : Env0 P w K mg base A outer s H) (bnd : BindsTo s (PySem.W.fnOf x q ar bd sc d1 d2 d3 d4 an cv d5) args (ps.zip us)) (rel : Vals vs us)
    (walk : ∃ t, PSs (cxOf CX0 P w K mg base N q sc f cv A outer s H E) bd t ∧ t { nx := fun _ H' => Q .non H', rt := Q } (start N vs) H) :
    codeAny (model P w) A (.call (.ref f) args) (CR CX0 outer P w H s Q E) s := by
  have old : ∀ b o, base.get? b = some o → s.heap.get? b = some o := fun b o e => (e0.bs b o e).1
  have kin := e0.mod.kin.keeps old
  refine codeAny_call_function room.depth (kin _ _ look) rfl S.co S.gen rfl (PySem.W.codeRec_of kin code) (bnd _ _ _ _ ?_)
  refine wpAny_newFunctionEnv_cells S.kind (fun z hz => ?_) ?_
  · obtain ⟨n, v⟩ := z
    cases S.par n (List.of_mem_zip hz).1 with
    | inl q1 => exact .inl q1
    | inr q1 => exact .inr ⟨q1, PySem.W.cellsFrom_some _ _ _ (.inl q1)⟩
  · rintro env rfl s1 ic
    refine ⟨(e0.mod.nolimit.keeps old).keeps ic.toInCall.keep, codeAny_func ?_⟩
    obtain ⟨t, ht, hq⟩ := walk
    have I0 := inv_start (CX := CX0) (E := E) S room.hd e0 len rel ic
    refine wpAny_mono (ht.run [] s1 (start N vs) H _ I0 hq) ?_ (fun _ _ z => z)
    rintro (_ | u | _ | _) s2 got
    all_goals first
      | (obtain ⟨σ2, H2, J, g⟩ := got; exact ⟨V.non, H2, J.os, J.bare, J.base, J.hok, rfl, g⟩)
      | (obtain ⟨v2, σ2, H2, J, rv, g⟩ := got; exact ⟨v2, H2, J.os, J.bare, J.base, J.hok, rv, g⟩)
      | (obtain ⟨_, _, _, g⟩ := got; exact g.elim)
/-- a def's promise, kept where no repr is under way -/
structure FnG (P : Program) (w : World) (K : PySem.W.Frag) (mg : Str → Option Value) (base : Heap) (k : Nat) (f : Addr) (fd : FuncData) (ps : List Str) (sp : Sp) : Prop where
  len : ∀ vs H Q E, sp vs H Q E → vs.length = ps.length
  go : ∀ (A : Around) (outer : List Env) (s : Shared) (H : Hp) (args : Args) (us : List Value) (vs : List V) (Q : VK) (E : XK), A.guards = some [] → Room k A → Env0 P w K mg base A outer s H →
    BindsTo s fd args (ps.zip us) → Vals vs us → sp vs H Q E → codeAny (model P w) A (.call (.ref f) args) (CR CX0 outer P w H s Q E) s
theorem fnG {x q : Str} {st : Stmt} {f : Addr} {fd : FuncData} {N ps : List Str} {k : Nat} {sp : Sp} (F : Fun K x q st f fd) (S : FnScope N ps (defScope st)) (len : ∀ vs H Q E, sp vs H Q E → vs.length = ps.length)
    (walk : ∀ (cv : Value) (A : Around) (outer : List Env) (s : Shared) (H : Hp) (vs : List V) (Q : VK) (E : XK), A.guards = some [] → Room k (A.deeper (envOfC q (defScope st) s.heap.objs.size f cv)) → sp vs H Q E →
      ∃ t, PSs (cxOf CX0 P w K mg base N q (defScope st) f cv A outer s H E).nox (defBody st) t ∧ t { nx := fun _ H' => Q .non H', rt := Q } (start N vs) H) : FnG P w K mg base (k + 1) f fd ps sp := by
  obtain ⟨oc, od, d2, d3, d4, an, cv, d5, sl, rfl, look, code⟩ := F.ex
  refine ⟨len, fun A outer s H args us vs Q E hg room e0 bnd rel h => ?_⟩
  obtain ⟨t, ht, hq⟩ := walk cv A outer s H vs Q E hg (room.deeper _) h
  exact run_at look code S (len _ _ _ _ h) room e0 bnd rel ⟨t, ht.nox, hq⟩
/-- the law itself, called from outside -/
theorem law_at {mb : Str → Option Value} {k : Nat} {fa a : Addr} {fd : FuncData} {x : Str} {sp : Sp} {s1 : Shared} {vs : List Value} {ns : List Int} (kin : K.In s1.heap) (gl : s1.heap.Ns mainGlobals mg) (bl : s1.heap.Ns builtinsNs mb)
    (bb : ∀ y : Str, y ≠ "__name__" → mb y = bootBuiltins y) (lim : s1.heap.NoLimit) (gens : s1.gens = #[]) (ha : s1.heap.get? a = some { cls := .type "list", data := .seq vs.toArray }) (hi : IntsAre vs ns) (hl : ns.length ≤ sizeLine) (room : Room k callerA)
    (F : ∀ base : Heap, K.In base → base.Ns mainGlobals mg → FnG P w K mg base k fa fd [x] sp) (bnd : ∀ (s : Shared) (u : Value), BindsTo s fd ⟨[u], []⟩ [(x, u)])
    (hsp : ∀ H : Hp, SqL K H a (ns.map V.int) → sp [.ref a] H (fun v _ => v = .bl true) E0) :
    codeAny (model P w) callerA (.call (.ref fa) ⟨[.ref a], []⟩) (fun r s' => r = .ok (.ret (.bool true)) ∧ OldK s1.heap s'.heap ∧ s'.os = s1.os ∧ AllBare s'.gens) s1 := by
  have rv := vals_ints hi
  have lv := hi.length
  let ob : Obj := { cls := .type "list", data := .seq vs.toArray }
  -- what is tracked: the script, known, unless it is the module's own
  obtain ⟨H, hS, hok, only⟩ : ∃ H : Hp, SqL K H a (ns.map V.int) ∧ HOk P w H s1.heap ∧ ∀ b u, H b = some u → b = a ∧ u = .frz ob (.lst (ns.map V.int)) ∧ K.lookup b = none := by
    cases hk : K.lookup a with
    | some o =>
      have e := kin a o hk
      rw [ha] at e
      cases e
      exact ⟨fun _ => none, .inr ⟨_, vs.toArray, _, hk, rfl, rfl, rfl, by rw [List.size_toArray, lv]; exact hl, by simpa using rv⟩, (fun _ _ z => nomatch z), fun _ _ z => nomatch z⟩
    | none =>
      have one : ∀ b u, (if b = a then some (HO.frz ob (.lst (ns.map V.int))) else none) = some u → b = a ∧ u = .frz ob (.lst (ns.map V.int)) := fun b u z => by
        by_cases hb : b = a
        · rw [if_pos hb] at z; exact ⟨hb, (Option.some.inj z).symm⟩
        · rw [if_neg hb] at z; cases z
      refine ⟨fun b => if b = a then some (.frz ob (.lst (ns.map V.int))) else none, .inl (.inr ⟨ob, if_pos rfl⟩), fun b u z => ?_, fun b u z => ⟨(one b u z).1, (one b u z).2, by rw [(one b u z).1]; exact hk⟩⟩
      obtain ⟨rfl, rfl⟩ := one b u z
      exact ⟨ha, by rw [List.length_map]; exact hl, vs, _, rv, ha⟩
  have free : ∀ {b : Addr} {o : Obj}, s1.heap.get? b = some o → (∀ es n, o.data = .seq es n → False) → H b = none := fun {b o} e d => by
    cases z : H b with
    | none => rfl
    | some u =>
      obtain ⟨rfl, _, _⟩ := only b u z
      rw [ha] at e
      cases e
      exact (d _ _ rfl).elim
  have nsK : ∀ {b : Addr} {m : Str → Option Value}, s1.heap.Ns b m → (hidT s1.heap H).Ns b m := fun {b m} ⟨o, es, ep, e, d, r⟩ => ⟨o, es, ep, hidT_get e (free e fun _ _ z => by rw [d] at z; cases z), d, r⟩
  have kin' : K.In (hidT s1.heap H) := fun b o e => hidT_get (kin b o e) (by
    cases z : H b with
    | none => rfl
    | some u => rw [(only b u z).2.2] at e; cases e)
  obtain ⟨mc, l1, l2⟩ := lim
  have e0 : Env0 P w K mg (hidT s1.heap H) callerA [] s1 H := ⟨rfl, ⟨kin', nsK gl, ⟨mb, nsK bl, bb⟩, ⟨mc, nsK l1, l2⟩⟩, fun _ _ e => of_hidT e, Nat.le_of_eq (hidT_size _ _), trivial, (fun _ z => nomatch z), hok, .of_eq gens⟩
  refine codeAny_mono ((F _ kin' (nsK gl)).go callerA [] s1 H ⟨[.ref a], []⟩ [.ref a] [.ref a] _ _ rfl room e0 (bnd s1 (.ref a)) (.cons rfl .nil) (hsp H hS)) ?_
  rintro (err | (_ | _ | _ | u)) s2 got
  all_goals first
    | exact False.elim got
    | skip
  obtain ⟨v, H2, os, bare, un, hok2, rel, rfl⟩ := got
  obtain rfl : u = Value.bool true := rel
  refine ⟨rfl, OldK.of_keep fun b o e => ?_, os, bare⟩
  cases z : H b with
  | none => exact un.keep b o e z (fun y => nomatch y) (fun y => nomatch y)
  | some u =>
    obtain ⟨_, rfl, _⟩ := only b u z
    have k1 := (hok b _ z).1
    have k2 := (hok2 b _ (un.frzs b _ _ z)).1
    rw [e] at k1
    cases k1
    exact k2
end
/-- the goal that k_head leaves, from the law's promise -/
theorem walkG {l : PySem.W.OpenLaw} {n k : Nat} {q : Program} {loose : List Str} {XP : (Str → Option Value) → Heap → Prop} {YP : World → Heap → Prop} {d : DefRec} {K : Params → PySem.W.Frag} {sp : PySem.W.Frag → Sp} {x : Str}
    (hn : l.most = some n) (hn2 : n ≤ sizeLine) (hdf : d.params.defaults = []) (room : Room k callerA) (hY : ∀ (w : World) (h : Heap), YP w h → (K w.params).In h)
    (F : ∀ (w : World) (mg : Str → Option Value) (fa : Addr) (h : Heap), (K w.params).In h → h.Ns mainGlobals mg → mg d.name = some (.ref fa) → ∃ fd : FuncData, (∀ (s : Shared) (u : Value), BindsTo s fd ⟨[u], []⟩ [(x, u)]) ∧
      ∀ base : Heap, (K w.params).In base → base.Ns mainGlobals mg → FnG l.prog w (K w.params) mg base k fa fd [x] (sp (K w.params)))
    (hsp : ∀ (K : PySem.W.Frag) (H : Hp) (a : Addr) (ns : List Int), ns.length ≤ n → SqL K H a (ns.map V.int) → sp K [.ref a] H (fun v _ => v = .bl true) E0) : PySem.W.WalkO q loose XP YP l.row.toRowW d [] (fun f vs => PySem.call f vs) := by
  refine Att.attach_call hn hdf ?_
  intro w s0 s1 mg mb fa o pm cd doc a vs ns G Y ho hd hcd hmg hobj hints hlen gens
  obtain ⟨fd, hb, hF⟩ := F w mg fa _ (hY w _ Y) G.T.g hmg
  exact law_at (hY w _ Y) G.T.g G.T.b G.T.builtins G.T.nolimit gens hobj hints (Nat.le_trans hlen hn2) room hF hb fun H hS => hsp _ H a ns hlen hS
end Cg

set_option Elab.async false
set_option linter.all false
set_option maxRecDepth 100000
namespace Cg
open PySem PySem.Spec PyProof.Rows L2
/-! ### data: what repr makes of them -/
mutual
/-- no dict, no int that is too great for repr, texts of signs -/
def okD : PyData → Bool
  | .none => true
  | .bool _ => true
  | .int i => decide (i.natAbs.log2 < 1920)
  | .str x => PyData.strOk x
  | .list xs => okAll xs
  | .tuple xs => okAll xs
  | .dict _ => false
def okAll : List PyData → Bool
  | [] => true
  | x :: xs => okD x && okAll xs
end
mutual
/-- at least as long as its text -/
def wz : PyData → Nat
  | .none => 4
  | .bool _ => 5
  | .int i => i.natAbs.log2 + 2
  | .str x => 10 * x.length + 2
  | .list xs => wzAll xs + 3
  | .tuple xs => wzAll xs + 3
  | .dict _ => 0
def wzAll : List PyData → Nat
  | [] => 0
  | x :: xs => wz x + 2 + wzAll xs
end
theorem listText_le : ∀ ts : List Str, (listText ts).length ≤ piled ts + 2
  | [] => by decide
  | t :: r => by
    have h := textFrom_length_pos r 1 (("[" : Str) ++ ("" : String) ++ t) (Nat.succ_pos 0)
    have e : (("[" : Str) ++ ("" : String) ++ t).length = 1 + t.length := by
      rw [strLen_append, strLen_append]; rfl
    have e2 : (listText (t :: r)).length = (textFrom 1 (("[" : Str) ++ ("" : String) ++ t) r).length + 1 := by
      show (textFrom 1 (("[" : Str) ++ ("" : String) ++ t) r ++ "]").length = _
      rw [strLen_append]; rfl
    rw [e2, h, e, piled_cons]
    omega
theorem tupleText_le (ts : List Str) : (tupleText ts).length ≤ piled ts + 3 := by
  have e0 : (tupleText ts).length = 1 + (Str.join ", " ts).length + ((if ts.length == 1 then ",)" else ")" : String) : Str).length := by
    show ((("(" : Str) ++ Str.join ", " ts) ++ ((if ts.length == 1 then ",)" else ")" : String) : Str)).length = _
    rw [strLen_append, strLen_append]; rfl
  have e1 : ((if ts.length == 1 then ",)" else ")" : String) : Str).length ≤ 2 := by split <;> decide
  cases ts with
  | nil => decide
  | cons t r =>
    have e2 := join_length_add (t :: r) (by simp)
    omega
mutual
theorem shown_le : ∀ d : PyData, okD d = true → d.showable = true ∧ d.hasDict = false ∧ d.shown.length ≤ wz d
  | .none, _ => ⟨rfl, rfl, by decide⟩
  | .bool b, _ => ⟨rfl, rfl, by cases b <;> decide⟩
  | .int i, h => ⟨h, rfl, by
      show (Str.ofString (toString i)).length ≤ i.natAbs.log2 + 2
      rw [PySem.ofString_length]
      exact int_text_length_le (k := i.natAbs.log2 + 1) (by omega) (by omega)⟩
  | .str x, h => ⟨rfl, rfl, PySem.StrLaws.reprText_len x fun c hc => by
      have h' : x.cps.all (fun c => decide (c < 0x110000)) = true := h
      rw [← Array.all_toList] at h'
      exact Nat.lt_trans (of_decide_eq_true (List.all_eq_true.mp h' c hc)) (by decide)⟩
  | .list xs, h => by
    obtain ⟨a, b, c⟩ := shownAll_le xs h
    refine ⟨a, b, ?_⟩
    show (listText (PyData.shownAll xs)).length ≤ wzAll xs + 3
    have := listText_le (PyData.shownAll xs)
    omega
  | .tuple xs, h => by
    obtain ⟨a, b, c⟩ := shownAll_le xs h
    refine ⟨a, b, ?_⟩
    show (tupleText (PyData.shownAll xs)).length ≤ wzAll xs + 3
    have := tupleText_le (PyData.shownAll xs)
    omega
  | .dict _, h => by cases h
theorem shownAll_le : ∀ xs : List PyData, okAll xs = true → PyData.showableAll xs = true ∧ PyData.hasDictAll xs = false ∧ piled (PyData.shownAll xs) ≤ wzAll xs
  | [], _ => ⟨rfl, rfl, Nat.le_refl _⟩
  | x :: xs, h => by
    have h' : (okD x && okAll xs) = true := h
    rw [Bool.and_eq_true] at h'
    obtain ⟨a, b, c⟩ := shown_le x h'.1
    obtain ⟨a', b', c'⟩ := shownAll_le xs h'.2
    refine ⟨by show (PyData.showable x && PyData.showableAll xs) = true; rw [a, a']; rfl, by show (PyData.hasDict x || PyData.hasDictAll xs) = false; rw [b, b']; rfl, ?_⟩
    show piled (x.shown :: PyData.shownAll xs) ≤ wz x + 2 + wzAll xs
    rw [piled_cons]
    omega
end
end Cg

set_option Elab.async false
set_option linter.all false
set_option maxRecDepth 100000
namespace Cg
open PySem PySem.Spec PyProof.Rows L2 Evl
/-! ### data that are tracked -/
/-- a dict's rows of ints, as they stand and as data -/
def kvI (p : Int × Int) : Key × V := (.inl p.1, .int p.2)
def kdI (p : Int × Int) : PyData × PyData := (.int p.1, .int p.2)
/-- a dict's rows of texts -/
def kz (ns : List Str) (vs : List V) : List (Key × V) := (ns.zip vs).map fun p => (.inr p.1, p.2)
/-- the data of an instance (c its class), or of a dict of texts (c None) -/
abbrev recD (c : PyData) (ns : List Str) (ds : List PyData) : PyData := .dict [(.none, c), (.tuple (ns.map PyData.str), .list ds)]
mutual
inductive Dq (H : Hp) : V → PyData → Prop
  | non : Dq H .non .none
  | bl (b : Bool) : Dq H (.bl b) (.bool b)
  | int (i : Int) : Dq H (.int i) (.int i)
  | str (x : Str) : Dq H (.str x) (.str x)
  | lst {a : Addr} {xs : List V} {ds : List PyData} (e : H a = some (.lst xs)) (h : DqAll H xs ds) : Dq H (.ref a) (.list ds)
  | tup {a : Addr} {xs : List V} {ds : List PyData} (e : H a = some (.tup xs)) (h : DqAll H xs ds) : Dq H (.ref a) (.tuple ds)
  | dic {a : Addr} {kvs : List (Int × Int)} (e : H a = some (.dK (kvs.map kvI))) : Dq H (.ref a) (.dict (kvs.map kdI))
  | ins {a C dx : Addr} {ns : List Str} {vs : List V} {ds : List PyData} (e : H a = some (.ins C dx (ns.zip vs))) (l : ns.length = vs.length) (h : DqAll H vs ds) : Dq H (.ref a) (.dict [(.none, .int (C : Int)), (.tuple (ns.map PyData.str), .list ds)])
  | rc {a : Addr} {ns : List Str} {vs : List V} {ds : List PyData} (e : H a = some (.dK (kz ns vs))) (l : ns.length = vs.length) (h : DqAll H vs ds) : Dq H (.ref a) (.dict [(.none, .none), (.tuple (ns.map PyData.str), .list ds)])
  | fz {a : Addr} {o : Obj} {xs : List V} {ds : List PyData} (e : H a = some (.frz o (.tup xs))) (c : o.dict = none) (h : DqAll H xs ds) : Dq H (.ref a) (.dict [(.none, .int (-1)), (.tuple [], .list ds)])
inductive DqAll (H : Hp) : List V → List PyData → Prop
  | nil : DqAll H [] []
  | cons {v : V} {vs : List V} {d : PyData} {ds : List PyData} (h : Dq H v d) (t : DqAll H vs ds) : DqAll H (v :: vs) (d :: ds)
end
section
variable {H H' : Hp} {K : PySem.W.Frag}
mutual
theorem Dq.mono (e : Same H H') : ∀ {v : V} {d : PyData}, Dq H v d → Dq H' v d
  | _, _, .non => .non
  | _, _, .bl b => .bl b
  | _, _, .int i => .int i
  | _, _, .str x => .str x
  | _, _, .lst a h => .lst (e _ _ a) (h.mono e)
  | _, _, .tup a h => .tup (e _ _ a) (h.mono e)
  | _, _, .dic a => .dic (e _ _ a)
  | _, _, .ins a l h => .ins (e _ _ a) l (h.mono e)
  | _, _, .rc a l h => .rc (e _ _ a) l (h.mono e)
  | _, _, .fz a c h => .fz (e _ _ a) c (h.mono e)
theorem DqAll.mono (e : Same H H') : ∀ {vs : List V} {ds : List PyData}, DqAll H vs ds → DqAll H' vs ds
  | _, _, .nil => .nil
  | _, _, .cons h t => .cons (h.mono e) (t.mono e)
end
mutual
/-- no dict in it -/
def noD : PyData → Bool
  | .none => true
  | .bool _ => true
  | .int _ => true
  | .str _ => true
  | .list xs => noDs xs
  | .tuple xs => noDs xs
  | .dict _ => false
def noDs : List PyData → Bool
  | [] => true
  | x :: xs => noD x && noDs xs
end
mutual
theorem noD_lay : ∀ {d : PyData}, d.canLay0 = true → noD d = true
  | .none, _ => rfl
  | .bool _, _ => rfl
  | .int _, _ => rfl
  | .str _, _ => rfl
  | .list xs, h => noDs_lay (ds := xs) h
  | .tuple xs, h => noDs_lay (ds := xs) h
  | .dict _, h => nomatch h
theorem noDs_lay : ∀ {ds : List PyData}, PyData.canLayAll0 ds = true → noDs ds = true
  | [], _ => rfl
  | x :: xs, h => by
    have h' := (Bool.and_eq_true _ _).mp h
    show (noD x && noDs xs) = true
    rw [noD_lay h'.1, noDs_lay h'.2]
    rfl
end
theorem noD_shaped {d : PyData} (h : SeqAt.shaped d = true) : noD d = true := noD_lay (SeqAt.canLay_of_shaped h)
mutual
theorem noD_ok : ∀ {d : PyData}, okD d = true → noD d = true
  | .none, _ => rfl
  | .bool _, _ => rfl
  | .int _, _ => rfl
  | .str _, _ => rfl
  | .list xs, h => noDs_ok (ds := xs) h
  | .tuple xs, h => noDs_ok (ds := xs) h
  | .dict _, h => nomatch h
theorem noDs_ok : ∀ {ds : List PyData}, okAll ds = true → noDs ds = true
  | [], _ => rfl
  | x :: xs, h => by
    have h' := (Bool.and_eq_true _ _).mp h
    show (noD x && noDs xs) = true
    rw [noD_ok h'.1, noDs_ok h'.2]
    rfl
end
mutual
theorem Dq.dp : ∀ {v : V} {d : PyData}, Dq H v d → noD d = true → Dp K H v d
  | _, _, .non, _ => .non
  | _, _, .bl b, _ => .bl b
  | _, _, .int i, _ => .int i
  | _, _, .str x, _ => .str x
  | _, _, .lst a h, n => .lst (SqL.of a) (h.dp n)
  | _, _, .tup a h, n => .tup (SqT.of a) (h.dp n)
  | _, _, .dic _, n => nomatch n
  | _, _, .ins _ _ _, n => nomatch n
  | _, _, .rc _ _ _, n => nomatch n
  | _, _, .fz _ _ _, n => nomatch n
theorem DqAll.dp : ∀ {vs : List V} {ds : List PyData}, DqAll H vs ds → noDs ds = true → DpAll K H vs ds
  | _, _, .nil, _ => .nil
  | _, _, .cons h t, n => .cons (h.dp ((Bool.and_eq_true _ _).mp n).1) (t.dp ((Bool.and_eq_true _ _).mp n).2)
end
theorem DqAll.len : ∀ {vs : List V} {ds : List PyData}, DqAll H vs ds → vs.length = ds.length
  | _, _, .nil => rfl
  | _, _, .cons _ t => by rw [List.length_cons, List.length_cons, t.len]
theorem DqAll.get : ∀ {vs : List V} {ds : List PyData}, DqAll H vs ds → ∀ {i : Nat} {v : V}, vs[i]? = some v → ∃ d, ds[i]? = some d ∧ Dq H v d
  | _, _, .nil, i, v, h => by simp at h
  | _, _, .cons (d := d) h t, 0, v, e => by
    have e' : _ = v := Option.some.inj e
    subst e'
    exact ⟨d, rfl, h⟩
  | _, _, .cons h t, i + 1, v, e => t.get (i := i) e
theorem DqAll.at : ∀ {vs : List V} {ds : List PyData}, DqAll H vs ds → ∀ {i : Nat} {d : PyData}, ds[i]? = some d → ∃ v, vs[i]? = some v ∧ Dq H v d
  | _, _, .nil, i, v, h => by simp at h
  | _, _, .cons (v := w) h t, 0, v, e => by
    have e' : _ = v := Option.some.inj e
    subst e'
    exact ⟨w, rfl, h⟩
  | _, _, .cons h t, i + 1, v, e => t.at (i := i) e
theorem DqAll.append : ∀ {vs us : List V} {ds es : List PyData}, DqAll H vs ds → DqAll H us es → DqAll H (vs ++ us) (ds ++ es)
  | _, _, _, _, .nil, q => q
  | _, _, _, _, .cons h t, q => .cons h (t.append q)
theorem DqAll.take : ∀ {vs : List V} {ds : List PyData} (n : Nat), DqAll H vs ds → DqAll H (vs.take n) (ds.take n)
  | _, _, 0, _ => .nil
  | _, _, _ + 1, .nil => .nil
  | _, _, n + 1, .cons h t => .cons h (t.take n)
theorem DqAll.drop : ∀ {vs : List V} {ds : List PyData} (n : Nat), DqAll H vs ds → DqAll H (vs.drop n) (ds.drop n)
  | _, _, 0, q => q
  | _, _, _ + 1, .nil => .nil
  | _, _, n + 1, .cons _ t => t.drop n
theorem DqAll.rep {v : V} {d : PyData} (h : Dq H v d) : ∀ n : Nat, DqAll H (List.replicate n v) (List.replicate n d)
  | 0 => .nil
  | n + 1 => .cons h (DqAll.rep h n)
theorem DqAll.ints : ∀ ns : List Int, DqAll H (ns.map V.int) (ns.map PyData.int)
  | [] => .nil
  | n :: r => .cons (.int n) (DqAll.ints r)
theorem Dq.list_inv {v : V} {ds : List PyData} (h : Dq H v (.list ds)) : ∃ a xs, v = .ref a ∧ H a = some (.lst xs) ∧ DqAll H xs ds := by
  cases h with
  | lst e h => exact ⟨_, _, rfl, e, h⟩
theorem Dq.tup_inv {v : V} {ds : List PyData} (h : Dq H v (.tuple ds)) : ∃ a xs, v = .ref a ∧ H a = some (.tup xs) ∧ DqAll H xs ds := by
  cases h with
  | tup e h => exact ⟨_, _, rfl, e, h⟩
theorem Dq.int_inv {v : V} {i : Int} (h : Dq H v (.int i)) : v = .int i := by
  cases h
  rfl
def tyN : PyData → String
  | .none => "NoneType"
  | .bool _ => "bool"
  | .int _ => "int"
  | .str _ => "str"
  | .list _ => "list"
  | .tuple _ => "tuple"
  | .dict _ => "dict"
/-- it is no instance -/
def notI : PyData → Bool
  | .dict ((.none, .int _) :: _) => false
  | _ => true
theorem Dq.ty {v : V} {d : PyData} (h : Dq H v d) (hn : notI d = true) : TyX K H v (.type (tyN d)) := by
  cases h with
  | non => exact .base .non
  | bl b => exact .base (.bl b)
  | int i => exact .base (.int i)
  | str x => exact .base (.str x)
  | lst e _ => exact .base (.lst e)
  | tup e _ => exact .base (.tup e)
  | dic e => exact .base (.dK e)
  | ins e l h => cases hn
  | rc e l h => exact .base (.dK e)
  | fz e c h => cases hn
def isInt : PyData → Bool
  | .int _ => true
  | .bool _ => true
  | _ => false
def isBool : PyData → Bool
  | .bool _ => true
  | _ => false
def isList : PyData → Bool
  | .list _ => true
  | _ => false
def isTuple : PyData → Bool
  | .tuple _ => true
  | _ => false
def isStr : PyData → Bool
  | .str _ => true
  | _ => false
theorem kit_int (d : PyData) : kitB (tyN d) "int" = some (isInt d) := by cases d <;> (simp only [tyN, isInt]; decide +kernel)
theorem kit_bool (d : PyData) : kitB (tyN d) "bool" = some (isBool d) := by cases d <;> (simp only [tyN, isBool]; decide +kernel)
theorem kit_list (d : PyData) : kitB (tyN d) "list" = some (isList d) := by cases d <;> (simp only [tyN, isList]; decide +kernel)
theorem kit_tuple (d : PyData) : kitB (tyN d) "tuple" = some (isTuple d) := by cases d <;> (simp only [tyN, isTuple]; decide +kernel)
end
/-! ### readings -/
section
variable {K : PySem.W.Frag} {σ : L2.St} {H : Hp} {ta tb te tl : TE} {x v : V} {d : PyData} {T : String} {b : Bool}
end
/-! ### rules whose reading names the written part itself -/
section
variable {X : Cx}
theorem lenK (K : PySem.W.Frag) (hK : X.K = K := by rfl) : CallR X (.builtin "len") (rLenS K) := by subst hK; exact call_len_seq
theorem isiK (K : PySem.W.Frag) (hK : X.K = K := by rfl) : CallR X (.builtin "isinstance") (rIsi K) := by subst hK; exact call_isi
theorem isiTK (K : PySem.W.Frag) (hK : X.K = K := by rfl) : CallR X (.builtin "isinstance") (rIsiT K) := by subst hK; exact call_isiT
theorem allK (K : PySem.W.Frag) (hK : X.K = K := by rfl) (hc : X.calm = true := by rfl) : CallR X (.builtin "all") (rAll K) := by subst hK; exact cr_all hc
theorem listK (K : PySem.W.Frag) (hK : X.K = K := by rfl) : CallR X (.type "list") (rListS K) := by subst hK; exact call_list_of
theorem ixLK (K : PySem.W.Frag) (hK : X.K = K := by rfl) : IxR X (rIxL K) := by subst hK; exact ix_list
theorem slLK (K : PySem.W.Frag) (hK : X.K = K := by rfl) : SlR X (rSlL K) := by subst hK; exact sl_list
theorem inK (K : PySem.W.Frag) (hK : X.K = K := by rfl) : OpR X (compareOp .In) (rIn K false) := by subst hK; exact op_in_seq
theorem pi_enumK (K : PySem.W.Frag) {e : Expr} {ta : TA} {p pos tpos : Pos} {elts : List Expr} {kk : Nat} (hg : Gl X "enumerate") (hm : X.mg "enumerate" = none) (ha : PA X [e] ta) (hK : X.K = K := by rfl) (hs : starEach [e] X.env = [(false, eval e X.env)] := by rfl) :
    PI X (.Tuple elts kk tpos) (.Call (.Name "enumerate" p) [e] [] pos) (iEnum K ta) := by subst hK; exact pi_enum hg hm ha hs
theorem pg_tupK (K : PySem.W.Frag) {es : List Expr} {k : Nat} {t : TGs} {n : Nat} {pos : Pos} (hc : X.calm = true) (h : PGs X es t) (hK : X.K = K := by rfl) (hn : (assignEach es X.env).length = n := by rfl) (hst : (assignEach es X.env).findIdx? (·.1) = none := by rfl) :
    PG X (.Tuple es k pos) (gTup K n t) := by subst hK; exact pg_tup hc h hn hst
end
/-! ### promises: a truth of one thing -/
/-- a def of the text, where it stands, how it is called, what it promises -/
structure Df (P : Program) (w : World) (K : PySem.W.Frag) (mg : Str → Option Value) (base : Heap) (k : Nat) (x : Str) (st : Stmt) (ps : List Str) (f : Addr) (fd : FuncData) (sp : Sp) : Prop where
  F : Fun K x x st f fd
  g : mg x = some (.ref f)
  b : Binds K fd ps []
  G : FnOk P w K mg base CX0 k f fd ps sp
/-- the built-ins that the text asks are the built-ins still -/
structure Bl (mg : Str → Option Value) : Prop where
  int : mg "int" = none
  bool : mg "bool" = none
  list : mg "list" = none
  tuple : mg "tuple" = none
  str : mg "str" = none
  len : mg "len" = none
  all : mg "all" = none
  isinstance : mg "isinstance" = none
  range : mg "range" = none
  enumerate : mg "enumerate" = none
  zip : mg "zip" = none
  repr : mg "repr" = none
  abs : mg "abs" = none
  min : mg "min" = none
  max : mg "max" = none
  divmod : mg "divmod" = none
end Cg

set_option Elab.async false
set_option linter.all false
set_option maxRecDepth 100000
namespace Cg
open PySem PySem.Spec PyProof.Rows L2 Evl
/-! ### all but some objects is kept -/
def hid (bs : List Addr) (H : Hp) : Hp := fun a => if a ∈ bs then none else H a
def Keep (bs : List Addr) (H H' : Hp) : Prop := Same (hid bs H) (hid bs H')
section
variable {bs cs : List Addr} {H H1 H2 H3 : Hp} {p a : Addr} {o u : HO}
theorem hid_in (h : a ∈ bs) : hid bs H a = none := if_pos h
theorem hid_out (h : a ∉ bs) : hid bs H a = H a := if_neg h
theorem hid_some (h : hid bs H a = some o) : a ∉ bs ∧ H a = some o := by
  by_cases hm : a ∈ bs
  · rw [hid_in hm] at h; cases h
  · rw [hid_out hm] at h; exact ⟨hm, h⟩
theorem hid_same : Same (hid bs H) H := fun b x e => (hid_some e).2
theorem Keep.refl (bs : List Addr) (H : Hp) : Keep bs H H := Same.refl _
theorem Keep.trans (k : Keep bs H H1) (j : Keep bs H1 H2) : Keep bs H H2 := Same.trans k j
theorem Keep.of (e : Same H H1) : Keep bs H H1 := fun b x q => by
  obtain ⟨h1, h2⟩ := hid_some q
  rw [hid_out h1]
  exact e b x h2
theorem Keep.ext (k : Keep bs H H1) (e : Same H1 H2) : Keep bs H H2 := k.trans (.of e)
theorem Keep.new (k : Keep bs H H1) (h : H1 p = none) : Keep bs H (upd H1 p o) := k.ext (Ex.new h)
theorem Keep.put (k : Keep bs H H1) (h : p ∈ bs) : Keep bs H (upd H1 p o) := k.trans fun b x q => by
  obtain ⟨h1, h2⟩ := hid_some q
  rw [hid_out h1, upd_ne (fun z => h1 (by rw [z]; exact h))]
  exact h2
theorem Keep.more (k : Keep bs H H1) (h : ∀ b ∈ bs, b ∈ cs) : Keep cs H H1 := fun b x q => by
  obtain ⟨h1, h2⟩ := hid_some q
  have h3 : b ∉ bs := fun z => h1 (h b z)
  have := k b x (by rw [hid_out h3]; exact h2)
  rw [hid_out h1]
  exact (hid_some this).2
theorem Keep.get (k : Keep bs H H1) (h : a ∉ bs) (e : H a = some o) : H1 a = some o := (hid_some (k a o (by rw [hid_out h]; exact e))).2
theorem Keep.dq {v : V} {d : PyData} (k : Keep bs H H1) (h : Dq (hid bs H) v d) : Dq (hid bs H1) v d := h.mono k
theorem dq_vis {v : V} {d : PyData} (h : Dq (hid bs H) v d) : Dq H v d := h.mono hid_same
theorem hid_less (h : ∀ b ∈ bs, b ∈ cs) : Same (hid cs H) (hid bs H) := fun b x q => by
  obtain ⟨h1, h2⟩ := hid_some q
  rw [hid_out (fun z => h1 (h b z))]
  exact h2
end
/-! ### the box of draws -/
def Box (H : Hp) (b : Addr) (n : Nat) : Prop := ∃ r s c : Int, H b = some (.lst [.int r, .int s, .int c]) ∧ 0 ≤ r ∧ 0 ≤ s ∧ s < 2147483647 ∧ 0 ≤ c ∧ c ≤ n
section
variable {bs : List Addr} {H H1 : Hp} {b : Addr} {n m : Nat}
theorem Box.mono (h : Box H b n) (e : Same H H1) : Box H1 b n := by
  obtain ⟨r, s, c, h1, h2⟩ := h
  exact ⟨r, s, c, e _ _ h1, h2⟩
theorem Box.keep (h : Box H b n) (k : Keep bs H H1) (hb : b ∉ bs) : Box H1 b n := by
  obtain ⟨r, s, c, h1, h2⟩ := h
  exact ⟨r, s, c, k.get hb h1, h2⟩
theorem Box.le (h : Box H b n) (hm : n ≤ m) : Box H b m := by
  obtain ⟨r, s, c, h1, h2, h3, h4, h5, h6⟩ := h
  exact ⟨r, s, c, h1, h2, h3, h4, h5, by omega⟩
theorem Box.is (h : Box H b n) : H b ≠ none := by
  obtain ⟨r, s, c, h1, _⟩ := h
  rw [h1]
  exact fun z => nomatch z
theorem Box.ne {p : Addr} (h : Box H b n) (hp : H p = none) : p ≠ b := fun z => h.is (z ▸ hp)
theorem Box.upd {p : Addr} {o : HO} (h : Box H b n) (hp : H p = none) : Box (L2.upd H p o) b n := h.mono (Ex.new hp)
end
theorem Keep.free {H H1 : Hp} {b p : Addr} {n : Nat} (k : Keep [b] H H1) (hB : Box H1 b n) (hp : H1 p = none) : H p = none := by
  cases hh : H p with
  | none => rfl
  | some o =>
    have hb : p ∉ [b] := by simpa using hB.ne hp
    rw [k.get hb hh] at hp
    cases hp
theorem Box.out {H : Hp} {b p : Addr} {n : Nat} (hB : Box H b n) (hp : H p = none) : p ∉ [b] := by simpa using hB.ne hp
theorem Keep.putNew {H H1 : Hp} {bs : List Addr} {p : Addr} {o : HO} (k : Keep bs H H1) (h : H p = none) : Keep bs H (upd H1 p o) := fun a x q => by
  obtain ⟨q1, q2⟩ := hid_some q
  rw [hid_out q1, upd_ne (ne_of_none q2 h)]
  exact k.get q1 q2
theorem Box.put {H : Hp} {b p : Addr} {n : Nat} {o : HO} (h : Box H b n) (hp : p ≠ b) : Box (L2.upd H p o) b n := by
  obtain ⟨r, s, c, g, g'⟩ := h
  exact ⟨r, s, c, by rw [upd_ne hp.symm]; exact g, g'⟩
/-- what is kept is tracked still -/
theorem Keep.live {H H1 : Hp} {b x : Addr} {n : Nat} (k : Keep [b] H H1) (hB : Box H1 b n) (hx : H x ≠ none) : H1 x ≠ none := by
  by_cases e : x = b
  · subst e; exact hB.is
  · cases hh : H x with
    | none => exact absurd hh hx
    | some o =>
      rw [k.get (by simpa using e) hh]
      exact fun z => nomatch z
/-- what a draw promises -/
def spTake : Sp := fun vs H Q _ => ∃ (b : Addr) (m : Int) (n : Nat), vs = [.ref b, .int m] ∧ Box H b n ∧ n ≤ 1000000000 ∧ 1 ≤ m ∧ m ≤ 10000000 ∧
  ∀ (k : Int) (H' : Hp), 0 ≤ k → k < m → Box H' b (n + 1) → Keep [b] H H' → Q (.int k) H'
theorem ev_cb1 {σ : L2.St} {H : Hp} {r : List V → Hp → VK → Prop} {ta : TE} {x z : V} (h : Ev ta σ H x) (hr : ∀ (H1 : Hp) (Q : VK), Q z H1 → r [x] H1 Q) : Ev (tCB r (tCons ta tNil)) σ H z := ev_cb (ea_cons h ea_nil) fun H1 _ Q q => hr H1 Q (q H1 (Ex.refl _))
theorem ev_cb2 {σ : L2.St} {H : Hp} {r : List V → Hp → VK → Prop} {ta tb : TE} {x y z : V} (h : Ev ta σ H x) (h' : Ev tb σ H y) (hr : ∀ (H1 : Hp) (Q : VK), Q z H1 → r [x, y] H1 Q) : Ev (tCB r (tCons ta (tCons tb tNil))) σ H z := ev_cb (ea_cons h (ea_cons h' ea_nil)) fun H1 _ Q q => hr H1 Q (q H1 (Ex.refl _))
/-- for (k, x) in enumerate(xs), xs left as it is -/
theorem for_enum {K : PySem.W.Frag} {a : Addr} {xs : List V} {g : TG} {tb : TS} {D : Ends} {σ : L2.St} {H : Hp} (Pv : Nat → L2.St → Hp → Prop) (h0 : Pv 0 σ H) (hl : ∀ i σ H, i ≤ xs.length → Pv i σ H → SqL K H a xs)
    (hs : ∀ i x T σ H, xs[i]? = some x → Pv i σ H → H T = none → g (.ref T) σ (upd H T (.tup [.int (i : Nat), x])) fun σ2 H2 => tb { D with nx := Pv (i + 1), ct := Pv (i + 1), bk := D.nx } σ2 H2) (hd : ∀ σ H, Pv xs.length σ H → D.nx σ H) :
    ∃ W : Nat → Nat → L2.St → Hp → Prop, (∃ m, W 0 m σ H) ∧ ∀ i m σ H, W i m σ H → ((Ite K a).stop i H ∧ D.nx σ H) ∨ ((Ite K a).go i H ∧ ∃ N : L2.St → Hp → Prop, (∀ σ' H', N σ' H' → ∃ m', m' < m ∧ W (i + 1) m' σ' H') ∧
      ∀ x H', (Ite K a).yld i H x H' → g x σ H' fun σ2 H2 => tb { D with nx := N, ct := N, bk := D.nx } σ2 H2) := by
  refine ⟨fun i m σ H => i + m = xs.length ∧ Pv i σ H, ⟨xs.length, by omega, h0⟩, fun i m σ H hw => ?_⟩
  obtain ⟨e, p⟩ := hw
  have q := hl i σ H (by omega) p
  cases m with
  | zero =>
    obtain rfl : i = xs.length := by omega
    exact .inl ⟨⟨xs, q, Nat.le_refl _⟩, hd σ H p⟩
  | succ m =>
    have hi : i < xs.length := by omega
    refine .inr ⟨⟨xs, xs[i], q, List.getElem?_eq_getElem hi⟩, Pv (i + 1), fun σ' H' p' => ⟨m, by omega, by omega, p'⟩, fun v H' y => ?_⟩
    obtain ⟨T, x, rfl, hT, rfl, hx⟩ := y
    exact hs i x T σ H (hx xs q) p hT
theorem q_forE {K : PySem.W.Frag} {σ : L2.St} {H : Hp} {tl : TE} {i j : Nat} {xs : List V} {tu tz : TS} {D : Ends} (h : EvL tl σ H xs) (Pv : Addr → Nat → L2.St → Hp → Prop) (h0 : ∀ p H1, H p = none → Same H H1 → H1 p = some (.lst xs) → Pv p 0 σ H1)
    (hl : ∀ p k σ' H', k ≤ xs.length → Pv p k σ' H' → SqL K H' p xs)
    (hs : ∀ p (k : Nat) x T σ' H', xs[k]? = some x → Pv p k σ' H' → H' T = none → tu { D with nx := Pv p (k + 1), ct := Pv p (k + 1), bk := tz D } ((σ'.set i (some (.int (k : Nat)))).set j (some x)) (upd H' T (.tup [.int (k : Nat), x])))
    (hd : ∀ p σ' H', Pv p xs.length σ' H' → tz D σ' H') : tSeq (tFor (iEnum K (tCons tl tNil)) (gTup K 2 (gCons (gName i) (gCons (gName j) gNil))) tu) tz D σ H := by
  refine h H (Ex.refl _) _ fun p H1 np e1 hp => ⟨p, xs, rfl, SqL.of hp, ?_⟩
  refine for_enum (D := { D with nx := tz D }) (Pv p) (h0 p H1 np e1 hp) (hl p) (fun k x T σ' H' hx hP hT => ?_) (hd p)
  exact ⟨T, _, rfl, SqT.of upd_same, rfl, _, _, rfl, _, _, rfl, rfl, hs p k x T σ' H' hx hP hT⟩
end Cg

set_option Elab.async false
set_option linter.all false
set_option maxRecDepth 100000
namespace Cg
open PySem PySem.Spec PyProof.Rows L2 Evl
/-! ### readings by the data: nothing is changed, bs is what may be hidden -/
def Live (bs : List Addr) (H : Hp) : Prop := ∀ x ∈ bs, H x ≠ none
def EvQ (bs : List Addr) (te : TE) (σ : L2.St) (H : Hp) (d : PyData) : Prop := ∀ H1, Same H H1 → ∀ Q : VK, (∀ v H2, Same H1 H2 → Dq (hid bs H2) v d → Q v H2) → te σ H1 Q
def cutG {α : Type} (xs : List α) (lo hi : Option Int) : List α := (xs.drop (HT.sIx xs.length 0 lo)).take (HT.sIx xs.length xs.length hi - HT.sIx xs.length 0 lo)
section
variable {bs : List Addr} {K : PySem.W.Frag} {σ : L2.St} {H H' : Hp} {ta tb te : TE} {v : V} {d e : PyData} {ds es : List PyData} {T : String} {b : Bool}
theorem Live.mono (l : Live bs H) (e : Same H H') : Live bs H' := fun x hx => by
  cases hh : H x with
  | none => exact absurd hh (l x hx)
  | some o => rw [e x o hh]; exact fun z => nomatch z
theorem Live.out {p : Addr} (l : Live bs H) (hp : H p = none) : p ∉ bs := fun z => l p z hp
theorem Live.keep {b : Addr} {n : Nat} (l : Live bs H) (k : Keep [b] H H') (hB : Box H' b n) : Live bs H' := fun x hx => k.live hB (l x hx)
theorem same_hid (e : Same H H') : Same (hid bs H) (hid bs H') := Keep.of e
theorem EvQ.mono (s : Same H H') (h : EvQ bs te σ H d) : EvQ bs te σ H' d := fun H1 a Q q => h H1 (s.trans a) Q q
theorem DqAll.cut {xs : List V} (h : DqAll H xs ds) (lo hi : Option Int) : DqAll H (cutV xs lo hi) (cutG ds lo hi) := by
  unfold cutV cutG
  rw [h.len]
  exact (h.drop _).take _
theorem DqAll.flat {xs : List V} (h : DqAll H xs ds) : ∀ n : Nat, DqAll H (List.replicate n xs).flatten (List.replicate n ds).flatten
  | 0 => .nil
  | n + 1 => by
    rw [List.replicate_succ, List.flatten_cons, List.replicate_succ, List.flatten_cons]
    exact h.append (h.flat n)
mutual
theorem canLay_ok : ∀ d : PyData, okD d = true → d.canLay0 = true
  | .none, _ => rfl
  | .bool _, _ => rfl
  | .int _, _ => rfl
  | .str x, h => h
  | .list xs, h => canLayAll_ok xs h
  | .tuple xs, h => canLayAll_ok xs h
  | .dict _, h => by cases h
theorem canLayAll_ok : ∀ xs : List PyData, okAll xs = true → PyData.canLayAll0 xs = true
  | [], _ => rfl
  | x :: r, h => by
    have h' : (okD x && okAll r) = true := h
    rw [Bool.and_eq_true] at h'
    show (PyData.canLay0 x && PyData.canLayAll0 r) = true
    rw [canLay_ok x h'.1, canLayAll_ok r h'.2] <;> rfl
end
/-! statements -/
variable {D : Ends} {tz : TS}
/-! new lists, comprehensions -/
theorem hid_fresh {D : Addr} {o : HO} (hD : H D = none) : Same (hid bs H) (hid (D :: bs) (upd H D o)) := fun a x q => by
  obtain ⟨h1, h2⟩ := hid_some q
  have hne : a ≠ D := ne_of_none h2 hD
  rw [hid_out (fun z => (List.mem_cons.mp z).elim hne h1), upd_ne hne]
  exact h2
end
/-- such a def, kept where no repr is under way -/
structure DfG (P : Program) (w : World) (K : PySem.W.Frag) (mg : Str → Option Value) (base : Heap) (k : Nat) (x : Str) (st : Stmt) (ps : List Str) (f : Addr) (fd : FuncData) (sp : Sp) : Prop where
  F : Fun K x x st f fd
  g : mg x = some (.ref f)
  b : Binds K fd ps []
  G : FnG P w K mg base k f fd ps sp
end Cg

set_option Elab.async false
set_option linter.all false
set_option maxRecDepth 100000
namespace Cg
open PySem PySem.Spec PyProof.Rows L2 Evl
/-! ### lists of data: what holds of each -/
theorem okAll_iff : ∀ {xs : List PyData}, okAll xs = true ↔ ∀ x ∈ xs, okD x = true
  | [] => ⟨(fun _ _ z => nomatch z), fun _ => rfl⟩
  | x :: r => by
    show (okD x && okAll r) = true ↔ _
    rw [Bool.and_eq_true, okAll_iff (xs := r)]
    exact ⟨fun h y hy => (List.mem_cons.mp hy).elim (fun e => e ▸ h.1) (h.2 y), fun h => ⟨h x (List.mem_cons_self ..), fun y hy => h y (List.mem_cons_of_mem _ hy)⟩⟩
theorem depthAll_iff {k : Nat} : ∀ {xs : List PyData}, PyData.depthAll xs ≤ k ↔ ∀ x ∈ xs, x.depth ≤ k
  | [] => ⟨(fun _ _ z => nomatch z), fun _ => Nat.zero_le _⟩
  | x :: r => by
    show max x.depth (PyData.depthAll r) ≤ k ↔ _
    rw [Nat.max_le, depthAll_iff (xs := r)]
    exact ⟨fun h y hy => (List.mem_cons.mp hy).elim (fun e => e ▸ h.1) (h.2 y), fun h => ⟨h x (List.mem_cons_self ..), fun y hy => h y (List.mem_cons_of_mem _ hy)⟩⟩
theorem wzAll_le {R : Nat} : ∀ {xs : List PyData}, (∀ x ∈ xs, wz x ≤ R) → wzAll xs ≤ (R + 2) * xs.length
  | [], _ => Nat.zero_le _
  | x :: r, h => by
    have h1 := wzAll_le (xs := r) fun y hy => h y (List.mem_cons_of_mem _ hy)
    have h2 := h x (List.mem_cons_self ..)
    show wz x + 2 + wzAll r ≤ (R + 2) * (r.length + 1)
    rw [Nat.mul_succ]
    omega
/-- `[x] * n` -/
theorem rep_one {α : Type} (n : Nat) (x : α) : (List.replicate n [x]).flatten = List.replicate n x := by
  induction n with
  | zero => rfl
  | succ n ih => rw [List.replicate_succ, List.flatten_cons, ih]; rfl
/-- return all([e for k in range(n)]), each e True, nothing changed that was -/
theorem r_lawAll {K : PySem.W.Frag} {σ : L2.St} {H : Hp} {D : Ends} {ta : TA} {te : TE} {j n : Nat} {vs : List Nat} (ha : EvA ta σ H [.int (n : Int)]) (hn : n ≤ 40000) (hw : ∀ x, wipe ((wipe σ vs).set j (some x)) vs = wipe σ vs)
    (step : ∀ (i : Nat) (H' : Hp) (Q : VK), i < n → Same H H' → (∀ H2, Same H' H2 → Q (.bl true) H2) → te ((wipe σ vs).set j (some (.int (i : Int)))) H' Q) (k : ∀ H', Same H H' → D.rt (.bl true) H') :
    tRet (tCB (rAll K) (tCons (tLc (iRng1 ta) (gName j) tYes te vs) tNil)) D σ H := by
  have go : tLc (iRng1 ta) (gName j) tYes te vs σ H fun x H1 => rAll K [x] H1 D.rt := by
    refine ha H (Ex.refl _) _ fun H1 e1 => ⟨n, rfl, by omega, by omega, fun A nA => ?_⟩
    have toN : ((n : Int)).toNat = n := by omega
    rw [toN]
    refine lc_range (lo := 0) (n := n) (fun i H' => H' A = some (.lst ((List.replicate i true).map V.bl)) ∧ Same H1 H') ⟨upd_same, Ex.new nA⟩ (fun i H' hi hP => ?_) (fun H' hP => ?_)
    · obtain ⟨h1, h2⟩ := hP
      have e0 : (0 : Int) + (i : Int) = (i : Int) := Int.zero_add _
      show wipe ((wipe σ vs).set j (some (.int ((0 : Int) + (i : Int))))) vs = wipe σ vs ∧ te ((wipe σ vs).set j (some (.int ((0 : Int) + (i : Int))))) H' _
      rw [e0]
      refine ⟨hw _, step i H' _ hi (e1.trans h2) fun H2 e2 => ⟨_, e2 _ _ h1, ?_, ?_, fun a o q => ?_⟩⟩
      · rw [List.length_map, List.length_replicate]
        exact Nat.lt_of_le_of_lt (show i ≤ 40000 by omega) (by decide)
      · rw [upd_same, List.replicate_succ', List.map_append]; rfl
      · rw [upd_ne (ne_of_none q nA)]
        exact e2 _ _ (h2 _ _ q)
    · obtain ⟨h1, h2⟩ := hP
      refine ⟨A, List.replicate n true, rfl, SqL.of h1, ?_⟩
      have e : (List.replicate n true).all id = true := List.all_eq_true.mpr fun x hx => by rw [List.eq_of_mem_replicate hx]; rfl
      rw [e]
      exact k H' (e1.trans h2)
  exact go
/-- a box made here is nobody else's -/
theorem same_box {H H1 H2 : Hp} {b : Addr} (e : Same H H1) (nb : H b = none) (k : Keep [b] H1 H2) : Same H H2 := fun a o q => k.get (by simpa using ne_of_none q nb) (e _ _ q)
end Cg

set_option Elab.async false
set_option linter.all false
set_option maxRecDepth 100000
set_option maxHeartbeats 1000000
namespace Cg
open PySem PySem.Spec PyProof.Rows L2 Evl
/-! ### zip of any number of lists, or of tuples -/
def RIt (kd : Bool) (h : Heap) (it a : Addr) (k : Nat) : Prop := match kd with
  | true => h.IsListIter it a k
  | false => h.IsTupleIter it a k
def RSq (kd : Bool) (h : Heap) (a : Addr) (items : Array Value) : Prop := match kd with
  | true => h.IsList a items
  | false => h.IsTuple a items
section
variable {kd : Bool} {h h' : Heap} {it a : Addr} {k : Nat} {items : Array Value}
theorem RIt.keep (x : RIt kd h it a k) (e : ∀ o, h.get? it = some o → h'.get? it = some o) : RIt kd h' it a k := by
  cases kd with
  | true => exact Heap.IsListIter.at x e
  | false => exact Heap.IsTupleIter.at x e
theorem RSq.keep (x : RSq kd h a items) (e : ∀ o, h.get? a = some o → h'.get? a = some o) : RSq kd h' a items := by
  cases kd with
  | true =>
    obtain ⟨o, ho, r⟩ := x
    exact ⟨o, e _ ho, r⟩
  | false =>
    obtain ⟨o, ho, r⟩ := x
    exact ⟨o, e _ ho, r⟩
theorem RIt.obj (x : RIt kd h it a k) : ∃ o, h.get? it = some o ∧ ∀ v, o.data ≠ .cell v := by
  cases kd with
  | true =>
    obtain ⟨o, e, _, d⟩ := x
    exact ⟨o, e, fun v z => by rw [d] at z; cases z⟩
  | false =>
    obtain ⟨o, e, _, d⟩ := x
    exact ⟨o, e, fun v z => by rw [d] at z; cases z⟩
end
section
variable {prog : Program} {w : World} {A : Around} {E : Value → Shared → Prop} {s : Shared} {kd : Bool}
theorem next_item {it l : Addr} {i : Nat} {items : Array Value} {x : Value} {Q : Value → Shared → Prop} (hit : RIt kd s.heap it l i) (hl : RSq kd s.heap l items) (hx : items[i]? = some x)
    (hQ : ∀ h', RIt kd h' it l (i + 1) → Heap.SameBut it s.heap h' → Q x { s with heap := h' }) : wpAny (model prog w) A (Builtin.SmallTypes.nextOf (.ref it)) Q E s := by
  cases kd with
  | true => exact wpAny_nextOf_list_item hit hl hx hQ
  | false => exact RZ.nextOf_tuple_item hit hl hx hQ
theorem next_end {it l : Addr} {i : Nat} {items : Array Value} {Q : Value → Shared → Prop} (hh : A.handled = none) (hit : RIt kd s.heap it l i) (hl : RSq kd s.heap l items) (hx : items[i]? = none)
    (hE : ∀ h' e, Heap.ExtBut it s.heap h' → (∃ o, h'.get? e = some o ∧ o.cls = .type "StopIteration") → E (.ref e) { s with heap := h' }) : wpAny (model prog w) A (Builtin.SmallTypes.nextOf (.ref it)) Q E s := by
  cases kd with
  | true => exact wpAny_nextOf_list_end hh hit hl hx hE
  | false => exact RZ.nextOf_tuple_end hh hit hl hx hE
abbrev zObj (f0 : Value) (f1 : Bool) (TI TO : Addr) : Obj := { cls := .type "zip", dict := none, data := .fields #[f0, .bool f1, .bool false, .ref TI, .ref TO], slots := #[] }
abbrev tObj (vs : Array Value) : Obj := { cls := .type "tuple", data := .seq vs }
def ZF (f0 : Value) : Prop := f0 = .none ∨ ∃ T : Nat, f0 = rawInt T
theorem owned_free {z TI TO : Addr} {f0 : Value} {f1 : Bool} {Q : Bool → Shared → Prop} (hz : s.heap.get? z = some (zObj f0 f1 TI TO)) (hf : ZF f0)
    (h : ∀ (b : Bool) (h' : Heap) (f1' : Bool), h'.get? z = some (zObj f0 f1' TI TO) → Heap.SameBut z s.heap h' → Q b { s with heap := h' }) : wpAny (model prog w) A (Builtin.SmallTypes.ownedTupleIsFree (.ref z)) Q E s := by
  unfold Builtin.SmallTypes.ownedTupleIsFree
  rcases hf with rfl | ⟨T, rfl⟩
  · exact wpAny_bind (wpAny_field hz rfl (x := .none) rfl (wpAny_pure (h true s.heap f1 hz (Heap.SameBut.refl _ _))))
  · refine wpAny_bind (wpAny_field hz rfl (x := rawInt T) rfl ?_)
    show wpAny _ _ (loadIfAlive ((T : Int).toNat) >>= _) _ _ _
    rw [Int.toNat_natCast]
    cases ho : s.heap.get? T with
    | some o =>
      refine wpAny_bind (PySem.W.kdx_alive ho ?_)
      simp only [Option.isNone_some, Bool.false_eq_true, if_false]
      refine wpAny_bind (wpAny_field hz rfl (x := .bool f1) rfl ?_)
      cases f1 with
      | true =>
        rw [if_neg (show ¬ ((Value.bool true != Value.bool true) = true) from Bool.false_ne_true)]
        exact wpAny_pure (h false s.heap true hz (Heap.SameBut.refl _ _))
      | false =>
        rw [if_pos (show (Value.bool false != Value.bool true) = true from rfl)]
        exact wpAny_bind (wpAny_setField_rec hz (by simp) fun h1 hz1 hs1 => wpAny_pure (h false h1 true hz1 hs1))
    | none =>
      have dead : ∀ {Q : Option Obj → Shared → Prop}, Q none s → wpAny (model prog w) A (loadIfAlive T) Q E s := fun hq _ _ _ => by
        have hq' := hq
        rw [← ho] at hq'
        exact hq'
      refine wpAny_bind (dead ?_)
      simp only [Option.isNone_none, if_true]
      exact wpAny_pure (h true s.heap f1 hz (Heap.SameBut.refl _ _))
theorem upd_seq {T : Addr} {ws : Array Value} {k : Nat} {x : Value} {Q : Unit → Shared → Prop} (hT : s.heap.get? T = some (tObj ws)) (hz : ws.size ≤ 1000)
    (h : ∀ h', h'.get? T = some (tObj (ws.setIfInBounds k x)) → Heap.SameBut T s.heap h' → Q () { s with heap := h' }) : wpAny (model prog w) A (updateSeq T (·.setIfInBounds k x)) Q E s := by
  refine wpAny_updateSeq hT rfl (h _ ?_ (Heap.SameBut.update ..)) (hz := Nat.le_trans hz (by decide)) (_hz' := by rw [Array.size_setIfInBounds]; exact Nat.le_trans hz (by decide))
  rw [Heap.get?_update_self _ hT rfl]
  simp [Obj.mapSeq]
/-- the iterators, what they walk, what they give next -/
abbrev Src := Addr × Addr × Value
def Gives (kd : Bool) (h : Heap) (i : Nat) (t : Src) : Prop := RIt kd h t.1 t.2.1 i ∧ ∃ items, RSq kd h t.2.1 items ∧ items[i]? = some t.2.2
structure ZApart (z TI TO : Addr) (L : List Src) : Prop where
  nd : (z :: TI :: TO :: L.map (·.1)).Nodup
  src : ∀ t ∈ L, t.2.1 ≠ z ∧ t.2.1 ≠ TO ∧ t.2.1 ∉ L.map (·.1)
theorem zipN_item {z TI TO : Addr} {L : List Src} {i : Nat} {f0 : Value} {f1 : Bool} {vs : Array Value} {Q : Value → Shared → Prop} (D : ZApart z TI TO L) (hz : s.heap.get? z = some (zObj f0 f1 TI TO)) (hf : ZF f0)
    (hTI : s.heap.get? TI = some (tObj (L.map fun t => Value.ref t.1).toArray)) (hTO : s.heap.get? TO = some (tObj vs)) (hv : vs.size = L.length) (hne : L ≠ []) (hlen : L.length ≤ 1000) (hg : ∀ t ∈ L, Gives kd s.heap i t)
    (hQ : ∀ h' f0' f1' vs', h'.get? z = some (zObj f0' f1' TI TO) → ZF f0' → h'.get? TI = some (tObj (L.map fun t => Value.ref t.1).toArray) → h'.get? TO = some (tObj vs') → vs'.size = L.length →
      (∀ t ∈ L, RIt kd h' t.1 t.2.1 (i + 1)) → h'.get? s.heap.objs.size = some (tObj (L.map (·.2.2)).toArray) → (∀ c o, c ≠ z → c ≠ TO → c ∉ L.map (·.1) → s.heap.get? c = some o → h'.get? c = some o) → Q (.ref s.heap.objs.size) { s with heap := h' }) :
    wpAny (model prog w) A (Builtin.«zip.__next__» ⟨[.ref z], []⟩) (fun fin s' => ∃ v, fin = .done (.ret v) ∧ Q v s') E s := by
  show wpAny _ _ (field (.ref z) 2 >>= _) _ _ _
  refine wpAny_bind (wpAny_field hz rfl (x := .bool false) rfl ?_)
  show wpAny _ _ (field (.ref z) 3 >>= _) _ _ _
  refine wpAny_bind (wpAny_field hz rfl (x := .ref TI) rfl ?_)
  refine wpAny_bind (wpAny_seqItems hTI rfl ?_)
  have he : (L.map fun t => Value.ref t.1).toArray.isEmpty = false := by
    cases L with
    | nil => exact absurd rfl hne
    | cons x r => rfl
  simp only [he, Bool.false_eq_true, if_false]
  refine wpAny_bind (owned_free hz hf fun b h1 f1' hz1 hs1 => ?_)
  have nd := D.nd
  rw [List.nodup_cons, List.nodup_cons, List.nodup_cons] at nd
  obtain ⟨nz, nTI, nTO, nL⟩ := nd
  have hTIz : TI ≠ z := fun e => nz (by rw [e]; exact List.mem_cons_self ..)
  have hTOz : TO ≠ z := fun e => nz (by rw [e]; exact List.mem_cons_of_mem _ (List.mem_cons_self ..))
  have hTITO : TI ≠ TO := fun e => nTI (by rw [e]; exact List.mem_cons_self ..)
  have hzL : z ∉ L.map (·.1) := fun e => nz (List.mem_cons_of_mem _ (List.mem_cons_of_mem _ e))
  have hTIL : TI ∉ L.map (·.1) := fun e => nTI (List.mem_cons_of_mem _ e)
  have itz : ∀ {t : Src}, t ∈ L → t.1 ≠ z := fun ht e => hzL (by rw [← e]; exact List.mem_map_of_mem ht)
  have itTO : ∀ {t : Src}, t ∈ L → t.1 ≠ TO := fun ht e => nTO (by rw [← e]; exact List.mem_map_of_mem ht)
  have apart : ∀ {dn td : List Src} {t : Src}, L = dn ++ t :: td → t.1 ∉ dn.map (·.1) := fun {dn td t} e hm => by
    rw [e, List.map_append, List.nodup_append] at nL
    exact nL.2.2 _ hm _ (by rw [List.map_cons]; exact List.mem_cons_self ..) rfl
  have sub : ∀ {dn td : List Src} {c : Addr}, L = dn ++ td → c ∉ L.map (·.1) → c ∉ dn.map (·.1) := fun e hc hm => hc (by rw [e, List.map_append]; exact List.mem_append_left _ hm)
  have k1 : ∀ c o, c ≠ z → s.heap.get? c = some o → h1.get? c = some o := fun c o hc e => hs1.extBut _ _ hc e
  cases b with
  | false =>
    simp only [Bool.false_eq_true, if_false]
    refine wpAny_bind ?_
    rw [← Array.forIn_toList]
    refine wpAny_forIn_list _ (fun rest b s' => ∃ (dn td : List Src) (h2 : Heap), L = dn ++ td ∧ rest = td.map (fun t => Value.ref t.1) ∧ b = (none, (dn.map (·.2.2)).toArray) ∧ s' = { s with heap := h2 } ∧ h2.objs.size = s.heap.objs.size ∧ (∀ t ∈ dn, RIt kd h2 t.1 t.2.1 (i + 1)) ∧ ∀ c o, c ∉ dn.map (·.1) → h1.get? c = some o → h2.get? c = some o) _ ?_ ?_ _ _
      ⟨[], L, h1, rfl, by simp, rfl, rfl, hs1.1, (fun _ z => nomatch z), fun _ _ _ e => e⟩
    · rintro x rest b s' ⟨dn, td, h2, eL, er, rfl, rfl, sz, hd, kp⟩
      cases td with
      | nil => cases er
      | cons t td =>
        rw [List.map_cons, List.cons.injEq] at er
        obtain ⟨rfl, rfl⟩ := er
        have ht : t ∈ L := by rw [eL]; exact List.mem_append_right _ (List.mem_cons_self ..)
        obtain ⟨g1, items, g2, g3⟩ := hg t ht
        obtain ⟨s1, s2, s3⟩ := D.src t ht
        have a1 := apart eL
        refine wpAny_bind (wpAny_holding ?_)
        show wpAny _ _ (Builtin.SmallTypes.nextOf (.ref t.1) >>= _) _ _ _
        refine wpAny_bind (next_item (s := { s with heap := h2 }) (g1.keep fun o e => kp _ _ a1 (k1 _ _ (itz ht) e)) (g2.keep fun o e => kp _ _ (sub eL s3) (k1 _ _ s1 e)) g3 fun h3 r3 sb3 => wpAny_pure ?_)
        refine wpAny_pure ⟨dn ++ [t], td, h3, by rw [eL, List.append_assoc]; rfl, rfl, by simp, rfl, sb3.1.trans sz, fun y hy => ?_, fun c o hc e => ?_⟩
        · rcases List.mem_append.mp hy with hy | hy
          · exact (hd y hy).keep fun o e => sb3.extBut _ _ (fun z => a1 (by rw [← z]; exact List.mem_map_of_mem hy)) e
          · rw [List.mem_singleton.mp hy]; exact r3
        · rw [List.map_append, List.mem_append] at hc
          exact sb3.extBut _ _ (fun z => hc (.inr (by rw [z]; exact List.mem_singleton.mpr rfl))) (kp c o (fun z => hc (.inl z)) e)
    · rintro b s' ⟨dn, td, h2, eL, er, rfl, rfl, sz, hd, kp⟩
      obtain rfl : td = [] := by
        cases td with
        | nil => rfl
        | cons _ _ => cases er
      rw [List.append_nil] at eL
      subst eL
      show wpAny _ _ (newTuple (L.map (·.2.2)) >>= _) _ _ _
      refine wpAny_bind (wpAny_newTuple ?_ (by rw [List.length_map]; exact Nat.le_trans hlen (by decide)))
      refine wpAny_pure ⟨_, rfl, ?_⟩
      show Q (.ref h2.objs.size) _
      have up : ∀ c o, c ∉ L.map (·.1) → h1.get? c = some o → (h2.push (tObj (L.map (·.2.2)).toArray)).get? c = some o := fun c o hc e => Heap.get?_push_of_some _ (kp c o hc e)
      have hT : (h2.push (tObj (L.map (·.2.2)).toArray)).get? h2.objs.size = some (tObj (L.map (·.2.2)).toArray) := Heap.get?_push_size _ rfl
      rw [sz] at hT ⊢
      exact hQ _ f0 f1' vs (up _ _ hzL hz1) hf (up _ _ hTIL (k1 _ _ hTIz hTI)) (up _ _ nTO (k1 _ _ hTOz hTO)) hv (fun t ht => (hd t ht).keep fun o e => Heap.get?_push_of_some _ e) hT fun c o c1 c2 c3 e => up c o c3 (k1 c o c1 e)
  | true =>
    simp only [if_true]
    refine wpAny_bind (wpAny_rule ?_)
    refine wpAny_bind (wpAny_field (s := { s with heap := h1 }) hz1 rfl (x := .ref TO) rfl ?_)
    refine wpAny_bind (wpAny_setField_rec (s := { s with heap := h1 }) hz1 (by simp) fun h1b hz1b hs1b => ?_)
    replace hz1b : h1b.get? z = some (zObj .ellipsis f1' TI TO) := hz1b
    have k2 : ∀ c o, c ≠ z → s.heap.get? c = some o → h1b.get? c = some o := fun c o hc e => hs1b.extBut _ _ hc (k1 c o hc e)
    refine wpAny_bind ?_
    refine wpAny_forIn_list _ (fun rest b s' => ∃ (dn td : List Src) (h2 : Heap) (ws : Array Value), L = dn ++ td ∧ rest = (td.map (fun t => Value.ref t.1)).zipIdx dn.length ∧ b = (none, ()) ∧ s' = { s with heap := h2 } ∧ h2.objs.size = s.heap.objs.size ∧ (∀ t ∈ dn, RIt kd h2 t.1 t.2.1 (i + 1)) ∧
        h2.get? TO = some (tObj ws) ∧ ws.toList = dn.map (·.2.2) ++ vs.toList.drop dn.length ∧ ∀ c o, c ≠ TO → c ∉ dn.map (·.1) → h1b.get? c = some o → h2.get? c = some o) _ ?_ ?_ _ _
      ⟨[], L, h1b, vs, rfl, rfl, rfl, rfl, hs1b.1.trans hs1.1, (fun _ z => nomatch z), k2 _ _ hTOz hTO, rfl, fun _ _ _ _ e => e⟩
    · rintro ⟨x, j⟩ rest b s' ⟨dn, td, h2, ws, eL, er, rfl, rfl, sz, hd, hw, ew, kp⟩
      cases td with
      | nil => cases er
      | cons t td =>
        rw [List.map_cons, List.zipIdx_cons, List.cons.injEq, Prod.mk.injEq] at er
        obtain ⟨⟨rfl, rfl⟩, rfl⟩ := er
        have ht : t ∈ L := by rw [eL]; exact List.mem_append_right _ (List.mem_cons_self ..)
        obtain ⟨g1, items, g2, g3⟩ := hg t ht
        obtain ⟨s1, s2, s3⟩ := D.src t ht
        have a1 := apart eL
        refine wpAny_bind (wpAny_onRaise ?_)
        show wpAny _ _ (Builtin.SmallTypes.nextOf (.ref t.1) >>= _) _ _ _
        refine wpAny_bind (next_item (s := { s with heap := h2 }) (g1.keep fun o e => kp _ _ (itTO ht) a1 (k2 _ _ (itz ht) e)) (g2.keep fun o e => kp _ _ s2 (sub eL s3) (k2 _ _ s1 e)) g3 fun h3 r3 sb3 => wpAny_pure ?_)
        have hw3 : h3.get? TO = some (tObj ws) := sb3.extBut _ _ (itTO ht).symm hw
        refine wpAny_bind (wpAny_seqItems (s := { s with heap := h3 }) hw3 rfl ?_)
        have wsz : ws.size = L.length := by
          have hvl : vs.toList.length = L.length := by rw [Array.length_toList, hv]
          rw [← Array.length_toList, ew, List.length_append, List.length_map, List.length_drop, hvl]
          have e2 := congrArg List.length eL
          rw [List.length_append, List.length_cons] at e2
          omega
        refine wpAny_bind (upd_seq (s := { s with heap := h3 }) hw3 (by rw [wsz]; exact hlen) fun h4 hw4 up => ?_)
        refine wpAny_bind (wpAny_letGo (wpAny_pure ?_))
        refine ⟨dn ++ [t], td, h4, ws.setIfInBounds dn.length t.2.2, by rw [eL, List.append_assoc]; rfl, by rw [List.length_append]; rfl, rfl, rfl, up.1.trans (sb3.1.trans sz), fun y hy => ?_, ?_, ?_, fun c o c1 hc e => ?_⟩
        · have hyL : y ∈ L := by
            rw [eL]
            rcases List.mem_append.mp hy with hy | hy
            · exact List.mem_append_left _ hy
            · rw [List.mem_singleton.mp hy]; exact List.mem_append_right _ (List.mem_cons_self ..)
          refine RIt.keep (h := h3) ?_ fun o e => up.extBut _ _ (itTO hyL) e
          rcases List.mem_append.mp hy with hy | hy
          · exact (hd y hy).keep fun o e => sb3.extBut _ _ (fun z => a1 (by rw [← z]; exact List.mem_map_of_mem hy)) e
          · rw [List.mem_singleton.mp hy]; exact r3
        · exact hw4
        · have hl1 : dn.length < vs.toList.length := by
            have hvl : vs.toList.length = L.length := by rw [Array.length_toList, hv]
            have e2 := congrArg List.length eL
            rw [List.length_append, List.length_cons] at e2
            omega
          rw [Array.toList_setIfInBounds, ew, List.set_append, if_neg (show ¬ dn.length < (dn.map (·.2.2)).length by rw [List.length_map]; omega)]
          rw [List.length_map, Nat.sub_self, List.drop_eq_getElem_cons hl1, List.set_cons_zero, List.map_append, List.length_append, List.append_assoc]
          rfl
        · rw [List.map_append, List.mem_append] at hc
          exact up.extBut _ _ c1 (sb3.extBut _ _ (fun z => hc (.inr (by rw [z]; exact List.mem_singleton.mpr rfl))) (kp c o c1 (fun z => hc (.inl z)) e))
    · rintro b s' ⟨dn, td, h2, ws, eL, er, rfl, rfl, sz, hd, hw, ew, kp⟩
      obtain rfl : td = [] := by
        cases td with
        | nil => rfl
        | cons _ _ => cases er
      rw [List.append_nil] at eL
      subst eL
      have ew' : ws = (L.map (·.2.2)).toArray := by
        have : vs.toList.drop L.length = [] := List.drop_of_length_le (by rw [Array.length_toList, hv]; exact Nat.le_refl _)
        rw [this, List.append_nil] at ew
        rw [← ew, Array.toArray_toList]
      subst ew'
      show wpAny _ _ (seqItems? (.ref TO) >>= _) _ _ _
      refine wpAny_bind (wpAny_seqItems (s := { s with heap := h2 }) hw rfl ?_)
      show wpAny _ _ (newTuple (L.map (·.2.2)).toArray.toList >>= _) _ _ _
      refine wpAny_bind (wpAny_newTuple ?_ (by simp; exact Nat.le_trans hlen (by decide)))
      show wpAny _ _ (Builtin.SmallTypes.ownedTupleHandOut (.ref z) (.ref h2.objs.size) >>= _) _ _ _
      refine wpAny_bind ?_
      unfold Builtin.SmallTypes.ownedTupleHandOut
      have hz2 : h2.get? z = some (zObj .ellipsis f1' TI TO) := kp _ _ hTOz.symm hzL hz1b
      have hz3 : (h2.push (tObj (L.map (·.2.2)).toArray)).get? z = some (zObj .ellipsis f1' TI TO) := Heap.get?_push_of_some _ hz2
      have hzlt : z < h2.objs.size := Heap.lt_size hz2
      refine wpAny_bind (wpAny_setField_rec (s := { s with heap := h2.push (tObj (L.map (·.2.2)).toArray) }) hz3 (by simp) fun h4 hz4 hs4 => ?_)
      replace hz4 : h4.get? z = some (zObj (rawInt h2.objs.size) f1' TI TO) := hz4
      refine wpAny_setField_rec (s := { s with heap := h4 }) hz4 (by simp) fun h5 hz5 hs5 => ?_
      replace hz5 : h5.get? z = some (zObj (rawInt h2.objs.size) false TI TO) := hz5
      have up : ∀ c o, c ≠ z → h2.get? c = some o → h5.get? c = some o := fun c o hc e => hs5.extBut _ _ hc (hs4.extBut _ _ hc (Heap.get?_push_of_some _ e))
      have hT : h5.get? h2.objs.size = some (tObj (L.map (·.2.2)).toArray) := hs5.extBut _ _ (Nat.ne_of_gt hzlt) (hs4.extBut _ _ (Nat.ne_of_gt hzlt) (Heap.get?_push_size _ rfl))
      refine wpAny_pure ⟨_, rfl, ?_⟩
      show Q (.ref h2.objs.size) _
      have hzf : ZF (rawInt h2.objs.size) := .inr ⟨_, rfl⟩
      rw [sz] at hT hz5 hzf ⊢
      exact hQ h5 _ false _ hz5 hzf (up _ _ hTIz (kp _ _ hTITO hTIL (k2 _ _ hTIz hTI))) (up _ _ hTOz hw) (by simp) (fun t ht => (hd t ht).keep fun o e => up _ _ (itz ht) e) hT fun c o c1 c2 c3 e => up c o c1 (kp c o c2 c3 (k2 c o c1 e))
theorem zipN_end {z TI TO it a : Addr} {its : List Addr} {i : Nat} {f0 : Value} {f1 : Bool} {items : Array Value} {Q : Fin → Shared → Prop} (hh : A.handled = none) (hz : s.heap.get? z = some (zObj f0 f1 TI TO)) (hf : ZF f0) (hTIz : TI ≠ z) (hiz : it ≠ z) (haz : a ≠ z)
    (hTI : s.heap.get? TI = some (tObj ((it :: its).map Value.ref).toArray)) (hr : RIt kd s.heap it a i) (hq : RSq kd s.heap a items) (hx : items[i]? = none)
    (hE : ∀ h' e, (∀ c o, c ≠ z → c ≠ it → s.heap.get? c = some o → h'.get? c = some o) → (∃ o, h'.get? e = some o ∧ o.cls = .type "StopIteration") → E (.ref e) { s with heap := h' }) :
    wpAny (model prog w) A (Builtin.«zip.__next__» ⟨[.ref z], []⟩) Q E s := by
  show wpAny _ _ (field (.ref z) 2 >>= _) _ _ _
  refine wpAny_bind (wpAny_field hz rfl (x := .bool false) rfl ?_)
  show wpAny _ _ (field (.ref z) 3 >>= _) _ _ _
  refine wpAny_bind (wpAny_field hz rfl (x := .ref TI) rfl ?_)
  refine wpAny_bind (wpAny_seqItems hTI rfl ?_)
  have he : ((it :: its).map Value.ref).toArray.isEmpty = false := rfl
  simp only [he, Bool.false_eq_true, if_false]
  refine wpAny_bind (owned_free hz hf fun b h1 f1' hz1 hs1 => ?_)
  cases b with
  | false =>
    simp only [Bool.false_eq_true, if_false]
    refine wpAny_bind ?_
    rw [← Array.forIn_toList]
    simp only [List.map_cons, List.forIn_cons]
    refine wpAny_bind (wpAny_bind (wpAny_holding ?_))
    show wpAny _ _ (Builtin.SmallTypes.nextOf (.ref it) >>= _) _ _ _
    refine wpAny_bind (next_end (s := { s with heap := h1 }) hh (hr.keep fun o e => hs1.extBut _ _ hiz e) (hq.keep fun o e => hs1.extBut _ _ haz e) hx fun h2 e hs2 he => ?_)
    exact hE h2 e (fun c o c1 c2 x => hs2 _ _ c2 (hs1.extBut _ _ c1 x)) he
  | true =>
    simp only [if_true]
    refine wpAny_bind (wpAny_rule ?_)
    refine wpAny_bind (wpAny_field (s := { s with heap := h1 }) hz1 rfl (x := .ref TO) rfl ?_)
    refine wpAny_bind (wpAny_setField_rec (s := { s with heap := h1 }) hz1 (by simp) fun h1b hz1b hs1b => ?_)
    replace hz1b : h1b.get? z = some (zObj .ellipsis f1' TI TO) := hz1b
    refine wpAny_bind ?_
    simp only [List.map_cons, List.zipIdx_cons, List.forIn_cons]
    refine wpAny_bind (wpAny_bind (wpAny_onRaise ?_))
    show wpAny _ _ (Builtin.SmallTypes.nextOf (.ref it) >>= _) _ _ _
    refine wpAny_bind (next_end (s := { s with heap := h1b }) hh (hr.keep fun o e => hs1b.extBut _ _ hiz (hs1.extBut _ _ hiz e)) (hq.keep fun o e => hs1b.extBut _ _ haz (hs1.extBut _ _ haz e)) hx fun h2 e hs2 he => ?_)
    obtain ⟨oe, hoe, hce⟩ := he
    have hz2 : h2.get? z = some (zObj .ellipsis f1' TI TO) := hs2 _ _ hiz.symm hz1b
    have hez : e ≠ z := fun x => by subst x; rw [hz2] at hoe; cases hoe; simp at hce
    refine wpAny_setField_rec (s := { s with heap := h2 }) hz2 (by simp) fun h3 _ hs3 => hE h3 e (fun c o c1 c2 x => hs3.extBut _ _ c1 (hs2 _ _ c2 (hs1b.extBut _ _ c1 (hs1.extBut _ _ c1 x)))) ⟨oe, hs3.extBut _ _ hez hoe, hce⟩
theorem zipN_next {z : Addr} {f0 : Value} {f1 : Bool} {TI TO : Addr} {Q : Option Value → Shared → Prop} (hz : s.heap.get? z = some (zObj f0 f1 TI TO))
    (h : wpAny (model prog w) A.in1 (Builtin.«zip.__next__» ⟨[.ref z], []⟩) (fun fin s' => ∃ v, fin = .done (.ret v) ∧ Q (some v) s') (fun e s' => (∃ a o, e = .ref a ∧ s'.heap.get? a = some o ∧ o.cls = .type "StopIteration") ∧ Q none s') s) : wpAny (model prog w) A (pyNext (.ref z)) Q E s := by
  have hT : s.TypeIs (.ref z) "zip" := ⟨_, hz, rfl⟩
  unfold pyNext
  refine wpAny_bind (wpAny_attempt (wpAny_callSpecial?_slot (name := Str.ofString "__next__") hT F.slot_zip_next (wpAny_call_entry F.slot_zip_next hT F.entry_zip_next (wpAny_mono h ?_ ?_) (F.args_zip_next_1 _))))
  · rintro fin s' ⟨v, rfl, q⟩
    exact ⟨v, rfl, wpAny_pure q⟩
  · rintro e s' ⟨⟨a, o, rfl, ho, hc⟩, q⟩
    exact wpAny_bind (wpAny_isInstance (T := "StopIteration") (b := true) ⟨o, ho, hc⟩ isSubtype_stop (wpAny_pure q))
theorem typeCall_zipN : ∀ {vs : List Value}, vs.length ≤ 12 → checkTypeCall "zip" ⟨vs, []⟩ = pure ()
  | [], _ => by kernel_rfl
  | [_], _ => by kernel_rfl
  | [_, _], _ => by kernel_rfl
  | [_, _, _], _ => by kernel_rfl
  | [_, _, _, _], _ => by kernel_rfl
  | [_, _, _, _, _], _ => by kernel_rfl
  | [_, _, _, _, _, _], _ => by kernel_rfl
  | [_, _, _, _, _, _, _], _ => by kernel_rfl
  | [_, _, _, _, _, _, _, _], _ => by kernel_rfl
  | [_, _, _, _, _, _, _, _, _], _ => by kernel_rfl
  | [_, _, _, _, _, _, _, _, _, _], _ => by kernel_rfl
  | [_, _, _, _, _, _, _, _, _, _, _], _ => by kernel_rfl
  | [_, _, _, _, _, _, _, _, _, _, _, _], _ => by kernel_rfl
  | _ :: _ :: _ :: _ :: _ :: _ :: _ :: _ :: _ :: _ :: _ :: _ :: _ :: r, h => by simp at h
theorem newCall_zipN : ∀ {vs : List Value}, vs.length ≤ 12 → checkBuiltinCall "zip.__new__" ⟨.type "zip" :: vs, []⟩ = pure ()
  | [], _ => by kernel_rfl
  | [_], _ => by kernel_rfl
  | [_, _], _ => by kernel_rfl
  | [_, _, _], _ => by kernel_rfl
  | [_, _, _, _], _ => by kernel_rfl
  | [_, _, _, _, _], _ => by kernel_rfl
  | [_, _, _, _, _, _], _ => by kernel_rfl
  | [_, _, _, _, _, _, _], _ => by kernel_rfl
  | [_, _, _, _, _, _, _, _], _ => by kernel_rfl
  | [_, _, _, _, _, _, _, _, _], _ => by kernel_rfl
  | [_, _, _, _, _, _, _, _, _, _], _ => by kernel_rfl
  | [_, _, _, _, _, _, _, _, _, _, _], _ => by kernel_rfl
  | [_, _, _, _, _, _, _, _, _, _, _, _], _ => by kernel_rfl
  | _ :: _ :: _ :: _ :: _ :: _ :: _ :: _ :: _ :: _ :: _ :: _ :: _ :: r, h => by simp at h
theorem args_init_zipN (obj : Value) : ∀ {vs : List Value}, vs.length ≤ 12 → argsOk "object.__init__" ⟨obj :: vs, []⟩
  | vs, h => by
    unfold argsOk
    rw [signature?_of (id := "object.__init__") (n := ['_', '_', 't', 'i', 'n', 'i', '_', '_']) (o := ['t', 'c', 'e', 'j', 'b', 'o']) (by kernel_rfl) F.owner_object]
    match vs, h with
    | [], _ => kernel_rfl
    | [_], _ => kernel_rfl
    | [_, _], _ => kernel_rfl
    | [_, _, _], _ => kernel_rfl
    | [_, _, _, _], _ => kernel_rfl
    | [_, _, _, _, _], _ => kernel_rfl
    | [_, _, _, _, _, _], _ => kernel_rfl
    | [_, _, _, _, _, _, _], _ => kernel_rfl
    | [_, _, _, _, _, _, _, _], _ => kernel_rfl
    | [_, _, _, _, _, _, _, _, _], _ => kernel_rfl
    | [_, _, _, _, _, _, _, _, _, _], _ => kernel_rfl
    | [_, _, _, _, _, _, _, _, _, _, _], _ => kernel_rfl
    | [_, _, _, _, _, _, _, _, _, _, _, _], _ => kernel_rfl
    | _ :: _ :: _ :: _ :: _ :: _ :: _ :: _ :: _ :: _ :: _ :: _ :: _ :: r, h => simp at h
/-- the iterators' records -/
def itObj (kd : Bool) (a : Addr) : Obj := match kd with
  | true => { cls := .type "list_iterator", data := .fields #[.ref a, .int 0 0] }
  | false => { cls := .type "tuple_iterator", data := .fields #[.ref a, .int 0 0] }
theorem iter_row {a : Addr} {items : Array Value} {Q : Value → Shared → Prop} (h : RSq kd s.heap a items) (hQ : Q (.ref s.heap.objs.size) { s with heap := s.heap.push (itObj kd a) }) : wpAny (model prog w) A (pyIter (.ref a)) Q E s := by
  cases kd with
  | true => exact wpAny_pyIter_list h hQ
  | false => exact wpAny_pyIter_tuple h hQ
theorem rit_new {a : Addr} {h : Heap} : RIt kd (h.push (itObj kd a)) h.objs.size a 0 := by
  cases kd with
  | true => exact ⟨_, Heap.get?_push_size _ rfl, rfl, rfl⟩
  | false => exact ⟨_, Heap.get?_push_size _ rfl, rfl, rfl⟩
theorem iter_all {as : List Addr} {Q : List Value → Shared → Prop} (hs : ∀ a ∈ as, ∃ items, RSq kd s.heap a items)
    (hQ : ∀ (ps : List (Addr × Addr)) (h' : Heap), ps.map (·.2) = as → (ps.map (·.1)).Nodup → (∀ p ∈ ps, s.heap.objs.size ≤ p.1 ∧ p.1 < h'.objs.size) → (∀ p ∈ ps, RIt kd h' p.1 p.2 0) → s.heap.objs.size ≤ h'.objs.size → (∀ c o, s.heap.get? c = some o → h'.get? c = some o) → Q (ps.map fun p => Value.ref p.1) { s with heap := h' }) :
    wpAny (model prog w) A (Builtin.SmallTypes.iterAll (as.map Value.ref)) Q E s := by
  unfold Builtin.SmallTypes.iterAll
  refine wpAny_bind ?_
  refine wpAny_forIn_list _ (fun rest b s' => ∃ (ps : List (Addr × Addr)) (td : List Addr) (h2 : Heap), as = ps.map (·.2) ++ td ∧ rest = td.map Value.ref ∧ b = (ps.map fun p => Value.ref p.1).toArray ∧ s' = { s with heap := h2 } ∧ (ps.map (·.1)).Nodup ∧ (∀ p ∈ ps, s.heap.objs.size ≤ p.1 ∧ p.1 < h2.objs.size) ∧ (∀ p ∈ ps, RIt kd h2 p.1 p.2 0) ∧
      s.heap.objs.size ≤ h2.objs.size ∧ ∀ c o, s.heap.get? c = some o → h2.get? c = some o) _ ?_ ?_ _ _ ⟨[], as, s.heap, rfl, rfl, rfl, rfl, List.nodup_nil, (fun _ z => nomatch z), (fun _ z => nomatch z), Nat.le_refl _, fun _ _ e => e⟩
  · rintro x rest b s' ⟨ps, td, h2, ea, er, rfl, rfl, nd, lo, ri, sz, kp⟩
    cases td with
    | nil => cases er
    | cons a td =>
      rw [List.map_cons, List.cons.injEq] at er
      obtain ⟨rfl, rfl⟩ := er
      obtain ⟨items, hq⟩ := hs a (by rw [ea]; exact List.mem_append_right _ (List.mem_cons_self ..))
      refine wpAny_bind (wpAny_holding (iter_row (s := { s with heap := h2 }) (hq.keep fun o e => kp _ _ e) ?_))
      refine wpAny_pure ⟨ps ++ [(h2.objs.size, a)], td, h2.push (itObj kd a), by rw [ea, List.map_append, List.append_assoc]; rfl, rfl, by simp, rfl, ?_, fun p hp => ?_, fun p hp => ?_, by rw [Heap.size_push]; omega, fun c o e => Heap.get?_push_of_some _ (kp c o e)⟩
      · rw [List.map_append, List.nodup_append]
        refine ⟨nd, List.nodup_cons.mpr ⟨(fun z => nomatch z), List.nodup_nil⟩, fun x hx y hy => ?_⟩
        obtain ⟨p, hp, rfl⟩ := List.mem_map.mp hx
        have e : y = h2.objs.size := by simpa using hy
        rw [e]
        exact Nat.ne_of_lt (lo p hp).2
      · rw [Heap.size_push]
        rcases List.mem_append.mp hp with hp | hp
        · exact ⟨(lo p hp).1, Nat.lt_succ_of_lt (lo p hp).2⟩
        · rw [List.mem_singleton.mp hp]
          exact ⟨sz, by show h2.objs.size < _; omega⟩
      · rcases List.mem_append.mp hp with hp | hp
        · exact (ri p hp).keep fun o e => Heap.get?_push_of_some _ e
        · rw [List.mem_singleton.mp hp]
          exact rit_new
  · rintro b s' ⟨ps, td, h2, ea, er, rfl, rfl, nd, lo, ri, sz, kp⟩
    obtain rfl : td = [] := by
      cases td with
      | nil => rfl
      | cons _ _ => cases er
    rw [List.append_nil] at ea
    exact wpAny_pure (hQ ps h2 ea.symm nd lo ri sz kp)
/-- what zip(..) has made -/
def ZMade (kd : Bool) (h h' : Heap) (as : List Addr) (z : Addr) : Prop := ∃ (ps : List (Addr × Addr)) (TI TO : Addr) (vs : Array Value), ps.map (·.2) = as ∧ (z :: TI :: TO :: ps.map (·.1)).Nodup ∧ h.objs.size ≤ z ∧ h.objs.size ≤ TI ∧ h.objs.size ≤ TO ∧ (∀ p ∈ ps, h.objs.size ≤ p.1) ∧
  h'.get? z = some (zObj .none false TI TO) ∧ h'.get? TI = some (tObj (ps.map fun p => Value.ref p.1).toArray) ∧ h'.get? TO = some (tObj vs) ∧ vs.size = ps.length ∧ (∀ p ∈ ps, RIt kd h' p.1 p.2 0)
theorem zipN_new (as : List Addr) : Meets (Builtin.«zip.__new__» ⟨.type "zip" :: as.map Value.ref, []⟩) (fun _ R s => (∀ a ∈ as, ∃ items, RSq kd s.heap a items) ∧ as.length ≤ 1000 ∧
      ∀ h' z, ZMade kd s.heap h' as z → (∀ c o, s.heap.get? c = some o → h'.get? c = some o) → R (.ok (.ret (.ref z))) { s with heap := h' }) :=
  .of_wp fun prog w A R s h => by
    obtain ⟨hs, hl, h⟩ := h
    have hsub := sub_zip
    unfold Builtin.«zip.__new__»
    repeat ((fail_if_success (with_reducible show wpAny _ _ (Builtin.SmallTypes.iterAll _) _ _ _)); (any_goals (first | assumption | wp_step)))
    refine iter_all hs fun ps h1 e1 nd lo ri hsz kp => ?_
    have pl : ps.length ≤ 1000 := by
      rw [← e1, List.length_map] at hl
      exact hl
    refine wpAny_bind (wpAny_newTuple ?_ (by rw [List.length_map]; exact Nat.le_trans pl (by decide)))
    refine wpAny_bind (wpAny_newTuple ?_ (by rw [List.length_map, List.length_map]; exact Nat.le_trans pl (by decide)))
    refine wpAny_bind ?_
    unfold Builtin.SmallTypes.newRecord
    refine wpAny_newObj_type ?_ (by first | exact True.intro | (show (5 : Nat) ≤ sizeLine; decide) | (simp [sizeOk, Builtin.SmallTypes.ownedTupleFields]; decide))
    refine wpAny_pure ⟨_, rfl, ?_⟩
    let t1 : Obj := tObj (ps.map fun p => Value.ref p.1).toArray
    let t2 : Obj := tObj ((ps.map fun p => Value.ref p.1).map fun _ => Value.none).toArray
    have s1 : (h1.push t1).objs.size = h1.objs.size + 1 := Heap.size_push ..
    have s2 : ((h1.push t1).push t2).objs.size = h1.objs.size + 2 := by rw [Heap.size_push, s1]
    refine h _ _ ⟨ps, h1.objs.size, (h1.push t1).objs.size, ((ps.map fun p => Value.ref p.1).map fun _ => Value.none).toArray, e1, ?_, ?_, hsz, ?_, fun p hp => (lo p hp).1, ?_, ?_, ?_, ?_, fun p hp => ?_⟩ fun c o e => Heap.get?_push_of_some _ (Heap.get?_push_of_some _ (Heap.get?_push_of_some _ (kp c o e)))
    · show (((h1.push t1).push t2).objs.size :: h1.objs.size :: (h1.push t1).objs.size :: ps.map (·.1)).Nodup
      have hp : ∀ x ∈ ps.map (·.1), x < h1.objs.size := fun x hx => by
        obtain ⟨p, hp, rfl⟩ := List.mem_map.mp hx
        exact (lo p hp).2
      rw [s1, s2, List.nodup_cons, List.nodup_cons, List.nodup_cons]
      refine ⟨fun hm => ?_, fun hm => ?_, fun hm => ?_, nd⟩
      · rcases List.mem_cons.mp hm with hm | hm
        · omega
        · rcases List.mem_cons.mp hm with hm | hm
          · omega
          · have := hp _ hm
            omega
      · rcases List.mem_cons.mp hm with hm | hm
        · omega
        · have := hp _ hm
          omega
      · have := hp _ hm
        omega
    · show s.heap.objs.size ≤ ((h1.push t1).push t2).objs.size
      rw [s2]; omega
    · rw [s1]; omega
    · exact Heap.get?_push_size _ rfl
    · exact Heap.get?_push_of_some _ (Heap.get?_push_of_some _ (Heap.get?_push_size _ rfl))
    · exact Heap.get?_push_of_some _ (Heap.get?_push_size _ rfl)
    · simp
    · exact (ri p hp).keep fun o e => Heap.get?_push_of_some _ (Heap.get?_push_of_some _ (Heap.get?_push_of_some _ e))
theorem call_zipN {as : List Addr} {Q : Value → Shared → Prop} (hs : ∀ a ∈ as, ∃ items, RSq kd s.heap a items) (hl : as.length ≤ 12)
    (h : ∀ h' z, ZMade kd s.heap h' as z → (∀ c o, s.heap.get? c = some o → h'.get? c = some o) → Q (.ref z) { s with heap := h' }) : wpAny (model prog w) A (call (.type "zip") (as.map Value.ref)) Q E s := by
  have hl' : (as.map Value.ref).length ≤ 12 := by rw [List.length_map]; exact hl
  refine callType_new F.called_zip (by decide) (typeCall_zipN hl') (newCall_zipN hl') (fun obj => args_init_zipN obj hl') F.entry_zip_new (zipN_new (kd := kd) as) ⟨hs, by omega, fun h' z hz hk => ?_⟩
  obtain ⟨ps, TI, TO, vs, h1, h2, h3, h4, h5, h6, g, r⟩ := id hz
  exact ⟨⟨_, g, rfl⟩, h h' z hz hk⟩
end
/-! ### for column in zip(*rows), as a comprehension walks it -/
def SqK (kd : Bool) (K : PySem.W.Frag) (H : Hp) (a : Addr) (xs : List V) : Prop := match kd with
  | true => SqL K H a xs
  | false => SqT K H a xs
theorem SqK.get {X : Cx} {pins : List (Addr × Obj)} {σ : L2.St} {H : Hp} {s : Shared} {kd : Bool} {a : Addr} {xs : List V} (I : Inv X pins σ H s) (h : SqK kd X.K H a xs) : ∃ its : List Value, Vals xs its ∧ RSq kd s.heap a its.toArray := by
  cases kd with
  | true =>
    obtain ⟨its, r, p, _⟩ := I.list h
    exact ⟨its, r, p.isList⟩
  | false =>
    obtain ⟨its, r, p, _⟩ := I.tuple h
    exact ⟨its, r, p⟩
def ItZ (K : PySem.W.Frag) (kd : Bool) (rs : List (Addr × List V)) : It :=
  ⟨fun i H => ∀ r ∈ rs, SqK kd K H r.1 r.2 ∧ i < r.2.length, fun i H v H' => ∃ T, v = .ref T ∧ H T = none ∧ H' = upd H T (.tup (rs.map fun r => r.2.getD i .non)), fun i H => ∀ r ∈ rs, SqK kd K H r.1 r.2 ∧ r.2.length ≤ i⟩
theorem RSq.lt {kd : Bool} {h : Heap} {a : Addr} {items : Array Value} (x : RSq kd h a items) : a < h.objs.size := by
  cases kd with
  | true =>
    obtain ⟨o, ho, _⟩ := x
    exact Heap.lt_size ho
  | false =>
    obtain ⟨o, ho, _⟩ := x
    exact Heap.lt_size ho
/-- what the rows give at a turn -/
theorem rows_give {X : Cx} {pins : List (Addr × Obj)} {σ : L2.St} {H : Hp} {s : Shared} {kd : Bool} {i : Nat} (I : Inv X pins σ H s) : ∀ {ps : List (Addr × Addr)} {rs : List (Addr × List V)}, ps.map (·.2) = rs.map (·.1) → (∀ p ∈ ps, RIt kd s.heap p.1 p.2 i) → (∀ r ∈ rs, SqK kd X.K H r.1 r.2 ∧ i < r.2.length) →
    ∃ L : List Src, L.map (fun t => (t.1, t.2.1)) = ps ∧ Vals (rs.map fun r => r.2.getD i .non) (L.map (·.2.2)) ∧ ∀ t ∈ L, Gives kd s.heap i t
  | [], [], _, _, _ => ⟨[], rfl, .nil, fun _ z => nomatch z⟩
  | p :: ps, r :: rs, e, h1, h2 => by
    rw [List.map_cons, List.map_cons, List.cons.injEq] at e
    obtain ⟨L, l1, l2, l3⟩ := rows_give I e.2 (fun q hq => h1 q (List.mem_cons_of_mem _ hq)) fun q hq => h2 q (List.mem_cons_of_mem _ hq)
    obtain ⟨sq, hi⟩ := h2 r (List.mem_cons_self ..)
    obtain ⟨its, rv, rs1⟩ := SqK.get I sq
    obtain ⟨u, hu, ru⟩ := rv.get (List.getElem?_eq_getElem hi)
    refine ⟨(p.1, p.2, u) :: L, by rw [List.map_cons, l1], ?_, fun t ht => ?_⟩
    · refine .cons ?_ l2
      show L2.RelV (r.2.getD i .non) u
      rw [List.getD_eq_getElem?_getD, List.getElem?_eq_getElem hi]
      exact ru
    · rcases List.mem_cons.mp ht with rfl | ht
      · exact ⟨h1 p (List.mem_cons_self ..), its.toArray, by show RSq kd s.heap p.2 _; rw [e.1]; exact rs1, by simpa using hu⟩
      · exact l3 t ht
  | [], _ :: _, e, _, _ => by cases e
  | _ :: _, [], e, _, _ => by cases e
theorem turn_zipN {P : Program} {w : World} {K : PySem.W.Frag} {x : Str} {px : Pos} {kd : Bool} {rs : List (Addr × List V)} {ps : List (Addr × Addr)} {z TI TO : Addr} (e : ps.map (·.2) = rs.map (·.1)) (hne : rs ≠ []) (hlen : rs.length ≤ 12) (nd : (z :: TI :: TO :: ps.map (·.1)).Nodup)
    (src : ∀ p ∈ ps, p.2 ≠ z ∧ p.2 ≠ TO ∧ p.2 ∉ ps.map (·.1)) :
    Turn P w K (.Name x px) (ItZ K kd rs) (z :: TI :: TO :: ps.map (·.1)) z (fun i h => ∃ f0 f1 vs, h.get? z = some (zObj f0 f1 TI TO) ∧ ZF f0 ∧ h.get? TI = some (tObj (ps.map fun p => Value.ref p.1).toArray) ∧ h.get? TO = some (tObj vs) ∧ vs.size = ps.length ∧ ∀ p ∈ ps, RIt kd h p.1 p.2 i) where
  mem := List.mem_cons_self ..
  obj := fun i h st b hb => by
    obtain ⟨f0, f1, vs, g1, g2, g3, g4, g5, g6⟩ := st
    rcases List.mem_cons.mp hb with rfl | hb
    · exact ⟨_, g1, fun v q => nomatch q⟩
    · rcases List.mem_cons.mp hb with rfl | hb
      · exact ⟨_, g3, fun v q => nomatch q⟩
      · rcases List.mem_cons.mp hb with rfl | hb
        · exact ⟨_, g4, fun v q => nomatch q⟩
        · obtain ⟨p, hp, rfl⟩ := List.mem_map.mp hb
          exact (g6 p hp).obj
  keep := fun i h h' st k => by
    obtain ⟨f0, f1, vs, g1, g2, g3, g4, g5, g6⟩ := st
    refine ⟨f0, f1, vs, k z (List.mem_cons_self ..) _ g1, g2, k TI (List.mem_cons_of_mem _ (List.mem_cons_self ..)) _ g3, k TO (List.mem_cons_of_mem _ (List.mem_cons_of_mem _ (List.mem_cons_self ..))) _ g4, g5, fun p hp => (g6 p hp).keep fun o q => k p.1 (List.mem_cons_of_mem _ (List.mem_cons_of_mem _ (List.mem_cons_of_mem _ (List.mem_map_of_mem hp)))) o q⟩
  item := by
    intro X hP hw hK hc i pins s σ H E I hf st hg
    subst hP hw hK
    obtain ⟨f0, f1, vs, g1, g2, g3, g4, g5, g6⟩ := st
    obtain ⟨L, l1, l2, l3⟩ := rows_give I e g6 hg
    have lm : L.map (·.1) = ps.map (·.1) := by rw [← l1, List.map_map]; rfl
    have ll : L.length = ps.length := by rw [← l1, List.length_map]
    have lv : L.map (fun t => Value.ref t.1) = ps.map (fun p => Value.ref p.1) := by rw [← l1, List.map_map]; rfl
    have pr : ps.length = rs.length := by
      have := congrArg List.length e
      rw [List.length_map, List.length_map] at this
      exact this
    have D : ZApart z TI TO L := ⟨by rw [lm]; exact nd, fun t ht => by
      rw [lm]
      exact src (t.1, t.2.1) (by rw [← l1]; exact List.mem_map_of_mem (f := fun t : Src => (t.1, t.2.1)) ht)⟩
    refine zipN_next g1 ?_
    refine zipN_item (kd := kd) (Q := fun v s1 => ∃ u, some v = some u ∧ wpAny (model X.prog X.w) X.A (letOwnedTupleGo (.Name x px) (.ref z) u) (fun _ s2 => ∃ x H', Inv X pins σ H' s2 ∧ RelV x u ∧ (ItZ X.K kd rs).yld i H x H' ∧ (∃ f0 f1 vs, s2.heap.get? z = some (zObj f0 f1 TI TO) ∧ ZF f0 ∧ s2.heap.get? TI = some (tObj (ps.map fun p => Value.ref p.1).toArray) ∧ s2.heap.get? TO = some (tObj vs) ∧ vs.size = ps.length ∧ ∀ p ∈ ps, RIt kd s2.heap p.1 p.2 (i + 1)) ∧ ∀ b ∈ z :: TI :: TO :: ps.map (·.1), H' b = none) E s1)
      D g1 g2 (by rw [lv]; exact g3) g4 (by rw [ll]; exact g5) (fun q => hne ?_) (by omega) l3 fun h' f0' f1' vs' a1 a2 a3 a4 a5 a6 a7 a8 => ?_
    · have l0 : L.length = 0 := by rw [q]; rfl
      exact List.length_eq_zero_iff.mp (by omega)
    · rw [lv] at a3
      rw [lm] at a8
      have new : ObjOk X.prog X.w (upd H s.heap.objs.size (.tup (rs.map fun r => r.2.getD i .non))) h' s.heap.objs.size (.tup (rs.map fun r => r.2.getD i .non)) :=
        ⟨by rw [List.length_map]; exact Nat.le_trans hlen (by decide), _, l2, ⟨_, a7, rfl, _, rfl⟩⟩
      have I1 : Inv X pins σ (upd H s.heap.objs.size (.tup (rs.map fun r => r.2.getD i .non))) { s with heap := h' } :=
        I.turnedNew (t' := s.toks) (ch := z :: TI :: TO :: ps.map (·.1)) (fun c o hb q => a8 c o (fun q' => hb (by rw [q']; exact List.mem_cons_self ..)) (fun q' => hb (by rw [q']; exact List.mem_cons_of_mem _ (List.mem_cons_of_mem _ (List.mem_cons_self ..)))) (fun q' => hb (List.mem_cons_of_mem _ (List.mem_cons_of_mem _ (List.mem_cons_of_mem _ q')))) q) hf (Nat.le_refl _) new
      have lts : ∀ b ∈ z :: TI :: TO :: ps.map (·.1), b < s.heap.objs.size := fun b hb => by
        rcases List.mem_cons.mp hb with rfl | hb
        · exact Heap.lt_size g1
        · rcases List.mem_cons.mp hb with rfl | hb
          · exact Heap.lt_size g3
          · rcases List.mem_cons.mp hb with rfl | hb
            · exact Heap.lt_size g4
            · obtain ⟨p, hp, rfl⟩ := List.mem_map.mp hb
              obtain ⟨o, ho, _⟩ := (g6 p hp).obj
              exact Heap.lt_size ho
      refine ⟨_, rfl, ?_⟩
      refine wpAny_pure ⟨.ref s.heap.objs.size, _, I1, rfl, ⟨_, rfl, I.hok.fresh (Nat.le_refl _), rfl⟩, ⟨f0', f1', vs', a1, a2, a3, a4, by rw [a5, ll], fun p hp => ?_⟩, fun b hb => ?_⟩
      · obtain ⟨t, ht, et⟩ := List.mem_map.mp (by rw [l1]; exact hp : p ∈ L.map fun t => (t.1, t.2.1))
        rw [← et]
        exact a6 t ht
      · rw [upd_ne (Nat.ne_of_lt (lts b hb))]
        exact (hf b hb).1
  done := by
    intro X hP hw hK hc i pins s σ H E I hf st hg
    subst hP hw hK
    obtain ⟨f0, f1, vs, g1, g2, g3, g4, g5, g6⟩ := st
    cases rs with
    | nil => exact absurd rfl hne
    | cons r rs =>
      cases ps with
      | nil => cases e
      | cons p ps =>
        rw [List.map_cons, List.map_cons, List.cons.injEq] at e
        obtain ⟨sq, hi⟩ := hg r (List.mem_cons_self ..)
        obtain ⟨its, rv, rq⟩ := SqK.get I sq
        rw [← e.1] at rq
        have hl := rv.length
        have nz : p.1 ≠ z := fun q => by
          rw [List.nodup_cons] at nd
          exact nd.1 (List.mem_cons_of_mem _ (List.mem_cons_of_mem _ (by rw [← q]; exact List.mem_cons_self ..)))
        have nt : TI ≠ z := fun q => by
          rw [List.nodup_cons] at nd
          exact nd.1 (by rw [← q]; exact List.mem_cons_self ..)
        obtain ⟨s1, s2, s3⟩ := src p (List.mem_cons_self ..)
        refine zipN_next g1 (zipN_end (kd := kd) (its := ps.map (·.1)) (I.ok.hd hc) g1 g2 nt nz s1 (by rw [g3, List.map_cons, List.map_cons, List.map_map]; rfl) (g6 p (List.mem_cons_self ..)) rq (by simp; omega) fun h' e' hk he => ?_)
        obtain ⟨o, ho, hcl⟩ := he
        exact ⟨⟨e', o, rfl, ho, hcl⟩, rfl, I.turnedL (t' := s.toks) (ch := z :: TI :: TO :: (p :: ps).map (·.1)) (fun c o hb q => hk c o (fun q' => hb (by rw [q']; exact List.mem_cons_self ..)) (fun q' => hb (List.mem_cons_of_mem _ (List.mem_cons_of_mem _ (List.mem_cons_of_mem _ (by rw [q']; exact List.mem_cons_self ..))))) q) hf⟩
  self := fun A i s Q E st h => by
    obtain ⟨f0, f1, vs, g1, _⟩ := st
    have hT : s.TypeIs (.ref z) "zip" := ⟨_, g1, rfl⟩
    refine wpAny_pyIter_slot hT F.slot_zip_iter (wpAny_call_entry F.slot_zip_iter hT F.entry_zip_iter ?_ (F.args_zip_iter_1 _))
    show wpAny _ _ (ret (.ref z)) _ _ s
    exact wpAny_pure ⟨_, rfl, "zip", _, hT, F.slot_zip_next.lookup, h⟩
def iZipN (K : PySem.W.Frag) (te : TE) : TI := fun σ H R => te σ H fun x H1 => ∃ (p : Addr) (kd : Bool) (rs : List (Addr × List V)), x = .ref p ∧ (SqT K H1 p (rs.map fun r => V.ref r.1) ∨ SqL K H1 p (rs.map fun r => V.ref r.1)) ∧ rs ≠ [] ∧ rs.length ≤ 12 ∧ (∀ r ∈ rs, SqK kd K H1 r.1 r.2) ∧ R (ItZ K kd rs) H1
theorem vals_refs : ∀ {as : List Addr} {us : List Value}, Vals (as.map V.ref) us → us = as.map Value.ref
  | [], _, .nil => rfl
  | a :: as, _, .cons r t => by
    have e : _ = Value.ref a := r
    rw [e, vals_refs t]; rfl
theorem keeps_zip {M : Model} {h : Heap} : ∃ k, (k = Keeper.frame ∨ k = Keeper.machine ∨ k = Keeper.boundFrame) ∧ PySem.W.Looks M h (keeperOf (.type "zip")) k := by
  refine ⟨.machine, .inr (.inl rfl), ?_⟩
  exact PySem.W.Looks.of_pure rfl
theorem pi_zipN (K : PySem.W.Frag) {X : Cx} {e : Expr} {te : TE} {x : Str} {px p sp pos : Pos} (hg : Gl X "zip") (hm : X.mg "zip" = none) (he : PE X e te) (hK : X.K = K := by rfl) (hst : starEach [.Starred e sp] X.env = [(true, eval e X.env)] := by rfl) :
    PI X (.Name x px) (.Call (.Name "zip" p) [.Starred e sp] [] pos) (iZipN K te) := by
  subst hK
  refine ⟨fun pins s σ H R I h => ?_⟩
  refine Call_ (ld_blt I hg hm PyProof.Rows.boot_zip ?_)
  rw [hst]
  refine PySem.W.ks_call (P := fun _ => True) rfl (fun h _ => keeps_zip) (PySem.W.ks_lone (thn (he.run pins s σ H _ I h) fun v s1 ⟨y, H1, I1, ry, a, kd, rs, ey, hxs, hne, hlen, hsq, q⟩ => ?_))
  subst ey
  obtain rfl : v = Value.ref a := ry
  have hxs' : SqT X.K H1 a ((rs.map (·.1)).map V.ref) ∨ SqL X.K H1 a ((rs.map (·.1)).map V.ref) := by rw [List.map_map]; exact hxs
  refine StX.star_any I1 hxs' fun us s2 I2 rv => ⟨trivial, ?_⟩
  rw [vals_refs rv, List.nil_append]
  refine call_zipN (kd := kd) (fun b hb => ?_) (by rw [List.length_map]; exact hlen) fun h' z hz hk => ?_
  · obtain ⟨r, hr, rfl⟩ := List.mem_map.mp hb
    obtain ⟨its, _, w2⟩ := SqK.get I2 (hsq r hr)
    exact ⟨_, w2⟩
  · obtain ⟨ps, TI, TO, vs, e1, nd, lz, lTI, lTO, lp, g1, g3, g4, g5, g6⟩ := hz
    have old : ∀ q ∈ ps, q.2 < s2.heap.objs.size := fun q hq => by
      have hm2 : q.2 ∈ rs.map (·.1) := by rw [← e1]; exact List.mem_map_of_mem hq
      obtain ⟨r, hr, er⟩ := List.mem_map.mp hm2
      obtain ⟨its, _, w2⟩ := SqK.get I2 (hsq r hr)
      rw [← er]
      exact w2.lt
    have I3 : Inv X pins σ H1 { s2 with heap := h' } := I2.kept (t' := s2.toks) hk
    have T := turn_zipN (P := X.prog) (w := X.w) (K := X.K) (x := x) (px := px) (kd := kd) e1 hne hlen nd fun q hq => ⟨Nat.ne_of_lt (Nat.lt_of_lt_of_le (old q hq) lz), Nat.ne_of_lt (Nat.lt_of_lt_of_le (old q hq) lTO), fun z' => by
      obtain ⟨q', hq', e'⟩ := List.mem_map.mp z'
      exact Nat.ne_of_lt (Nat.lt_of_lt_of_le (old q hq) (lp q' hq')) e'.symm⟩
    refine T.self X.A 0 { s2 with heap := h' } _ _ ⟨.none, false, vs, g1, .inl rfl, g3, g4, g5, g6⟩ ?_
    refine ⟨z, _, _, _, H1, rfl, I3, T, ⟨.none, false, vs, g1, .inl rfl, g3, g4, g5, g6⟩, fun b hb => ?_, q⟩
    have lb : s2.heap.objs.size ≤ b := by
      rcases List.mem_cons.mp hb with rfl | hb
      · exact lz
      · rcases List.mem_cons.mp hb with rfl | hb
        · exact lTI
        · rcases List.mem_cons.mp hb with rfl | hb
          · exact lTO
          · obtain ⟨q', hq', rfl⟩ := List.mem_map.mp hb
            exact lp q' hq'
    exact I2.fpOk lb (I2.hok.fresh lb)
end Cg

set_option Elab.async false
set_option linter.all false
set_option maxRecDepth 100000
set_option maxHeartbeats 1000000
namespace Cg
open PySem PySem.Spec PyProof.Rows L2 Evl
/-! ### enumerate of a list or a tuple that stands still -/
theorem draws_row {prog : Program} {w : World} {A : Around} {kd : Bool} (hh : A.handled = none) (it a : Addr) (hne : a ≠ it) (items : Array Value) : Draws prog w A it [it, a] items.size (fun i v => items[i]? = some v) (fun i h => RIt kd h it a i ∧ RSq kd h a items) := by
  cases kd with
  | true => exact Draws.list hh it a hne items
  | false => exact Draws.tuple hh it a hne items
section
variable {prog : Program} {w : World} {A : Around} {E : Value → Shared → Prop} {s : Shared} {kd : Bool}
theorem enum_tup (l : Addr) (items : Array Value) : Meets (Builtin.«enumerate.__new__» ⟨[.type "enumerate", .ref l], []⟩) (fun _ R s => s.heap.IsTuple l items ∧
      R (.ok (.ret (.ref (s.heap.push (itObj false l)).objs.size))) { s with heap := (s.heap.push (itObj false l)).push { cls := .type "enumerate", data := .fields #[.none, .bool false, .ref s.heap.objs.size, rawInt 0, .none, .none] } }) :=
  .of_wp fun prog w A R s h => by
    obtain ⟨hp, g, d, tk, os⟩ := s
    obtain ⟨hl, h⟩ := h
    have hsub := sub_enumerate
    obtain ⟨o, ho, r⟩ := id hl
    have hL : Heap.IsTuple (Shared.heap ⟨hp, g, d, tk, os⟩) l items := hl
    wp_walk using AutoSeq1.wpAny_loadPart' ho
    refine wpAny_stack_any fun _ => wpAny_pure ?_
    split
    · rename_i c _ _ _ _ _
      cases (c == Value.type "enumerate") <;> (wp_walk using AutoSeq1.wpAny_loadPart' ho, wpAny_pyIter_tuple hL; exact ⟨_, rfl, h⟩)
    · wp_walk using AutoSeq1.wpAny_loadPart' ho, wpAny_pyIter_tuple hL
      exact ⟨_, rfl, h⟩
theorem call_enum {l : Addr} {items : Array Value} {Q : Value → Shared → Prop} (hL : RSq kd s.heap l items)
    (h : ∀ h', IsEnum h' (s.heap.objs.size + 1) s.heap.objs.size 0 .none → RIt kd h' s.heap.objs.size l 0 → (∀ b o, s.heap.get? b = some o → h'.get? b = some o) → Q (.ref (s.heap.objs.size + 1)) { s with heap := h' }) :
    wpAny (model prog w) A (call (.type "enumerate") [.ref l]) Q E s := by
  cases kd with
  | true => exact call_enumerate_list hL fun h' a1 a2 _ a4 => h h' a1 a2 a4
  | false =>
    refine callType_new F.called_enumerate (by decide) (F.typeCall_enumerate_1 _) (F.newCall_enumerate_1 _) (fun obj => F.args_object_init_2 obj _) F.entry_enumerate_new (enum_tup l items) ⟨hL, ?_⟩
    have hz : (s.heap.push (itObj false l)).objs.size = s.heap.objs.size + 1 := Heap.size_push ..
    have he : ((s.heap.push (itObj false l)).push { cls := .type "enumerate", data := .fields #[.none, .bool false, .ref s.heap.objs.size, rawInt 0, .none, .none] }).get? (s.heap.push (itObj false l)).objs.size = some { cls := .type "enumerate", data := .fields #[.none, .bool false, .ref s.heap.objs.size, rawInt 0, .none, .none] } := Heap.get?_push_size _ rfl
    show _ ∧ _
    rw [hz] at he ⊢
    exact ⟨⟨_, he, rfl⟩, h _ he ((rit_new (kd := false)).keep fun o e => Heap.get?_push_of_some _ e) fun b o x => Heap.get?_push_of_some _ (Heap.get?_push_of_some _ x)⟩
end
def ItE (K : PySem.W.Frag) (kd : Bool) (a : Addr) (xs : List V) : It :=
  ⟨fun i H => SqK kd K H a xs ∧ i < xs.length, fun i H v H' => ∃ T, v = .ref T ∧ H T = none ∧ H' = upd H T (.tup [.int (i : Nat), xs.getD i .non]), fun i H => SqK kd K H a xs ∧ xs.length ≤ i⟩
theorem turn_enumK {P : Program} {w : World} {K : PySem.W.Frag} {elts : List Expr} {kk : Nat} {tpos : Pos} {kd : Bool} {xs : List V} {a e it : Addr} (hei : e ≠ it) (hai : a ≠ it) (hae : a ≠ e) :
    Turn P w K (.Tuple elts kk tpos) (ItE K kd a xs) [e, it] e (fun i h => (∃ old, IsEnum h e it ((i : Nat) : Int) old) ∧ RIt kd h it a i ∧ i ≤ xs.length) where
  mem := List.mem_cons_self ..
  obj := fun i h st b hb => by
    obtain ⟨⟨old, he⟩, hi, _⟩ := st
    rcases List.mem_cons.mp hb with rfl | hb
    · exact ⟨_, he, fun v q => nomatch q⟩
    · rw [List.mem_singleton.mp hb]
      exact hi.obj
  keep := fun i h h' st k => by
    obtain ⟨⟨old, he⟩, hi, hl⟩ := st
    exact ⟨⟨old, k e (List.mem_cons_self ..) _ he⟩, hi.keep fun o q => k it (List.mem_cons_of_mem _ (List.mem_cons_self ..)) o q, hl⟩
  item := by
    intro X hP hw hK hc i pins s σ H E I hf st hg
    subst hP hw hK
    obtain ⟨⟨old, he⟩, hi, _⟩ := st
    obtain ⟨sq, hlt⟩ := hg
    obtain ⟨its, rv, rq⟩ := SqK.get I sq
    have hlen := rv.length
    obtain ⟨u, hu, ru⟩ := rv.get (List.getElem?_eq_getElem hlt)
    have hel : e < s.heap.objs.size := Heap.lt_size he
    have hil : it < s.heap.objs.size := by
      obtain ⟨o, ho, _⟩ := hi.obj
      exact Heap.lt_size ho
    refine wpAny_pyNext_enum_itemD (draws_row (kd := kd) (A := X.A.in1) (I.ok.hd hc) it a hai its.toArray) he ⟨hi, rq⟩ (by simp; omega) hei (by simp; exact ⟨hei, hae.symm⟩) fun x h' tk hP ho hst hT hsz hk => ?_
    have ex : x = u := by
      have h1 : its[i]? = some x := by simpa using hP
      rw [hu] at h1
      exact (Option.some.inj h1).symm
    subst ex
    refine ⟨_, rfl, wpAny_letOwnedTupleGo_enum (s := { s with heap := h', toks := tk + 1 }) ho fun h2 he2 sb => ?_⟩
    have hT2 : h2.get? s.heap.objs.size = some (tObj #[.int i tk, x]) := (sb.2 _ (Nat.ne_of_gt hel)).trans hT
    have eg : xs.getD i .non = xs[i] := by rw [List.getD_eq_getElem?_getD, List.getElem?_eq_getElem hlt]; rfl
    have new : ObjOk X.prog X.w (upd H s.heap.objs.size (.tup [.int (i : Nat), xs.getD i .non])) h2 s.heap.objs.size (.tup [.int (i : Nat), xs.getD i .non]) :=
      ⟨by show 2 ≤ sizeLine; decide, [.int i tk, x], .cons ⟨_, rfl⟩ (.cons (by rw [eg]; exact ru) .nil), ⟨_, hT2, rfl, _, rfl⟩⟩
    have I1 : Inv X pins σ (upd H s.heap.objs.size (.tup [.int (i : Nat), xs.getD i .non])) { s with heap := h2, toks := tk + 1 } :=
      I.turnedNew (ch := [e, it]) (fun b ob hb q => (sb.2 b (fun z => hb (by rw [z]; exact List.mem_cons_self ..))).trans (hk b ob (fun z => hb (by rw [z]; exact List.mem_cons_self ..)) (fun z => hb (by rw [z]; exact List.mem_cons_of_mem _ (List.mem_cons_self ..))) q)) hf (Nat.le_refl _) new
    refine ⟨.ref s.heap.objs.size, _, I1, rfl, ⟨_, rfl, I.hok.fresh (Nat.le_refl _), rfl⟩, ⟨⟨x, ?_⟩, hst.1.keep fun o q => (sb.2 it hei.symm).trans q, hlt⟩, fun b hb => ?_⟩
    · have e1 : ((i + 1 : Nat) : Int) = (i : Int) + 1 := by omega
      rw [e1]
      exact he2
    · have hb' : b < s.heap.objs.size := by
        rcases List.mem_cons.mp hb with rfl | hb
        · exact hel
        · rw [List.mem_singleton.mp hb]; exact hil
      rw [upd_ne (Nat.ne_of_lt hb')]
      exact (hf b hb).1
  done := by
    intro X hP hw hK hc i pins s σ H E I hf st hg
    subst hP hw hK
    obtain ⟨⟨old, he⟩, hi, hl⟩ := st
    obtain ⟨sq, hle⟩ := hg
    obtain ⟨its, rv, rq⟩ := SqK.get I sq
    have hlen := rv.length
    obtain rfl : i = xs.length := by omega
    obtain ⟨f0, f1, f2, f3, f4, f5⟩ := hf it (List.mem_cons_of_mem _ (List.mem_cons_self ..))
    have hsz : its.toArray.size = xs.length := by rw [List.size_toArray]; omega
    exact wpAny_pyNext_enum_endD (draws_row (kd := kd) (A := X.A.in1) (I.ok.hd hc) it a hai its.toArray) he ⟨by rw [hsz]; exact hi, rq⟩ fun h' eb => ⟨rfl, I.turned (t' := s.toks) (fun b o hb q => eb b o hb q) f0 f1 f3 f4 f5⟩
  self := fun A i s Q E st h => by
    obtain ⟨⟨_, he⟩, _⟩ := st
    exact wpAny_pyIter_enum he h
def iEnumK (K : PySem.W.Frag) (ta : TA) : TI := fun σ H R => ta σ H fun vs H1 => ∃ (kd : Bool) (a : Addr) (xs : List V), vs = [.ref a] ∧ SqK kd K H1 a xs ∧ R (ItE K kd a xs) H1
theorem pi_enumS (K : PySem.W.Frag) {X : Cx} {e : Expr} {ta : TA} {p pos tpos : Pos} {elts : List Expr} {kk : Nat} (hg : Gl X "enumerate") (hm : X.mg "enumerate" = none) (ha : PA X [e] ta) (hK : X.K = K := by rfl) (hs : starEach [e] X.env = [(false, eval e X.env)] := by rfl) :
    PI X (.Tuple elts kk tpos) (.Call (.Name "enumerate" p) [e] [] pos) (iEnumK K ta) := by
  subst hK
  constructor
  intro pins s σ H R I h
  refine Call_ (ld_blt I hg hm boot_enumerate (PyProof.Rows.callWith_type1 (thn (ha.run pos pins s σ H _ I h) ?_) hs rfl))
  rintro us s1 ⟨vs, H1, I1, r1, kd, a, xs, rfl, sq, q⟩
  obtain ⟨u, rfl, ru⟩ := vals1 r1
  obtain rfl : u = Value.ref a := ru
  obtain ⟨its, rv, rq⟩ := SqK.get I1 sq
  have hal := rq.lt
  refine call_enum rq fun h' he hit hk => wpAny_pyIter_enum he ?_
  have I2 : Inv X pins σ H1 { s1 with heap := h' } := I1.kept (t' := s1.toks) hk
  refine ⟨s1.heap.objs.size + 1, [s1.heap.objs.size + 1, s1.heap.objs.size], _, _, H1, rfl, I2, turn_enumK (kd := kd) (xs := xs) (Nat.succ_ne_self _) (Nat.ne_of_lt hal) (Nat.ne_of_lt (Nat.lt_succ_of_lt hal)), ⟨⟨.none, he⟩, hit, Nat.zero_le _⟩, fun b hb => ?_, q⟩
  have hle : s1.heap.objs.size ≤ b := by
    rcases List.mem_cons.mp hb with rfl | hb
    · exact Nat.le_succ _
    · rw [List.mem_singleton.mp hb]; exact Nat.le_refl _
  exact I1.fpOk hle (I1.hok.fresh hle)
end Cg

set_option Elab.async false
set_option linter.all false
set_option maxRecDepth 100000
set_option maxHeartbeats 1000000
namespace Cg
open PySem PySem.Spec PyProof.Rows L2 Evl
/-! ### a walk of n turns -/
theorem it_by {J : It} {n : Nat} {Body : V → Hp → (Hp → Prop) → Prop} {Fn : Hp → Prop} {H0 : Hp} (Pv : Nat → Hp → Prop) (h0 : Pv 0 H0) (hgo : ∀ i H, i < n → Pv i H → J.go i H) (hst : ∀ H, Pv n H → J.stop n H) (hs : ∀ i x H H', i < n → Pv i H → J.yld i H x H' → Body x H' (Pv (i + 1))) (hd : ∀ H, Pv n H → Fn H) :
    ∃ W : Nat → Nat → Hp → Prop, (∃ m, W 0 m H0) ∧ ∀ i m H, W i m H → (J.stop i H ∧ Fn H) ∨ (J.go i H ∧ ∃ Nx : Hp → Prop, (∀ H', Nx H' → ∃ m', m' < m ∧ W (i + 1) m' H') ∧ ∀ x H', J.yld i H x H' → Body x H' Nx) := by
  refine ⟨fun i m H => i + m = n ∧ Pv i H, ⟨n, by omega, h0⟩, fun i m H hw => ?_⟩
  obtain ⟨e, p⟩ := hw
  cases m with
  | zero =>
    obtain rfl : i = n := by omega
    exact .inl ⟨hst H p, hd H p⟩
  | succ m => exact .inr ⟨hgo i H (by omega) p, Pv (i + 1), fun H' p' => ⟨m, by omega, by omega, p'⟩, fun x H' y => hs i x H H' (by omega) p y⟩
/-- a list, or a tuple, of data -/
def seqD (kd : Bool) (ds : List PyData) : PyData := match kd with
  | true => .list ds
  | false => .tuple ds
theorem Dq.seq_inv {H : Hp} {v : V} {kd : Bool} {ds : List PyData} (h : Dq H v (seqD kd ds)) : ∃ a xs, v = .ref a ∧ (∀ {K : PySem.W.Frag} {H' : Hp}, Same H H' → SqK kd K H' a xs) ∧ DqAll H xs ds := by
  cases kd with
  | true =>
    obtain ⟨a, xs, e, hh, r⟩ := h.list_inv
    exact ⟨a, xs, e, fun s => SqL.of (s _ _ hh), r⟩
  | false =>
    obtain ⟨a, xs, e, hh, r⟩ := h.tup_inv
    exact ⟨a, xs, e, fun s => SqT.of (s _ _ hh), r⟩
section
variable {bs : List Addr} {K : PySem.W.Frag} {σ : L2.St} {H H' : Hp} {ta tb te tl : TE} {d e : PyData} {ds es : List PyData}
end
end Cg

set_option Elab.async false
set_option linter.all false
set_option maxRecDepth 100000
set_option maxHeartbeats 1000000
namespace Cg
open PySem PySem.Spec PyProof.Rows L2 Evl
/-- tables of numbers -/
abbrev Mat := List (List Int)
def rowD (kd : Bool) (r : List Int) : PyData := seqD kd (r.map PyData.int)
def tabD (k1 k2 : Bool) (M : Mat) : PyData := seqD k1 (M.map (rowD k2))
theorem ints_inv {H : Hp} : ∀ {xs : List V} {ns : List Int}, DqAll H xs (ns.map PyData.int) → xs = ns.map V.int
  | _, [], .nil => rfl
  | _, n :: r, .cons h t => by rw [h.int_inv, ints_inv t]; rfl
/-- a new list of new lists of numbers -/
structure NewTab (H H' : Hp) (p : Addr) (as : List Addr) (M : Mat) : Prop where
  np : H p = none
  hp : H' p = some (.lst (as.map V.ref))
  len : as.length = M.length
  nd : as.Nodup
  row : ∀ (j : Nat) (a : Addr) (r : List Int), as[j]? = some a → M[j]? = some r → a ≠ p ∧ H a = none ∧ H' a = some (.lst (r.map V.int))
theorem rows_dq {H' : Hp} : ∀ {as : List Addr} {M : Mat}, as.length = M.length → (∀ (j : Nat) (a : Addr) (r : List Int), as[j]? = some a → M[j]? = some r → H' a = some (.lst (r.map V.int))) → DqAll H' (as.map V.ref) (M.map (rowD true))
  | [], [], _, _ => .nil
  | [], _ :: _, z, _ => nomatch z
  | _ :: _, [], z, _ => nomatch z
  | a :: as, r :: M, len, row => .cons (.lst (row 0 a r rfl rfl) (DqAll.ints r)) (rows_dq (by simpa using len) fun j b s h1 h2 => row (j + 1) b s h1 h2)
theorem NewTab.get {H H' : Hp} {p : Addr} {as : List Addr} {M : Mat} (t : NewTab H H' p as M) {a : Addr} (ha : a ∈ as) : a ≠ p ∧ H a = none ∧ ∃ r ∈ M, H' a = some (.lst (r.map V.int)) := by
  obtain ⟨j, hj, e⟩ := List.mem_iff_getElem.mp ha
  have h1 : as[j]? = some a := by rw [List.getElem?_eq_getElem hj, e]
  have hj2 : j < M.length := by rw [← t.len]; exact hj
  obtain ⟨q1, q2, q3⟩ := t.row j a M[j] h1 (List.getElem?_eq_getElem hj2)
  exact ⟨q1, q2, M[j], List.getElem_mem hj2, q3⟩
theorem NewTab.dq {H H' : Hp} {p : Addr} {as : List Addr} {M : Mat} (t : NewTab H H' p as M) {bs : List Addr} (l : Live bs H) : Dq (hid bs H') (.ref p) (tabD true true M) := by
  refine .lst (by rw [hid_out (l.out t.np)]; exact t.hp) (rows_dq t.len fun j a r h1 h2 => ?_)
  obtain ⟨_, q2, q3⟩ := t.row j a r h1 h2
  rw [hid_out (l.out q2)]
  exact q3
theorem NewTab.old {H0 H H' H2 : Hp} {p : Addr} {as : List Addr} {M : Mat} (t : NewTab H H' p as M) (s : Same H0 H) (s2 : Same H' H2) : NewTab H0 H2 p as M :=
  ⟨fresh_back s t.np, s2 _ _ t.hp, t.len, t.nd, fun j a r h1 h2 => by
    obtain ⟨q1, q2, q3⟩ := t.row j a r h1 h2
    exact ⟨q1, fresh_back s q2, s2 _ _ q3⟩⟩
section
variable {bs : List Addr} {K : PySem.W.Frag} {σ : L2.St} {H H1 : Hp} {te tl : TE} {ds : List PyData}
end
end Cg

set_option Elab.async false
set_option linter.all false
set_option maxRecDepth 100000
set_option maxHeartbeats 1000000
namespace Cg
open PySem PySem.Spec PyProof.Rows L2 Evl
section
variable {bs : List Addr} {K : PySem.W.Frag} {σ : L2.St} {H H1 : Hp} {ta tb te tl : TE} {v u : V} {d : PyData} {ds : List PyData}
theorem kit_two (d : PyData) : PySem.W.kitAny K (.type (tyN d)) [.type "list", .type "tuple"] = some (isList d || isTuple d) := by
  refine kitAny_cons (kit_ty (kit_list d)) (fun h => ?_) fun h => by rw [h]; rfl
  rw [h, Bool.false_or]
  refine kitAny_cons (kit_ty (kit_tuple d)) (fun h => ?_) fun h => h
  rw [h]
  exact kitAny_nil
/-- data of so few depths, of no great lists -/
def Okn : Nat → PyData → Prop
  | 0, _ => False
  | n + 1, .list xs => xs.length ≤ 40000 ∧ ∀ x ∈ xs, Okn n x
  | n + 1, .tuple xs => xs.length ≤ 40000 ∧ ∀ x ∈ xs, Okn n x
  | _ + 1, .dict _ => False
  | _ + 1, _ => True
end
end Cg

set_option Elab.async false
set_option linter.all false
set_option maxRecDepth 100000
set_option maxHeartbeats 1000000
namespace Cg
open PySem PySem.Spec PyProof.Rows L2 Evl
section
variable {bs : List Addr} {K : PySem.W.Frag} {σ : L2.St} {H H1 : Hp} {ta tb te tl : TE} {v u : V} {d : PyData} {ds : List PyData}
theorem Live.cons {p : Addr} {o : HO} (l : Live bs H) (h : H p = some o) : Live (p :: bs) H := fun y hy => by
  rcases List.mem_cons.mp hy with rfl | hy
  · rw [h]; exact fun z => nomatch z
  · exact l y hy
end
end Cg

set_option Elab.async false
set_option linter.all false
set_option maxRecDepth 100000
set_option maxHeartbeats 1000000
namespace Cg
open PySem PySem.Spec PyProof.Rows L2 Evl
/-! ### what the three tell -/
def turnM (m : Nat) (M : Mat) : Mat := (List.range m).map fun j => M.map fun r => r.getD j 0
def outB (I O : List Int) (i j : Nat) : Bool := inV (.int (i : Nat)) (I.map V.int) || inV (.int (j : Nat)) (O.map V.int)
def Small (M : Mat) : Prop := M.length ≤ 12 ∧ ∀ r ∈ M, r.length ≤ 12
section
variable {P : Program} {w : World} {K : PySem.W.Frag} {mg : Str → Option Value} {base : Heap} {f f1 f2 f3 f4 : Addr} {fd fd1 fd2 fd3 fd4 : FuncData}
end
section
variable {P : Program} {w : World} {K : PySem.W.Frag} {mg : Str → Option Value} {base : Heap} {f f1 f2 f3 f4 : Addr} {fd fd1 fd2 fd3 fd4 : FuncData}
def spBox (K : PySem.W.Frag) : Sp := fun vs H Q _ => ∃ (a : Addr) (ns : List Int) (k : Nat), vs = [.ref a, .int (k : Int)] ∧ SqL K H a (ns.map V.int) ∧ k ≤ 1000 ∧ ∀ (b : Addr) (H' : Hp), Same H H' → H b = none → Box H' b 0 → Q (.ref b) H'
theorem cut_hi (xs : List V) (n : Nat) : cutV xs none (some (n : Int)) = xs.take n := by
  unfold cutV
  rw [HT.sIx_none, HT.sIx_nat, Nat.sub_zero, List.drop_zero]
  by_cases h : n ≤ xs.length
  · rw [Nat.min_eq_left h]
  · rw [Nat.min_eq_right (by omega), List.take_of_length_le (Nat.le_refl _), List.take_of_length_le (by omega)]
theorem cut_both (xs : List V) (n m : Nat) : cutV xs (some (n : Int)) (some (m : Int)) = (xs.drop n).take (m - n) := by
  unfold cutV
  rw [HT.sIx_nat, HT.sIx_nat]
  by_cases h : n ≤ xs.length
  · rw [Nat.min_eq_left h]
    by_cases h2 : m ≤ xs.length
    · rw [Nat.min_eq_left h2]
    · rw [Nat.min_eq_right (by omega), List.take_of_length_le (by rw [List.length_drop]; omega), List.take_of_length_le (by rw [List.length_drop]; omega)]
  · rw [Nat.min_eq_right (show xs.length ≤ n by omega), List.drop_of_length_le (Nat.le_refl _), List.drop_of_length_le (show xs.length ≤ n by omega), List.take_nil, List.take_nil]
def spFold (K : PySem.W.Frag) : Sp := fun vs H Q _ => ∃ (a : Addr) (ns : List Int) (z : Nat), vs = [.ref a, .int (z : Int)] ∧ SqL K H a (ns.map V.int) ∧ 1 ≤ z ∧ z ≤ 1000 ∧ ns.length ≤ 1000 ∧
  ∀ (l : Addr) (ms : List Int) (H' : Hp), Same H H' → H l = none → H' l = some (.lst (ms.map V.int)) → ms.length = min z ns.length → Q (.ref l) H'
end
section
variable {P : Program} {w : World} {K : PySem.W.Frag} {mg : Str → Option Value} {base : Heap} {f f1 f2 f3 f4 : Addr} {fd fd1 fd2 fd3 fd4 : FuncData}
end
section
variable {P : Program} {w : World} {K : PySem.W.Frag} {mg : Str → Option Value} {base : Heap} {f f1 f2 f3 f4 : Addr} {fd fd1 fd2 fd3 fd4 : FuncData}
end
section
variable {P : Program} {w : World} {K : PySem.W.Frag} {mg : Str → Option Value} {base : Heap} {f f1 f2 f3 f4 : Addr} {fd fd1 fd2 fd3 fd4 : FuncData}
end
section
variable {P : Program} {w : World} {K : PySem.W.Frag} {mg : Str → Option Value} {base : Heap} {f f1 f2 f3 f4 : Addr} {fd fd1 fd2 fd3 fd4 : FuncData}
def Bits (M : Mat) : Prop := ∀ r ∈ M, ∀ x ∈ r, x = 0 ∨ x = 1
end
section
variable {P : Program} {w : World} {K : PySem.W.Frag} {mg : Str → Option Value} {base : Heap} {f f1 f2 f3 f4 : Addr} {fd fd1 fd2 fd3 fd4 : FuncData}
end
/-- n rows of m numbers 0 or 1 -/
structure Tab (n m : Nat) (M : Mat) : Prop where
  len : M.length = n
  row : ∀ r ∈ M, r.length = m
  bit : Bits M
section
variable {n m : Nat} {M : Mat}
theorem Tab.ne (t : Tab n m M) (hn : 1 ≤ n) : M ≠ [] := fun z => by
  have := t.len
  rw [z] at this
  simp at this
  omega
theorem map_range {β : Type} (f : List Int → β) (M : Mat) : M.map f = (List.range M.length).map fun i => f (M.getD i []) := by
  apply List.ext_getElem
  · simp
  · intro i h1 h2
    rw [List.length_map] at h1
    rw [List.getElem_map, List.getElem_map, List.getElem_range, List.getD_eq_getElem?_getD, List.getElem?_eq_getElem h1]
    rfl
theorem row_range (r : List Int) : (List.range r.length).map (fun j => r.getD j 0) = r := by
  apply List.ext_getElem
  · simp
  · intro i h1 h2
    rw [List.getElem_map, List.getElem_range, List.getD_eq_getElem?_getD, List.getElem?_eq_getElem h2]
    rfl
theorem getD_map {α β : Type} (f : α → β) (xs : List α) (i : Nat) (a : α) (b : β) (h : i < xs.length) : (xs.map f).getD i b = f (xs.getD i a) := by
  rw [List.getD_eq_getElem?_getD, List.getD_eq_getElem?_getD, List.getElem?_map, List.getElem?_eq_getElem h]
  rfl
theorem Tab.twice (t : Tab n m M) : turnM n (turnM m M) = M := by
  have e := map_range (fun r : List Int => r) M
  rw [List.map_id'] at e
  conv => rhs; rw [e]
  unfold turnM
  rw [t.len]
  refine List.map_congr_left fun i hi => ?_
  have hi' := List.mem_range.mp hi
  rw [List.map_map]
  have hr : (M.getD i []).length = m := by
    rw [List.getD_eq_getElem?_getD, List.getElem?_eq_getElem (by rw [t.len]; exact hi')]
    exact t.row _ (List.getElem_mem _)
  rw [← row_range (M.getD i []), hr]
  refine List.map_congr_left fun j _ => ?_
  show (M.map fun r => r.getD j 0).getD i 0 = _
  exact getD_map (fun r : List Int => r.getD j 0) M i [] 0 (by rw [t.len]; exact hi')
end
section
variable {bs : List Addr} {K : PySem.W.Frag} {σ : L2.St} {H : Hp} {ta tb tc : TE} {M : Mat}
end
theorem int_at {r : List Int} {j : Nat} (h : j < r.length) : (r.map PyData.int)[j]? = some (.int (r.getD j 0)) := by
  rw [List.getElem?_map, List.getD_eq_getElem?_getD, List.getElem?_eq_getElem h]
  rfl
theorem Tab.put {n m : Nat} {M : Mat} (t : Tab n m M) {k : Nat} {r : List Int} (hr : M[k]? = some r) {x : Int} (hx : x = 0 ∨ x = 1) : Tab n m (M.set k (r.set 0 x)) := by
  have hm := List.mem_of_getElem? hr
  refine ⟨by rw [List.length_set]; exact t.len, fun u hu => ?_, fun u hu => ?_⟩
  · rcases List.mem_or_eq_of_mem_set hu with hu | rfl
    · exact t.row u hu
    · rw [List.length_set]; exact t.row r hm
  · rcases List.mem_or_eq_of_mem_set hu with hu | rfl
    · exact t.bit u hu
    · intro y hy
      rcases List.mem_or_eq_of_mem_set hy with hy | rfl
      · exact t.bit r hm y hy
      · exact hx
section
variable {P : Program} {w : World} {K : PySem.W.Frag} {mg : Str → Option Value} {base : Heap} {f f1 f2 f3 f4 f5 f6 f7 f8 f9 : Addr} {fd fd1 fd2 fd3 fd4 fd5 fd6 fd7 fd8 fd9 : FuncData}
end
end Cg

set_option Elab.async false
set_option linter.all false
set_option maxRecDepth 100000
set_option maxHeartbeats 1000000
namespace Cg
open PySem PySem.Spec PyProof.Rows L2 Evl
/-! ### what a name holds, by value: shared data, or what is its own -/
inductive T where
  | sh (d : PyData) : T
  | lst (ts : List T) : T
  | tup (ts : List T) : T
  /-- a dict of its own, of ints to ints -/
  | dic (kvs : List (Int × Int)) : T
  /-- an instance of its own, at a, of the class at C; a dict of its own, of texts -/
  | ins (a C : Addr) (ns : List Str) (ts : List T) : T
  | rc (a : Addr) (ns : List Str) (ts : List T) : T
  /-- a list of its own, at a -/
  | lsa (a : Addr) (ts : List T) : T
mutual
def T.data : T → PyData
  | .sh d => d
  | .lst ts => .list (T.datas ts)
  | .tup ts => .tuple (T.datas ts)
  | .dic kvs => .dict (kvs.map kdI)
  | .ins _ C ns ts => recD (.int (C : Int)) ns (T.datas ts)
  | .rc _ ns ts => recD .none ns (T.datas ts)
  | .lsa _ ts => .list (T.datas ts)
def T.datas : List T → List PyData
  | [] => []
  | t :: ts => t.data :: T.datas ts
end
theorem datas_map : ∀ ts : List T, T.datas ts = ts.map T.data
  | [] => rfl
  | t :: ts => by
    show t.data :: T.datas ts = t.data :: ts.map T.data
    rw [datas_map ts]
theorem datas_sh (ds : List PyData) : T.datas (ds.map T.sh) = ds := by
  rw [datas_map, List.map_map]
  exact List.map_id _
mutual
/-- no list in it -/
def imm : PyData → Bool
  | .list _ => false
  | .dict _ => false
  | .tuple xs => immAll xs
  | _ => true
def immAll : List PyData → Bool
  | [] => true
  | x :: xs => imm x && immAll xs
end
mutual
/-- what is shared in it has no list -/
def T.clean : T → Bool
  | .sh d => imm d
  | .lst ts => T.cleans ts
  | .tup ts => T.cleans ts
  | .dic _ => true
  | .ins _ _ _ ts => T.cleans ts
  | .rc _ _ ts => T.cleans ts
  | .lsa _ ts => T.cleans ts
def T.cleans : List T → Bool
  | [] => true
  | t :: ts => t.clean && T.cleans ts
end
/-- a slot -/
inductive Sl where
  | no : Sl
  | box : Sl
  | is (t : T) : Sl
  /-- a dict of its own, of ints to what never changes -/
  | dic (kvs : List (Key × V)) : Sl
  /-- a dict that is walked -/
  | dcF (kvs : List (Int × Int)) : Sl
  /-- that very address, nothing more is known of it -/
  | pin (a : Addr) : Sl
abbrev Env := List Sl
/-- nothing that is hidden is a tuple -/
def NoTup (bs : List Addr) (H : Hp) : Prop := ∀ a ∈ bs, ∀ xs, H a ≠ some (.tup xs)
section
variable {b bs cs hs : List Addr} {H H' : Hp} {v : V} {t : T} {d : PyData}
mutual
theorem dq_imm (hn : NoTup bs H) : ∀ {v : V} {d : PyData}, Dq H v d → imm d = true → Dq (hid bs H) v d
  | _, _, .non, _ => .non
  | _, _, .bl b, _ => .bl b
  | _, _, .int i, _ => .int i
  | _, _, .str x, _ => .str x
  | _, _, .lst _ _, h => by cases h
  | _, _, .dic _, h => by cases h
  | _, _, .ins _ _ _, h => by cases h
  | _, _, .rc _ _ _, h => by cases h
  | _, _, .fz _ _ _, h => by cases h
  | _, _, .tup e h, hi => .tup (by rw [hid_out (fun z => hn _ z _ e)]; exact e) (dqAll_imm hn h hi)
theorem dqAll_imm (hn : NoTup bs H) : ∀ {vs : List V} {ds : List PyData}, DqAll H vs ds → immAll ds = true → DqAll (hid bs H) vs ds
  | _, _, .nil, _ => .nil
  | _, _, .cons h t, hi => by
    have hi' := Bool.and_eq_true _ _ ▸ hi
    exact .cons (dq_imm hn h hi'.1) (dqAll_imm hn t hi'.2)
end
mutual
inductive Rep (bs : List Addr) (H : Hp) : V → T → List Addr → Prop
  | sh {v : V} {d : PyData} (h : Dq (hid bs H) v d) : Rep bs H v (.sh d) []
  | lst {a : Addr} {vs : List V} {ts : List T} {A : List Addr} (e : H a = some (.lst vs)) (h : RepL bs H vs ts A) : Rep bs H (.ref a) (.lst ts) (a :: A)
  | tup {a : Addr} {vs : List V} {ts : List T} {A : List Addr} (e : H a = some (.tup vs)) (h : RepL bs H vs ts A) : Rep bs H (.ref a) (.tup ts) A
  | dic {a : Addr} {kvs : List (Int × Int)} (e : H a = some (.dK (kvs.map kvI))) : Rep bs H (.ref a) (.dic kvs) [a]
  | ins {a C dx : Addr} {ns : List Str} {vs : List V} {ts : List T} {A : List Addr} (e : H a = some (.ins C dx (ns.zip vs))) (e2 : H dx = some (.own a)) (l : ns.length = vs.length) (h : RepL bs H vs ts A) : Rep bs H (.ref a) (.ins a C ns ts) (a :: dx :: A)
  | rc {a : Addr} {ns : List Str} {vs : List V} {ts : List T} {A : List Addr} (e : H a = some (.dK (kz ns vs))) (l : ns.length = vs.length) (h : RepL bs H vs ts A) : Rep bs H (.ref a) (.rc a ns ts) (a :: A)
  | lsa {a : Addr} {vs : List V} {ts : List T} {A : List Addr} (e : H a = some (.lst vs)) (h : RepL bs H vs ts A) : Rep bs H (.ref a) (.lsa a ts) (a :: A)
inductive RepL (bs : List Addr) (H : Hp) : List V → List T → List Addr → Prop
  | nil : RepL bs H [] [] []
  | cons {v : V} {vs : List V} {t : T} {ts : List T} {A B : List Addr} (h : Rep bs H v t A) (k : RepL bs H vs ts B) : RepL bs H (v :: vs) (t :: ts) (A ++ B)
end
mutual
theorem Rep.chg (hn : NoTup bs H) (k : Same (hid bs H) (hid cs H')) : ∀ {v : V} {t : T} {A : List Addr}, (∀ a ∈ A, ∀ o, H a = some o → H' a = some o) → Rep bs H v t A → Rep cs H' v t A
  | _, _, _, _, .sh h => .sh (h.mono k)
  | _, _, _, hA, .lst e h => .lst (hA _ (List.mem_cons_self ..) _ e) (RepL.chg hn k (fun a ha => hA a (List.mem_cons_of_mem _ ha)) h)
  | _, _, _, hA, .tup e h => .tup ((hid_some (k _ _ (by rw [hid_out (fun z => hn _ z _ e)]; exact e))).2) (RepL.chg hn k hA h)
  | _, _, _, hA, .dic e => .dic (hA _ (List.mem_singleton.mpr rfl) _ e)
  | _, _, _, hA, .ins e e2 l h => .ins (hA _ (List.mem_cons_self ..) _ e) (hA _ (List.mem_cons_of_mem _ (List.mem_cons_self ..)) _ e2) l (RepL.chg hn k (fun a ha => hA a (List.mem_cons_of_mem _ (List.mem_cons_of_mem _ ha))) h)
  | _, _, _, hA, .lsa e h => .lsa (hA _ (List.mem_cons_self ..) _ e) (RepL.chg hn k (fun a ha => hA a (List.mem_cons_of_mem _ ha)) h)
  | _, _, _, hA, .rc e l h => .rc (hA _ (List.mem_cons_self ..) _ e) l (RepL.chg hn k (fun a ha => hA a (List.mem_cons_of_mem _ ha)) h)
theorem RepL.chg (hn : NoTup bs H) (k : Same (hid bs H) (hid cs H')) : ∀ {vs : List V} {ts : List T} {A : List Addr}, (∀ a ∈ A, ∀ o, H a = some o → H' a = some o) → RepL bs H vs ts A → RepL cs H' vs ts A
  | _, _, _, _, .nil => .nil
  | _, _, _, hA, .cons h t => .cons (Rep.chg hn k (fun a ha => hA a (List.mem_append_left _ ha)) h) (RepL.chg hn k (fun a ha => hA a (List.mem_append_right _ ha)) t)
end
mutual
theorem Rep.data (hn : NoTup hs H) (hh : ∀ a ∈ hs, a ∈ bs) : ∀ {v : V} {t : T} {A : List Addr}, (∀ a ∈ A, a ∉ hs) → Rep bs H v t A → Dq (hid hs H) v t.data
  | _, _, _, _, .sh h => h.mono (hid_less hh)
  | _, _, _, hA, .lst e h => .lst (by rw [hid_out (hA _ (List.mem_cons_self ..))]; exact e) (RepL.datas hn hh (fun a ha => hA a (List.mem_cons_of_mem _ ha)) h)
  | _, _, _, hA, .tup e h => .tup (by rw [hid_out (fun z => hn _ z _ e)]; exact e) (RepL.datas hn hh hA h)
  | _, _, _, hA, .dic e => .dic (by rw [hid_out (hA _ (List.mem_singleton.mpr rfl))]; exact e)
  | _, _, _, hA, .ins e e2 l h => .ins (by rw [hid_out (hA _ (List.mem_cons_self ..))]; exact e) l (RepL.datas hn hh (fun a ha => hA a (List.mem_cons_of_mem _ (List.mem_cons_of_mem _ ha))) h)
  | _, _, _, hA, .lsa e h => .lst (by rw [hid_out (hA _ (List.mem_cons_self ..))]; exact e) (RepL.datas hn hh (fun a ha => hA a (List.mem_cons_of_mem _ ha)) h)
  | _, _, _, hA, .rc e l h => .rc (by rw [hid_out (hA _ (List.mem_cons_self ..))]; exact e) l (RepL.datas hn hh (fun a ha => hA a (List.mem_cons_of_mem _ ha)) h)
theorem RepL.datas (hn : NoTup hs H) (hh : ∀ a ∈ hs, a ∈ bs) : ∀ {vs : List V} {ts : List T} {A : List Addr}, (∀ a ∈ A, a ∉ hs) → RepL bs H vs ts A → DqAll (hid hs H) vs (T.datas ts)
  | _, _, _, _, .nil => .nil
  | _, _, _, hA, .cons h t => .cons (Rep.data hn hh (fun a ha => hA a (List.mem_append_left _ ha)) h) (RepL.datas hn hh (fun a ha => hA a (List.mem_append_right _ ha)) t)
end
/-- something stands there, no tuple -/
def Own (H : Hp) (a : Addr) : Prop := ∃ o, H a = some o ∧ ∀ xs, o ≠ .tup xs
theorem own_lst {a : Addr} {xs : List V} (e : H a = some (.lst xs)) : Own H a := ⟨_, e, fun _ z => nomatch z⟩
theorem own_ins {a C dx : Addr} {fs : List (Str × V)} (e : H a = some (.ins C dx fs)) : Own H a := ⟨_, e, fun _ z => nomatch z⟩
theorem own_own {a x : Addr} (e : H a = some (.own x)) : Own H a := ⟨_, e, fun _ z => nomatch z⟩
theorem own_dic {a : Addr} {kvs : List (Key × V)} (e : H a = some (.dK kvs)) : Own H a := ⟨_, e, fun _ z => nomatch z⟩
mutual
theorem Rep.own : ∀ {v : V} {t : T} {A : List Addr}, Rep bs H v t A → ∀ a ∈ A, Own H a
  | _, _, _, .sh h => fun _ z => nomatch z
  | _, _, _, .lst e h => fun a ha => by
    rcases List.mem_cons.mp ha with rfl | ha
    · exact own_lst e
    · exact RepL.own h a ha
  | _, _, _, .tup e h => fun a ha => RepL.own h a ha
  | _, _, _, .dic e => fun a ha => by rw [List.mem_singleton.mp ha]; exact own_dic e
  | _, _, _, .ins e e2 l h => fun a ha => by
    rcases List.mem_cons.mp ha with rfl | ha
    · exact own_ins e
    · rcases List.mem_cons.mp ha with rfl | ha
      · exact own_own e2
      · exact RepL.own h a ha
  | _, _, _, .lsa e h => fun a ha => by
    rcases List.mem_cons.mp ha with rfl | ha
    · exact own_lst e
    · exact RepL.own h a ha
  | _, _, _, .rc e l h => fun a ha => by
    rcases List.mem_cons.mp ha with rfl | ha
    · exact own_dic e
    · exact RepL.own h a ha
theorem RepL.own : ∀ {vs : List V} {ts : List T} {A : List Addr}, RepL bs H vs ts A → ∀ a ∈ A, Own H a
  | _, _, _, .nil => fun _ z => nomatch z
  | _, _, _, .cons h t => fun a ha => by
    rcases List.mem_append.mp ha with ha | ha
    · exact Rep.own h a ha
    · exact RepL.own t a ha
end
mutual
theorem Rep.clean (hn : NoTup cs H) : ∀ {v : V} {t : T} {A : List Addr}, Rep bs H v t A → t.clean = true → Rep cs H v t A
  | _, _, _, .sh h, hc => .sh (dq_imm hn (dq_vis h) hc)
  | _, _, _, .lst e h, hc => .lst e (RepL.clean hn h hc)
  | _, _, _, .tup e h, hc => .tup e (RepL.clean hn h hc)
  | _, _, _, .dic e, _ => .dic e
  | _, _, _, .ins e e2 l h, hc => .ins e e2 l (RepL.clean hn h hc)
  | _, _, _, .rc e l h, hc => .rc e l (RepL.clean hn h hc)
  | _, _, _, .lsa e h, hc => .lsa e (RepL.clean hn h hc)
theorem RepL.clean (hn : NoTup cs H) : ∀ {vs : List V} {ts : List T} {A : List Addr}, RepL bs H vs ts A → T.cleans ts = true → RepL cs H vs ts A
  | _, _, _, .nil, _ => .nil
  | _, _, _, .cons h t, hc => by
    have hc' := Bool.and_eq_true _ _ ▸ hc
    exact .cons (Rep.clean hn h hc'.1) (RepL.clean hn t hc'.2)
end
theorem RepL.len : ∀ {vs : List V} {ts : List T} {A : List Addr}, RepL bs H vs ts A → vs.length = ts.length
  | _, _, _, .nil => rfl
  | _, _, _, .cons _ t => by rw [List.length_cons, List.length_cons, t.len]
theorem RepL.append : ∀ {vs us : List V} {ts ss : List T} {A B : List Addr}, RepL bs H vs ts A → RepL bs H us ss B → RepL bs H (vs ++ us) (ts ++ ss) (A ++ B)
  | _, _, _, _, _, _, .nil, q => q
  | _, _, _, _, _, _, .cons h t, q => by
    rw [List.append_assoc]
    exact .cons h (t.append q)
theorem RepL.one {A : List Addr} (h : Rep bs H v t A) : RepL bs H [v] [t] A := by
  have := RepL.cons h RepL.nil
  rw [List.append_nil] at this
  exact this
theorem RepL.shs : ∀ {vs : List V} {ds : List PyData}, DqAll (hid bs H) vs ds → RepL bs H vs (ds.map T.sh) []
  | _, _, .nil => .nil
  | _, _, .cons h t => .cons (A := []) (B := []) (.sh h) (RepL.shs t)
/-! slots -/
inductive RelE (b bs : List Addr) (H : Hp) : L2.St → Env → List Addr → Prop
  | nil : RelE b bs H [] [] []
  | no {x : Option V} {σ : L2.St} {ε : Env} {F : List Addr} (h : RelE b bs H σ ε F) : RelE b bs H (x :: σ) (.no :: ε) F
  | box {a : Addr} {σ : L2.St} {ε : Env} {F : List Addr} (e : b = [a]) (h : RelE b bs H σ ε F) : RelE b bs H (some (.ref a) :: σ) (.box :: ε) F
  | is {v : V} {t : T} {A : List Addr} {σ : L2.St} {ε : Env} {F : List Addr} (r : Rep bs H v t A) (h : RelE b bs H σ ε F) : RelE b bs H (some v :: σ) (.is t :: ε) (A ++ F)
  | dic {a : Addr} {kvs : List (Key × V)} {σ : L2.St} {ε : Env} {F : List Addr} (e : H a = some (.dK kvs)) (h : RelE b bs H σ ε F) : RelE b bs H (some (.ref a) :: σ) (.dic kvs :: ε) ([a] ++ F)
  | dcF {a : Addr} {o : Obj} {kvs : List (Int × Int)} {σ : L2.St} {ε : Env} {F : List Addr} (e : hid bs H a = some (.frz o (.dK (kvs.map kvI)))) (h : RelE b bs H σ ε F) : RelE b bs H (some (.ref a) :: σ) (.dcF kvs :: ε) F
  | pin {a : Addr} {σ : L2.St} {ε : Env} {F : List Addr} (h : RelE b bs H σ ε F) : RelE b bs H (some (.ref a) :: σ) (.pin a :: ε) F
theorem RelE.chg (hn : NoTup bs H) (k : Same (hid bs H) (hid cs H')) : ∀ {σ : L2.St} {ε : Env} {F : List Addr}, (∀ a ∈ F, ∀ o, H a = some o → H' a = some o) → RelE b bs H σ ε F → RelE b cs H' σ ε F
  | _, _, _, _, .nil => .nil
  | _, _, _, hF, .no h => .no (RelE.chg hn k hF h)
  | _, _, _, hF, .box e h => .box e (RelE.chg hn k hF h)
  | _, _, _, hF, .is r h => .is (Rep.chg hn k (fun a ha => hF a (List.mem_append_left _ ha)) r) (RelE.chg hn k (fun a ha => hF a (List.mem_append_right _ ha)) h)
  | _, _, _, hF, .dic e h => .dic (hF _ (List.mem_append_left _ (List.mem_singleton.mpr rfl)) _ e) (RelE.chg hn k (fun a ha => hF a (List.mem_append_right _ ha)) h)
  | _, _, _, hF, .dcF e h => .dcF (k _ _ e) (RelE.chg hn k hF h)
  | _, _, _, hF, .pin h => .pin (RelE.chg hn k hF h)
theorem RelE.own : ∀ {σ : L2.St} {ε : Env} {F : List Addr}, RelE b bs H σ ε F → ∀ a ∈ F, Own H a
  | _, _, _, .nil => fun _ z => nomatch z
  | _, _, _, .no h => h.own
  | _, _, _, .box e h => h.own
  | _, _, _, .is r h => fun a ha => by
    rcases List.mem_append.mp ha with ha | ha
    · exact r.own a ha
    · exact h.own a ha
  | _, _, _, .dic e h => fun a ha => by
    rcases List.mem_append.mp ha with ha | ha
    · rw [List.mem_singleton.mp ha]; exact own_dic e
    · exact h.own a ha
  | _, _, _, .dcF _ h => h.own
  | _, _, _, .pin h => h.own
/-- what stands in a slot -/
inductive RepS (b bs : List Addr) (H : Hp) : Option V → Sl → List Addr → Prop
  | no {x : Option V} : RepS b bs H x .no []
  | box {a : Addr} (e : b = [a]) : RepS b bs H (some (.ref a)) .box []
  | is {v : V} {t : T} {A : List Addr} (r : Rep bs H v t A) : RepS b bs H (some v) (.is t) A
  | dic {a : Addr} {kvs : List (Key × V)} (e : H a = some (.dK kvs)) : RepS b bs H (some (.ref a)) (.dic kvs) [a]
  | dcF {a : Addr} {o : Obj} {kvs : List (Int × Int)} (e : hid bs H a = some (.frz o (.dK (kvs.map kvI)))) : RepS b bs H (some (.ref a)) (.dcF kvs) []
  | pin {a : Addr} : RepS b bs H (some (.ref a)) (.pin a) []
theorem RelE.cons {x : Option V} {l : Sl} {A F : List Addr} {σ : L2.St} {ε : Env} (r : RepS b bs H x l A) (h : RelE b bs H σ ε F) : RelE b bs H (x :: σ) (l :: ε) (A ++ F) := by
  cases r with
  | no => exact .no h
  | box e => exact .box e h
  | is r => exact .is r h
  | dic e => exact .dic e h
  | dcF e => exact .dcF e h
  | pin => exact .pin h
/-- one slot taken out, another put in -/
theorem RelE.at : ∀ {σ : L2.St} {ε : Env} {F : List Addr}, RelE b bs H σ ε F → ∀ {i : Nat} {l : Sl}, ε[i]? = some l → ∃ x A F1 F2, σ[i]? = some x ∧ RepS b bs H x l A ∧ F = F1 ++ (A ++ F2) ∧
    ∀ {cs : List Addr} {H' : Hp} {y : Option V} {m : Sl} {B : List Addr}, NoTup bs H → Same (hid bs H) (hid cs H') → (∀ a ∈ F1 ++ F2, ∀ o, H a = some o → H' a = some o) → RepS b cs H' y m B → RelE b cs H' (σ.set i y) (ε.set i m) (F1 ++ (B ++ F2))
  | _, _, _, .nil, i, l, e => by simp at e
  | x :: σ, l' :: ε, F, h, 0, l, e => by
    have e' : l' = l := Option.some.inj e
    subst e'
    have go : ∀ {A F' : List Addr}, RepS b bs H x l' A → RelE b bs H σ ε F' → F = A ++ F' → ∃ x' A F1 F2, (x :: σ)[0]? = some x' ∧ RepS b bs H x' l' A ∧ F = F1 ++ (A ++ F2) ∧
        ∀ {cs : List Addr} {H' : Hp} {y : Option V} {m : Sl} {B : List Addr}, NoTup bs H → Same (hid bs H) (hid cs H') → (∀ a ∈ F1 ++ F2, ∀ o, H a = some o → H' a = some o) → RepS b cs H' y m B → RelE b cs H' ((x :: σ).set 0 y) ((l' :: ε).set 0 m) (F1 ++ (B ++ F2)) := fun {A F'} r h' eF =>
      ⟨x, A, [], F', rfl, r, eF, fun {cs H' y m B} hn k hF rB => by
        show RelE b cs H' (y :: σ) (m :: ε) (B ++ F')
        exact RelE.cons rB (RelE.chg hn k hF h')⟩
    cases h with
    | no h => exact go .no h rfl
    | box e2 h => exact go (.box e2) h rfl
    | is r h => exact go (.is r) h rfl
    | dic e2 h => exact go (.dic e2) h rfl
    | dcF e2 h => exact go (.dcF e2) h rfl
    | pin h => exact go .pin h rfl
  | x :: σ, l' :: ε, F, h, i + 1, l, e => by
    have go : ∀ {A F' : List Addr}, RepS b bs H x l' A → RelE b bs H σ ε F' → F = A ++ F' → ∃ x' A F1 F2, (x :: σ)[i + 1]? = some x' ∧ RepS b bs H x' l A ∧ F = F1 ++ (A ++ F2) ∧
        ∀ {cs : List Addr} {H' : Hp} {y : Option V} {m : Sl} {B : List Addr}, NoTup bs H → Same (hid bs H) (hid cs H') → (∀ a ∈ F1 ++ F2, ∀ o, H a = some o → H' a = some o) → RepS b cs H' y m B → RelE b cs H' ((x :: σ).set (i + 1) y) ((l' :: ε).set (i + 1) m) (F1 ++ (B ++ F2)) := fun {A F'} r h' eF => by
      obtain ⟨x', A2, F1, F2, q1, q2, q3, q4⟩ := h'.at (i := i) (l := l) e
      refine ⟨x', A2, A ++ F1, F2, q1, q2, by rw [eF, q3, List.append_assoc], fun {cs H' y m B} hn k hF rB => ?_⟩
      rw [List.append_assoc]
      refine RelE.cons ?_ (q4 hn k (fun a ha => hF a (by rw [List.append_assoc]; exact List.mem_append_right _ ha)) rB)
      cases r with
      | no => exact .no
      | box e2 => exact .box e2
      | is r => exact .is (Rep.chg hn k (fun a ha => hF a (by rw [List.append_assoc]; exact List.mem_append_left _ ha)) r)
      | dic e2 => exact .dic (hF _ (by rw [List.append_assoc]; exact List.mem_append_left _ (List.mem_singleton.mpr rfl)) _ e2)
      | dcF e2 => exact .dcF (k _ _ e2)
      | pin => exact .pin
    cases h with
    | no h => exact go .no h rfl
    | box e2 h => exact go (.box e2) h rfl
    | is r h => exact go (.is r) h rfl
    | dic e2 h => exact go (.dic e2) h rfl
    | dcF e2 h => exact go (.dcF e2) h rfl
    | pin h => exact go .pin h rfl
theorem RelE.len : ∀ {σ : L2.St} {ε : Env} {F : List Addr}, RelE b bs H σ ε F → σ.length = ε.length
  | _, _, _, .nil => rfl
  | _, _, _, .no h => by rw [List.length_cons, List.length_cons, h.len]
  | _, _, _, .box _ h => by rw [List.length_cons, List.length_cons, h.len]
  | _, _, _, .is _ h => by rw [List.length_cons, List.length_cons, h.len]
  | _, _, _, .dic _ h => by rw [List.length_cons, List.length_cons, h.len]
  | _, _, _, .dcF _ h => by rw [List.length_cons, List.length_cons, h.len]
  | _, _, _, .pin h => by rw [List.length_cons, List.length_cons, h.len]
theorem set_beyond {α : Type} : ∀ {xs : List α} {i : Nat} {x : α}, xs[i]? = none → xs.set i x = xs
  | [], _, _, _ => rfl
  | _ :: _, 0, _, h => by cases h
  | y :: ys, i + 1, x, h => by
    show y :: ys.set i x = y :: ys
    rw [set_beyond (xs := ys) h]
end
end Cg

set_option Elab.async false
set_option linter.all false
set_option maxRecDepth 100000
set_option maxHeartbeats 1000000
namespace Cg
open PySem PySem.Spec PyProof.Rows L2 Evl
/-! ### slots by value and slots as they are: b the box, bs what is hidden, P what is pinned, F what the slots own -/
structure Base where
  b : List Addr
  bs0 : List Addr
  P : Hp
  V : Hp
structure Rel (c : Base) (bs F : List Addr) (σ : L2.St) (H : Hp) (ε : Env) (N : Nat) : Prop where
  env : RelE c.b bs H σ ε F
  nd : F.Nodup
  sub : ∀ a ∈ F, a ∈ bs
  off : ∀ a ∈ F, c.P a = none
  nb : ∀ a ∈ F, a ∉ c.bs0
  up : ∀ a ∈ c.bs0, a ∈ bs
  bb : ∀ a ∈ c.b, a ∈ c.bs0
  offb : ∀ a ∈ c.b, c.P a = none
  live : Live bs H
  nt : NoTup bs H
  box : ∀ a ∈ c.b, Box H a N
  pin : Same c.P H
  vis : Same c.V (hid bs H)
/-- only the box was changed -/
structure Out (c : Base) (H H' : Hp) (N : Nat) : Prop where
  keep : Keep c.b H H'
  box : ∀ a ∈ c.b, Box H' a N
section
variable {c : Base} {bs F A B hs : List Addr} {σ : L2.St} {H H' H1 H2 : Hp} {ε : Env} {N N' N1 N2 : Nat} {v : V} {t : T} {d : PyData}
theorem Out.trans (o : Out c H H1 N1) (p : Out c H1 H2 N2) : Out c H H2 N2 := ⟨o.keep.trans p.keep, p.box⟩
theorem Out.ext (o : Out c H H1 N1) (e : Same H1 H2) : Out c H H2 N1 := ⟨o.keep.ext e, fun a ha => (o.box a ha).mono e⟩
theorem Rel.self (r : Rel c bs F σ H ε N) : Out c H H N := ⟨Keep.refl _ _, r.box⟩
theorem Rel.ofSame (r : Rel c bs F σ H ε N) (e : Same H H') : Out c H H' N := r.self.ext e
theorem Rel.bin (r : Rel c bs F σ H ε N) : ∀ a ∈ c.b, a ∈ bs := fun a ha => r.up a (r.bb a ha)
theorem Rel.fb (r : Rel c bs F σ H ε N) : ∀ a ∈ F, a ∉ c.b := fun a ha z => r.nb a ha (r.bb a z)
theorem box_tup {a : Addr} {xs : List V} (h : Box H a N) : H a ≠ some (.tup xs) := fun z => by
  obtain ⟨_, _, _, e, _⟩ := h
  rw [e] at z
  cases z
/-- what is live and kept stands -/
theorem out_get {a : Addr} {o : HO} (k : Out c H H' N) (hb : a ∉ c.b) (e : H a = some o) : H' a = some o := k.keep.get hb e
theorem out_live (k : Out c H H' N) (l : Live bs H) : Live bs H' := fun a ha => by
  by_cases hb : a ∈ c.b
  · exact (k.box a hb).is
  · cases e : H a with
    | none => exact absurd e (l a ha)
    | some o => rw [out_get k hb e]; exact fun z => nomatch z
theorem out_notup (k : Out c H H' N) (l : Live bs H) (n : NoTup bs H) : NoTup bs H' := fun a ha xs z => by
  by_cases hb : a ∈ c.b
  · exact box_tup (k.box a hb) z
  · cases e : H a with
    | none => exact l a ha e
    | some o =>
      rw [out_get k hb e] at z
      exact n a ha xs (e.trans z)
theorem out_keep (k : Out c H H' N) (h : ∀ a ∈ c.b, a ∈ bs) : Keep bs H H' := k.keep.more h
theorem Rel.out (r : Rel c bs F σ H ε N) (k : Out c H H' N') : Rel c bs F σ H' ε N' where
  env := RelE.chg r.nt (out_keep k r.bin) (fun a ha o e => out_get k (r.fb a ha) e) r.env
  nd := r.nd
  sub := r.sub
  off := r.off
  nb := r.nb
  up := r.up
  bb := r.bb
  offb := r.offb
  live := out_live k r.live
  nt := out_notup k r.live r.nt
  box := k.box
  pin := fun a o e => out_get k (fun z => by rw [r.offb a z] at e; cases e) (r.pin a o e)
  vis := r.vis.trans (out_keep k r.bin)
theorem Rel.ext (r : Rel c bs F σ H ε N) (e : Same H H') : Rel c bs F σ H' ε N := r.out (r.ofSame e)
/-- something that is its own, new since H0 -/
structure Nw (bs A : List Addr) (H0 H : Hp) (v : V) (t : T) : Prop where
  rep : Rep (A ++ bs) H v t A
  nd : A.Nodup
  new : ∀ a ∈ A, H0 a = none
structure NwL (bs A : List Addr) (H0 H : Hp) (vs : List V) (ts : List T) : Prop where
  rep : RepL (A ++ bs) H vs ts A
  nd : A.Nodup
  new : ∀ a ∈ A, H0 a = none
theorem own_notup (h : ∀ a ∈ A, Own H a) (n : NoTup bs H) : NoTup (A ++ bs) H := fun a ha xs z => by
  rcases List.mem_append.mp ha with ha | ha
  · obtain ⟨o, e, no⟩ := h a ha
    rw [e] at z
    exact no xs (Option.some.inj z)
  · exact n a ha xs z
theorem own_live (h : ∀ a ∈ A, Own H a) (l : Live bs H) : Live (A ++ bs) H := fun a ha => by
  rcases List.mem_append.mp ha with ha | ha
  · obtain ⟨ys, e, _⟩ := h a ha
    rw [e]
    exact fun z => nomatch z
  · exact l a ha
theorem Nw.sh (h : Dq (hid bs H') v d) : Nw bs [] H H' v (.sh d) := ⟨.sh h, List.nodup_nil, fun _ z => nomatch z⟩
theorem Nw.data (n : Nw bs A H H' v t) (l : Live bs H) (m : NoTup bs H') : Dq (hid bs H') v t.data :=
  Rep.data m (fun a ha => List.mem_append_right _ ha) (fun a ha z => l a z (n.new a ha)) n.rep
theorem NwL.datas {vs : List V} {ts : List T} (n : NwL bs A H H' vs ts) (l : Live bs H) (m : NoTup bs H') : DqAll (hid bs H') vs (T.datas ts) :=
  RepL.datas m (fun a ha => List.mem_append_right _ ha) (fun a ha z => l a z (n.new a ha)) n.rep
/-- visible stays visible while new ones are hidden -/
theorem vis_step (k : Out c H1 H2 N) (hb : ∀ a ∈ c.b, a ∈ bs) (hB : ∀ a ∈ B, H1 a = none) : Same (hid bs H1) (hid (B ++ bs) H2) := fun a o e => by
  obtain ⟨h1, h2⟩ := hid_some e
  have h3 : a ∉ B ++ bs := fun z => by
    rcases List.mem_append.mp z with z | z
    · rw [hB a z] at h2; cases h2
    · exact h1 z
  rw [hid_out h3]
  exact out_get k (fun z => h1 (hb a z)) h2
theorem Nw.step (n : Nw bs A H H1 v t) (k : Out c H1 H2 N) (l : Live bs H) (m : NoTup bs H1) (hb : ∀ a ∈ c.b, a ∈ bs) : Nw bs A H H2 v t := by
  have nb : ∀ a ∈ A, a ∉ c.b := fun a ha z => l a (hb a z) (n.new a ha)
  exact ⟨Rep.chg (own_notup n.rep.own m) (out_keep k fun a ha => List.mem_append_right _ (hb a ha)) (fun a ha o e => out_get k (nb a ha) e) n.rep, n.nd, n.new⟩
theorem NwL.step {vs : List V} {ts : List T} (n : NwL bs A H H1 vs ts) (k : Out c H1 H2 N) (l : Live bs H) (m : NoTup bs H1) (hb : ∀ a ∈ c.b, a ∈ bs) : NwL bs A H H2 vs ts := by
  have nb : ∀ a ∈ A, a ∉ c.b := fun a ha z => l a (hb a z) (n.new a ha)
  exact ⟨RepL.chg (own_notup n.rep.own m) (out_keep k fun a ha => List.mem_append_right _ (hb a ha)) (fun a ha o e => out_get k (nb a ha) e) n.rep, n.nd, n.new⟩
theorem NwL.nil : NwL bs [] H H' [] [] := ⟨.nil, List.nodup_nil, fun _ z => nomatch z⟩
/-- new ones side by side: the first stood when the second came -/
theorem side {A B : List Addr} {H1 : Hp} (ha : ∀ a ∈ A, H1 a ≠ none) (hb : ∀ a ∈ B, H1 a = none) : ∀ a ∈ A, a ∉ B := fun a h z => ha a h (hb a z)
theorem nodup_app {A B : List Addr} (hA : A.Nodup) (hB : B.Nodup) (h : ∀ a ∈ A, a ∉ B) : (A ++ B).Nodup := List.nodup_append.mpr ⟨hA, hB, fun a ha b hb e => h a ha (e ▸ hb)⟩
theorem own_some {A : List Addr} (h : ∀ a ∈ A, Own H a) : ∀ a ∈ A, H a ≠ none := fun a ha => by
  obtain ⟨xs, e, _⟩ := h a ha
  rw [e]
  exact fun z => nomatch z
theorem hid_perm {cs : List Addr} (h : ∀ a, a ∈ cs → a ∈ bs) : Same (hid bs H) (hid cs H) := hid_less h
theorem Rep.perm {cs : List Addr} (n : NoTup bs H) (h : ∀ a, a ∈ cs → a ∈ bs) (r : Rep bs H v t A) : Rep cs H v t A := Rep.chg n (hid_perm h) (fun _ _ _ e => e) r
theorem RepL.perm {vs : List V} {ts : List T} {cs : List Addr} (n : NoTup bs H) (h : ∀ a, a ∈ cs → a ∈ bs) (r : RepL bs H vs ts A) : RepL cs H vs ts A := RepL.chg n (hid_perm h) (fun _ _ _ e => e) r
/-- the slots, with more hidden that is new -/
theorem Rel.hide (r : Rel c bs F σ H ε N) (k : Out c H H1 N1) (hA : ∀ a ∈ A, H a = none) (ho : ∀ a ∈ A, Own H1 a) : Rel c (A ++ bs) F σ H1 ε N1 where
  env := RelE.chg r.nt (vis_step k r.bin hA) (fun a ha o e => out_get k (r.fb a ha) e) r.env
  nd := r.nd
  sub := fun a ha => List.mem_append_right _ (r.sub a ha)
  off := r.off
  nb := r.nb
  up := fun a ha => List.mem_append_right _ (r.up a ha)
  bb := r.bb
  offb := r.offb
  live := own_live ho (out_live k r.live)
  nt := own_notup ho (out_notup k r.live r.nt)
  box := k.box
  pin := (r.out k).pin
  vis := r.vis.trans (vis_step k r.bin hA)
theorem NwL.snoc {vs : List V} {ts : List T} {B : List Addr} (r : Rel c bs F σ H ε N) (k1 : Out c H H1 N1) (n : NwL bs A H H1 vs ts) (k : Out c H1 H2 N2) (q : Nw (A ++ bs) B H1 H2 v t) : NwL bs (A ++ B) H H2 (vs ++ [v]) (ts ++ [t]) := by
  have r1 := r.hide k1 n.new n.rep.own
  have nb : ∀ a ∈ A, a ∉ c.b := fun a ha z => r.live a (r.bin a z) (n.new a ha)
  have hAB := side (own_some n.rep.own) q.new
  have hk : ∀ a, H1 a = none → H a = none := fun a e => by
    by_cases hb : a ∈ c.b
    · exact absurd e (k1.box a hb).is
    · cases e2 : H a with
      | none => rfl
      | some o => rw [out_get k1 hb e2] at e; cases e
  have e1 : Same (hid (A ++ bs) H1) (hid (A ++ B ++ bs) H2) := fun a o e => by
    have := vis_step (bs := A ++ bs) k (fun a ha => List.mem_append_right _ (r.bin a ha)) q.new a o e
    obtain ⟨h1, h2⟩ := hid_some this
    rw [hid_out fun z => h1 ?_]
    · exact h2
    · rcases List.mem_append.mp z with z | z
      · rcases List.mem_append.mp z with z | z
        · exact List.mem_append_right _ (List.mem_append_left _ z)
        · exact List.mem_append_left _ z
      · exact List.mem_append_right _ (List.mem_append_right _ z)
  have ra : RepL (A ++ B ++ bs) H2 vs ts A := RepL.chg r1.nt e1 (fun a ha o e => out_get k (nb a ha) e) n.rep
  have r2 := r1.hide k q.new q.rep.own
  have rb : Rep (A ++ B ++ bs) H2 v t B := Rep.perm r2.nt (fun a z => by
    rcases List.mem_append.mp z with z | z
    · rcases List.mem_append.mp z with z | z
      · exact List.mem_append_right _ (List.mem_append_left _ z)
      · exact List.mem_append_left _ z
    · exact List.mem_append_right _ (List.mem_append_right _ z)) q.rep
  exact ⟨ra.append (RepL.one rb), nodup_app n.nd q.nd hAB, fun a ha => (List.mem_append.mp ha).elim (n.new a) fun h => hk a (q.new a h)⟩
theorem nodup_mid {F1 A B F2 : List Addr} (h : (F1 ++ (A ++ F2)).Nodup) (hB : B.Nodup) (h1 : ∀ a ∈ B, a ∉ F1 ∧ a ∉ F2) : (F1 ++ (B ++ F2)).Nodup := by
  obtain ⟨n1, n2, n3⟩ := List.nodup_append.mp h
  obtain ⟨_, n5, _⟩ := List.nodup_append.mp n2
  refine nodup_app n1 (nodup_app hB n5 fun a ha => (h1 a ha).2) fun a ha z => ?_
  rcases List.mem_append.mp z with z | z
  · exact (h1 a z).1 ha
  · exact n3 a ha a (List.mem_append_right _ z) rfl
/-- a slot set -/
theorem Rel.set {i : Nat} (r : Rel c bs F σ H ε N) (k : Out c H H1 N1) (n : Nw bs A H H1 v t) : ∃ F', Rel c (A ++ bs) F' (σ.set i (some v)) H1 (ε.set i (.is t)) N1 := by
  have r1 := r.hide k n.new n.rep.own
  cases hl : ε[i]? with
  | none =>
    have hs : σ[i]? = none := by
      rw [List.getElem?_eq_none_iff] at hl ⊢
      rw [r.env.len]
      exact hl
    rw [set_beyond hl, set_beyond hs]
    exact ⟨F, r1⟩
  | some l =>
    obtain ⟨x, A0, F1, F2, q1, q2, rfl, q4⟩ := r1.env.at hl
    have hm : ∀ a ∈ F1 ++ (A ++ F2), a ∈ F1 ++ (A0 ++ F2) ∨ a ∈ A := fun a ha => by
      rcases List.mem_append.mp ha with h | h
      · exact .inl (List.mem_append_left _ h)
      · rcases List.mem_append.mp h with h | h
        · exact .inr h
        · exact .inl (List.mem_append_right _ (List.mem_append_right _ h))
    have hA : ∀ a ∈ A, a ∉ F1 ++ (A0 ++ F2) := fun a ha z => r.live a (r.sub a z) (n.new a ha)
    refine ⟨F1 ++ (A ++ F2), q4 r1.nt (Same.refl _) (fun _ _ _ e => e) (.is n.rep), nodup_mid r.nd n.nd fun a ha => ⟨fun z => hA a ha (List.mem_append_left _ z), fun z => hA a ha (List.mem_append_right _ (List.mem_append_right _ z))⟩, fun a ha => ?_, fun a ha => ?_, fun a ha => ?_, r1.up, r1.bb, r1.offb, r1.live, r1.nt, r1.box, r1.pin, r1.vis⟩
    · rcases hm a ha with h | h
      · exact r1.sub a h
      · exact List.mem_append_left _ h
    · rcases hm a ha with h | h
      · exact r1.off a h
      · cases e : c.P a with
        | none => rfl
        | some o =>
          have := r.pin a o e
          rw [n.new a h] at this
          cases this
    · rcases hm a ha with h | h
      · exact r1.nb a h
      · exact fun z => r.live a (r.up a z) (n.new a h)
/-! ### expressions -/
abbrev WE := Env → Nat → (PyData → Nat → Prop) → Prop
abbrev WB := Env → Nat → (Bool → Nat → Prop) → Prop
abbrev WA := Env → Nat → (List PyData → Nat → Prop) → Prop
abbrev WT := Env → Nat → (T → Nat → Prop) → Prop
abbrev WTs := Env → Nat → (List T → Nat → Prop) → Prop
def SimE (te : TE) (we : WE) : Prop := ∀ {c : Base} {bs F : List Addr} {σ : L2.St} {H : Hp} {ε : Env} {N : Nat} {R : PyData → Nat → Prop} {Q : VK}, Rel c bs F σ H ε N → we ε N R → (∀ v d N' H', R d N' → Out c H H' N' → Dq (hid bs H') v d → Q v H') → te σ H Q
def SimB (te : TT) (we : WB) : Prop := ∀ {c : Base} {bs F : List Addr} {σ : L2.St} {H : Hp} {ε : Env} {N : Nat} {R : Bool → Nat → Prop} {Q : Bool → Hp → Prop}, Rel c bs F σ H ε N → we ε N R → (∀ b N' H', R b N' → Out c H H' N' → Q b H') → te σ H Q
def SimA (te : TA) (we : WA) : Prop := ∀ {c : Base} {bs F : List Addr} {σ : L2.St} {H : Hp} {ε : Env} {N : Nat} {R : List PyData → Nat → Prop} {Q : List V → Hp → Prop}, Rel c bs F σ H ε N → we ε N R → (∀ vs ds N' H', R ds N' → Out c H H' N' → DqAll (hid bs H') vs ds → Q vs H') → te σ H Q
def SimT (te : TE) (we : WT) : Prop := ∀ {c : Base} {bs F : List Addr} {σ : L2.St} {H : Hp} {ε : Env} {N : Nat} {R : T → Nat → Prop} {Q : VK}, Rel c bs F σ H ε N → we ε N R → (∀ v t A N' H', R t N' → Out c H H' N' → Nw bs A H H' v t → Q v H') → te σ H Q
def SimTs (te : TA) (we : WTs) : Prop := ∀ {c : Base} {bs F : List Addr} {σ : L2.St} {H : Hp} {ε : Env} {N : Nat} {R : List T → Nat → Prop} {Q : List V → Hp → Prop}, Rel c bs F σ H ε N → we ε N R → (∀ vs ts A N' H', R ts N' → Out c H H' N' → NwL bs A H H' vs ts → Q vs H') → te σ H Q
theorem out_dq (k : Out c H H' N) (hb : ∀ a ∈ c.b, a ∈ bs) (h : Dq (hid bs H) v d) : Dq (hid bs H') v d := h.mono (out_keep k hb)
theorem out_dqs {vs : List V} {ds : List PyData} (k : Out c H H' N) (hb : ∀ a ∈ c.b, a ∈ bs) (h : DqAll (hid bs H) vs ds) : DqAll (hid bs H') vs ds := h.mono (out_keep k hb)
end
/-- data, freshly shared -/
def wSh (we : WE) : WT := fun ε N R => we ε N fun d N' => R (.sh d) N'
theorem sim_sh {te : TE} {we : WE} (h : SimE te we) : SimT te (wSh we) := fun r w q => h r w fun v d N' H' hR o hd => q v (.sh d) [] N' H' hR o (.sh hd)
def wFz (wt : WT) : WE := fun ε N R => wt ε N fun t N' => R t.data N'
theorem sim_fz {te : TE} {wt : WT} (h : SimT te wt) : SimE te (wFz wt) := fun r w q => h r w fun v t A N' H' hR o n => q v t.data N' H' hR o (n.data r.live (out_notup o r.live r.nt))
/-! ### the view: all slots as data -/
def Sl.view : Sl → Sl
  | .is t => .is (.sh t.data)
  | .dic _ => .no
  | .dcF _ => .no
  | .pin _ => .no
  | l => l
def viewE (ε : Env) : Env := ε.map Sl.view
section
variable {c : Base} {bs F A : List Addr} {σ : L2.St} {H H' : Hp} {ε : Env} {N N' : Nat}
theorem view_env (hn : NoTup c.b H) (hc : ∀ a ∈ c.b, a ∈ bs) : ∀ {σ : L2.St} {ε : Env} {F : List Addr}, (∀ a ∈ F, a ∉ c.b) → RelE c.b bs H σ ε F → RelE c.b c.b H σ (viewE ε) []
  | _, _, _, _, .nil => .nil
  | _, _, _, hF, .no h => .no (view_env hn hc hF h)
  | _, _, _, hF, .box e h => .box e (view_env hn hc hF h)
  | _, _, _, hF, .is r h => RelE.is (A := []) (.sh (Rep.data hn hc (fun a ha => hF a (List.mem_append_left _ ha)) r)) (view_env hn hc (fun a ha => hF a (List.mem_append_right _ ha)) h)
  | _, _, _, hF, .dic e h => .no (view_env hn hc (fun a ha => hF a (List.mem_append_right _ ha)) h)
  | _, _, _, hF, .dcF e h => .no (view_env hn hc hF h)
  | _, _, _, hF, .pin h => .no (view_env hn hc hF h)
theorem Rel.view (r : Rel c bs F σ H ε N) : Rel { c with bs0 := c.b } c.b [] σ H (viewE ε) N where
  env := view_env (fun a ha => r.nt a (r.bin a ha)) r.bin r.fb r.env
  nd := List.nodup_nil
  sub := fun _ z => nomatch z
  off := fun _ z => nomatch z
  nb := fun _ z => nomatch z
  up := fun _ h => h
  bb := fun _ h => h
  offb := r.offb
  live := fun a ha => r.live a (r.bin a ha)
  nt := fun a ha => r.nt a (r.bin a ha)
  box := r.box
  pin := r.pin
  vis := r.vis.trans (hid_less r.bin)
end
/-- data without lists, from the view -/
def wVw (we : WE) : WE := fun ε N R => we (viewE ε) N fun d N' => imm d = true ∧ R d N'
theorem sim_vw {te : TE} {we : WE} (h : SimE te we) : SimE te (wVw we) := fun r w q => h r.view w fun v d N' H' hR o hd =>
  q v d N' H' hR.2 ⟨o.keep, o.box⟩ (dq_imm (out_notup ⟨o.keep, o.box⟩ r.live r.nt) (dq_vis hd) hR.1)
/-- a truth, from the view -/
def wVb (we : WB) : WB := fun ε N R => we (viewE ε) N R
theorem sim_vb {te : TT} {we : WB} (h : SimB te we) : SimB te (wVb we) := fun r w q => h r.view w fun b N' H' hR o => q b N' H' hR ⟨o.keep, o.box⟩
/-- something new that is clean, from the view -/
def wVt (wt : WT) : WT := fun ε N R => wt (viewE ε) N fun t N' => t.clean = true ∧ R t N'
theorem sim_vt {te : TE} {wt : WT} (h : SimT te wt) : SimT te (wVt wt) := fun {c bs F σ H ε N R Q} r w q => h r.view w fun v t A N' H' hR o n => by
  have o' : Out c H H' N' := ⟨o.keep, o.box⟩
  refine q v t A N' H' hR.2 o' ⟨Rep.clean (own_notup n.rep.own (out_notup o' r.live r.nt)) n.rep hR.1, n.nd, n.new⟩
end Cg

set_option Elab.async false
set_option linter.all false
set_option maxRecDepth 100000
set_option maxHeartbeats 1000000
namespace Cg
open PySem PySem.Spec PyProof.Rows L2 Evl
/-! ### names, constants, arguments -/
def wVar (i : Nat) : WE := fun ε N R => match ε[i]? with
  | some (.is (.sh d)) => R d N
  | _ => False
def wC (d : PyData) : WE := fun _ N R => R d N
section
variable {ta tb tc te : TE} {wa wb wc we : WE} {t u : TT} {w w' : WB} {tas : TA} {was : WA}
theorem sim_var {i : Nat} : SimE (tVar i) (wVar i) := fun {c bs F σ H ε N R Q} r h q => by
  have h' : (match ε[i]? with | some (.is (.sh d)) => R d N | _ => False) := h
  split at h'
  · rename_i d e
    obtain ⟨x, A, F1, F2, hx, hr, _, _⟩ := r.env.at e
    cases hr with
    | is hr => cases hr with
      | sh hd => exact ⟨_, hx, q _ d N H h' r.self hd⟩
  · exact h'.elim
theorem sim_int {i : Int} : SimE (tC (.int i)) (wC (.int i)) := fun r h q => q _ _ _ _ h r.self (.int i)
theorem sim_bl {b : Bool} : SimE (tC (.bl b)) (wC (.bool b)) := fun r h q => q _ _ _ _ h r.self (.bl b)
theorem sim_non : SimE (tC .non) (wC .none) := fun r h q => q _ _ _ _ h r.self .non
def wNil : WA := fun _ N R => R [] N
def wCons (we : WE) (wa : WA) : WA := fun ε N R => we ε N fun d N1 => wa ε N1 fun ds N2 => R (d :: ds) N2
theorem sim_nil : SimA tNil wNil := fun r h q => q _ _ _ _ h r.self .nil
theorem sim_cons (h : SimE te we) (k : SimA tas was) : SimA (tCons te tas) (wCons we was) := fun r w q => h r w fun v d N1 H1 w1 o1 hd => k (r.out o1) w1 fun vs ds N2 H2 w2 o2 hds => q (v :: vs) (d :: ds) N2 H2 w2 (o1.trans o2) (.cons (out_dq o2 r.bin hd) hds)
/-! ### operators -/
abbrev O2 := PyData → PyData → (PyData → Prop) → Prop
def OpD (r : R2) (o : O2) : Prop := ∀ {hs : List Addr} {H : Hp} {x y : V} {d e : PyData} {S : PyData → Prop} {Q : VK}, Live hs H → Dq (hid hs H) x d → Dq (hid hs H) y e → o d e S → (∀ z f H', S f → Same H H' → Dq (hid hs H') z f → Q z H') → r x y H Q
def wOp (o : O2) (wa wb : WE) : WE := fun ε N R => wa ε N fun d N1 => wb ε N1 fun e N2 => o d e fun f => R f N2
theorem sim_op {r : R2} {o : O2} (ho : OpD r o) (ha : SimE ta wa) (hb : SimE tb wb) : SimE (tOp r ta tb) (wOp o wa wb) := fun rl w q => ha rl w fun v d N1 H1 w1 o1 hd => hb (rl.out o1) w1 fun u e N2 H2 w2 o2 he =>
  ho (out_live (o1.trans o2) rl.live) (out_dq o2 rl.bin hd) he w2 fun z f H3 hS e3 hz => q z f N2 H3 hS ((o1.trans o2).ext e3) hz
theorem OpD.or {r r' : R2} {o o' : O2} (h : OpD r o) (h' : OpD r' o') : OpD (fun x y H Q => r x y H Q ∨ r' x y H Q) (fun d e S => o d e S ∨ o' d e S) := fun l hx hy w q => w.elim (fun w => .inl (h l hx hy w q)) fun w => .inr (h' l hx hy w q)
theorem OpD.imp {r : R2} {o o' : O2} (h : OpD r o) (k : ∀ d e S, o' d e S → o d e S) : OpD r o' := fun l hx hy w q => h l hx hy (k _ _ _ w) q
theorem OpD.weak {r r' : R2} {o : O2} (h : OpD r o) (k : ∀ x y H Q, r x y H Q → r' x y H Q) : OpD r' o := fun l hx hy w q => k _ _ _ _ (h l hx hy w q)
def oI (C : Int → Int → Prop) (g : Int → Int → PyData) : O2
  | .int i, .int j, S => C i j ∧ S (g i j)
  | _, _, _ => False
def oI0 (g : Int → Int → PyData) : O2
  | .int i, .int j, S => S (g i j)
  | _, _, _ => False
theorem od_I0 {g : Int → Int → V} {g' : Int → Int → PyData} (h : ∀ (H : Hp) i j, Dq H (g i j) (g' i j)) : OpD (rI0 g) (oI0 g') := fun {hs H x y d e S Q} l hx hy w q => by
  cases hx <;> cases hy <;> first | exact False.elim w | exact ⟨_, _, rfl, rfl, q _ _ H w (Same.refl _) (h _ _ _)⟩
theorem od_I {C : Int → Int → Prop} {g : Int → Int → V} {g' : Int → Int → PyData} (h : ∀ (H : Hp) i j, Dq H (g i j) (g' i j)) : OpD (rI C g) (oI C g') := fun {hs H x y d e S Q} l hx hy w q => by
  cases hx <;> cases hy <;> first | exact False.elim w | exact ⟨_, _, rfl, rfl, w.1, q _ _ H w.2 (Same.refl _) (h _ _ _)⟩
abbrev oSub : O2 := oI0 fun i j => .int (i - j)
abbrev oMod : O2 := oI (fun _ j => 0 < j) fun i j => .int (i % j)
abbrev oLt : O2 := oI0 fun i j => .bool (decide (i < j))
abbrev oLe : O2 := oI0 fun i j => .bool (decide (i ≤ j))
abbrev oGt : O2 := oI0 fun i j => .bool (decide (j < i))
abbrev oMulI : O2 := oI CMul fun i j => .int (i * j)
abbrev oAddI : O2 := oI0 fun i j => .int (i + j)
theorem od_sub : OpD (rI0 fun i j => .int (i - j)) oSub := od_I0 fun _ _ _ => .int _
theorem od_mod : OpD (rI (fun _ j => 0 < j) fun i j => .int (i % j)) oMod := od_I fun _ _ _ => .int _
theorem od_lt : OpD (rI0 fun i j => .bl (decide (i < j))) oLt := od_I0 fun _ _ _ => .bl _
theorem od_le : OpD (rI0 fun i j => .bl (decide (i ≤ j))) oLe := od_I0 fun _ _ _ => .bl _
theorem od_gt : OpD (rI0 fun i j => .bl (decide (j < i))) oGt := od_I0 fun _ _ _ => .bl _
theorem od_mulI : OpD (rI CMul fun i j => .int (i * j)) oMulI := od_I fun _ _ _ => .int _
theorem od_addI : OpD (rI0 fun i j => .int (i + j)) oAddI := od_I0 fun _ _ _ => .int _
/-! new lists -/
/-- r gives a new list of what o tells -/
def OpN (r : R2) (o : PyData → PyData → (List PyData → Prop) → Prop) : Prop := ∀ {hs : List Addr} {H : Hp} {x y : V} {d e : PyData} {S : List PyData → Prop} {Q : VK}, Live hs H → Dq (hid hs H) x d → Dq (hid hs H) y e → o d e S → (∀ p xs ds, S ds → H p = none → DqAll (hid hs H) xs ds → Q (.ref p) (upd H p (.lst xs))) → r x y H Q
theorem OpN.d {r : R2} {o : PyData → PyData → (List PyData → Prop) → Prop} (h : OpN r o) : OpD r (fun d e S => o d e fun ds => S (.list ds)) := fun {hs H x y d e S Q} l hx hy w q => h l hx hy w fun p xs ds hS np hd =>
  q _ _ _ hS (Ex.new np) (.lst (by rw [hid_out (l.out np), upd_same]) (hd.mono (same_hid (Ex.new np))))
def oCat : PyData → PyData → (List PyData → Prop) → Prop
  | .list a, .list b, S => a.length + b.length ≤ 1000000 ∧ S (a ++ b)
  | _, _, _ => False
theorem on_cat : OpN rCat oCat := fun {hs H x y d e S Q} l hx hy w q => by
  cases hx <;> cases hy <;> first | exact False.elim w | skip
  rename_i a xs ds e1 h1 a2 xs2 ds2 e2 h2
  exact ⟨_, _, _, _, rfl, rfl, (hid_some e1).2, (hid_some e2).2, by rw [h1.len, h2.len]; exact Nat.le_trans w.1 (by decide), fun p np => q p _ _ w.2 np (h1.append h2)⟩
def oRep : PyData → PyData → (List PyData → Prop) → Prop
  | .list a, .int k, S => (0 ≤ k ∧ k ≤ 1000000 ∧ a.length * k.toNat ≤ 1000000) ∧ S (List.replicate k.toNat a).flatten
  | _, _, _ => False
theorem on_rep : OpN rRep oRep := fun {hs H x y d e S Q} l hx hy w q => by
  cases hx <;> cases hy <;> first | exact False.elim w | skip
  rename_i a xs ds e1 h1 i
  have hk : 0 ≤ i ∧ i ≤ 1000000 := ⟨w.1.1, w.1.2.1⟩
  exact ⟨_, _, _, rfl, rfl, (hid_some e1).2, by omega, by omega, by rw [h1.len]; exact Nat.le_trans w.1.2.2 (by decide), fun p np => q p _ _ w.2 np (h1.flat _)⟩
def oAdd : O2
  | .int i, .int j, S => S (.int (i + j))
  | .list a, .list b, S => a.length + b.length ≤ 1000000 ∧ S (.list (a ++ b))
  | .str a, .str b, S => a.length + b.length ≤ 1000000 ∧ S (.str (a ++ b))
  | _, _, _ => False
def rStrs : R2 := fun x y H Q => ∃ i j, x = .str i ∧ y = .str j ∧ i.length + j.length ≤ sizeLine ∧ Q (.str (i ++ j)) H
def rAddU : R2 := fun x y H Q => (rI0 fun i j => .int (i + j)) x y H Q ∨ rCat x y H Q ∨ rStrs x y H Q
theorem op_addU {X : Cx} : OpR X (binaryOp .Add) rAddU := op_add.or (op_cat.or op_add_str)
theorem od_add : OpD rAddU oAdd := fun {hs H x y d e S Q} l hx hy w q => by
  cases d <;> cases e <;> first | exact False.elim w | skip
  · exact .inl (od_addI l hx hy w q)
  · obtain ⟨w1, w2⟩ := w
    cases hx
    cases hy
    exact .inr (.inr ⟨_, _, rfl, rfl, Nat.le_trans w1 (by decide), q _ _ H w2 (Same.refl _) (.str _)⟩)
  · exact .inr (.inl (on_cat.d l hx hy w q))
def oMul : O2
  | .int i, .int j, S => CMul i j ∧ S (.int (i * j))
  | .list a, .int k, S => (0 ≤ k ∧ k ≤ 1000000 ∧ a.length * k.toNat ≤ 1000000) ∧ S (.list (List.replicate k.toNat a).flatten)
  | _, _, _ => False
def rMulU : R2 := fun x y H Q => (rI CMul fun i j => .int (i * j)) x y H Q ∨ rRep x y H Q
theorem op_mulU {X : Cx} : OpR X (binaryOp .Mult) rMulU := op_mul.or op_rep
theorem od_mul : OpD rMulU oMul := fun {hs H x y d e S Q} l hx hy w q => by
  cases d <;> cases e <;> first | exact False.elim w | skip
  · exact .inl (od_mulI l hx hy w q)
  · exact .inr (on_rep.d l hx hy w q)
/-! alike or not -/
def atomD : PyData → Bool
  | .list _ => false
  | .tuple _ => false
  | .dict _ => false
  | _ => true
def mixD : PyData → PyData → Bool
  | .int _, .bool _ => true
  | .bool _, .int _ => true
  | _, _ => false
def eqS (d e : PyData) : Bool := match d, e with
  | .int i, .int j => i == j
  | .bool i, .bool j => i == j
  | .str i, .str j => i == j
  | .none, .none => true
  | _, _ => false
/-- both atoms: as they are; else by their data -/
def oEq : O2 := fun d e S => if atomD d && atomD e && !mixD d e then S (.bool (eqS d e)) else SeqAt.shaped d = true ∧ SeqAt.shaped e = true ∧ S (.bool (PyData.eqv d e))
def oNe : O2 := fun d e S => if atomD d && atomD e && !mixD d e then S (.bool (!eqS d e)) else SeqAt.shaped d = true ∧ SeqAt.shaped e = true ∧ S (.bool (!PyData.eqv d e))
def rEqU (K : PySem.W.Frag) : R2 := fun x y H Q => rEq x y H Q ∨ rEqD K x y H Q
def rNeU (K : PySem.W.Frag) : R2 := fun x y H Q => rNe x y H Q ∨ rNeD K x y H Q
theorem op_eqU {X : Cx} (K : PySem.W.Frag) (hu : X.A.units + 64 < cLine) (hK : X.K = K := by rfl) : OpR X (compareOp .Eq) (rEqU K) := by subst hK; exact op_eq.or (op_eqD hu)
theorem op_neU {X : Cx} (K : PySem.W.Frag) (hu : X.A.units + 64 < cLine) (hK : X.K = K := by rfl) : OpR X (compareOp .NotEq) (rNeU K) := by subst hK; exact op_ne.or (op_neD hu)
theorem scal_of {H : Hp} {x y : V} {d e : PyData} (hx : Dq H x d) (hy : Dq H y e) (h : (atomD d && atomD e && !mixD d e) = true) : scal x y = true ∧ decide (x = y) = eqS d e := by
  cases hx <;> cases hy <;> first
    | (simp [atomD, mixD] at h; done)
    | exact ⟨rfl, dec_int⟩
    | exact ⟨rfl, dec_bl⟩
    | exact ⟨rfl, dec_str⟩
    | exact ⟨rfl, by simp [eqS]⟩
theorem od_eq {K : PySem.W.Frag} : OpD (rEqU K) oEq := fun {hs H x y d e S Q} l hx hy w q => by
  unfold oEq at w
  split at w
  · rename_i h
    obtain ⟨h1, h2⟩ := scal_of hx hy h
    exact .inl ⟨h1, q _ _ H w (Same.refl _) (by rw [h2]; exact .bl _)⟩
  · exact .inr ⟨d, e, (dq_vis hx).dp (noD_shaped w.1), (dq_vis hy).dp (noD_shaped w.2.1), w.1, w.2.1, q _ _ H w.2.2 (Same.refl _) (.bl _)⟩
theorem od_ne {K : PySem.W.Frag} : OpD (rNeU K) oNe := fun {hs H x y d e S Q} l hx hy w q => by
  unfold oNe at w
  split at w
  · rename_i h
    obtain ⟨h1, h2⟩ := scal_of hx hy h
    exact .inl ⟨h1, q _ _ H w (Same.refl _) (by rw [h2]; exact .bl _)⟩
  · exact .inr ⟨d, e, (dq_vis hx).dp (noD_shaped w.1), (dq_vis hy).dp (noD_shaped w.2.1), w.1, w.2.1, q _ _ H w.2.2 (Same.refl _) (.bl _)⟩
def isNone : PyData → Bool
  | .none => true
  | _ => false
theorem none_dec {H : Hp} {x : V} {d : PyData} (hx : Dq H x d) : decide (x = .non) = isNone d := by
  cases hx <;> simp [isNone]
def oIs : O2 := fun d e S => isNone e = true ∧ S (.bool (isNone d))
def oIsNot : O2 := fun d e S => isNone e = true ∧ S (.bool (!isNone d))
theorem non_of {H : Hp} {y : V} {e : PyData} (hy : Dq H y e) (h : isNone e = true) : y = .non := by
  cases hy <;> first | rfl | cases h
theorem od_is : OpD (fun x y H Q => y = .non ∧ Q (.bl (decide (x = .non))) H) oIs := fun {hs H x y d e S Q} l hx hy w q => ⟨non_of hy w.1, q _ _ H w.2 (Same.refl _) (by rw [none_dec hx]; exact .bl _)⟩
theorem od_isnot : OpD (fun x y H Q => y = .non ∧ Q (.bl (!decide (x = .non))) H) oIsNot := fun {hs H x y d e S Q} l hx hy w q => ⟨non_of hy w.1, q _ _ H w.2 (Same.refl _) (by rw [none_dec hx]; exact .bl _)⟩
/-! items -/
def intsOf : List PyData → Option (List Int)
  | [] => some []
  | .int i :: r => (intsOf r).map (i :: ·)
  | _ :: _ => none
theorem intsOf_map : ∀ ns : List Int, intsOf (ns.map PyData.int) = some ns
  | [] => rfl
  | n :: r => by
    show (intsOf (r.map PyData.int)).map (n :: ·) = _
    rw [intsOf_map r]
    rfl
theorem intsOf_some : ∀ {ds : List PyData} {ns : List Int}, intsOf ds = some ns → ds = ns.map PyData.int
  | [], ns, h => by
    have e : [] = ns := Option.some.inj h
    rw [← e]
    rfl
  | .int i :: r, ns, h => by
    have h' : (intsOf r).map (i :: ·) = some ns := h
    cases e : intsOf r with
    | none => rw [e] at h'; cases h'
    | some ms =>
      rw [e] at h'
      have e2 : i :: ms = ns := Option.some.inj h'
      rw [← e2, intsOf_some e]
      rfl
  | .none :: _, _, h => by cases h
  | .bool _ :: _, _, h => by cases h
  | .str _ :: _, _, h => by cases h
  | .list _ :: _, _, h => by cases h
  | .tuple _ :: _, _, h => by cases h
  | .dict _ :: _, _, h => by cases h
def seqOf : PyData → Option (List PyData)
  | .list a => some a
  | .tuple a => some a
  | _ => none
theorem seqOf_seqD (kd : Bool) (ds : List PyData) : seqOf (seqD kd ds) = some ds := by cases kd <;> rfl
theorem Dq.seqOf {H : Hp} {K : PySem.W.Frag} {v : V} {d : PyData} {ds : List PyData} (h : Dq H v d) (e : seqOf d = some ds) : ∃ a xs, v = .ref a ∧ (∀ {H' : Hp}, Same H H' → (SqL K H' a xs ∨ SqT K H' a xs)) ∧ DqAll H xs ds := by
  cases h with
  | lst e1 h1 =>
    have e2 := Option.some.inj e
    subst e2
    exact ⟨_, _, rfl, fun s => .inl (SqL.of (s _ _ e1)), h1⟩
  | tup e1 h1 =>
    have e2 := Option.some.inj e
    subst e2
    exact ⟨_, _, rfl, fun s => .inr (SqT.of (s _ _ e1)), h1⟩
  | _ => cases e
def oIx : O2
  | .list a, .int i, S => ∃ d, atI a i = some d ∧ S d
  | .tuple a, .int i, S => ∃ d, atI a i = some d ∧ S d
  | _, _, _ => False
theorem atI_get {H : Hp} {xs : List V} {ds : List PyData} {i : Int} {d : PyData} (h : DqAll H xs ds) (e : atI ds i = some d) : ∃ v, atI xs i = some v ∧ Dq H v d := by
  unfold atI at e ⊢
  rw [h.len]
  cases hn : ixN ds.length i with
  | none => rw [hn] at e; cases e
  | some j =>
    rw [hn] at e
    obtain ⟨v, h1, h2⟩ := h.at (i := j) (d := d) e
    exact ⟨v, h1, h2⟩
theorem od_ix {K : PySem.W.Frag} : OpD (rIx K) oIx := fun {hs H x y d e S Q} l hx hy w q => by
  cases d <;> cases e <;> first | exact False.elim w | skip
  all_goals
    obtain ⟨f, hf, hS⟩ := w
    cases hx
    cases hy
    rename_i e1 h1
    obtain ⟨v, h2, h3⟩ := atI_get h1 hf
    first
      | exact .inl ⟨_, _, _, v, rfl, rfl, SqL.of (hid_some e1).2, h2, q _ _ H hS (Same.refl _) h3⟩
      | exact .inr (.inl ⟨_, _, _, v, rfl, rfl, SqT.of (hid_some e1).2, h2, q _ _ H hS (Same.refl _) h3⟩)
def oIn (neg : Bool) : O2 := fun d e S => match d, seqOf e with
  | .int k, some ds => match intsOf ds with
    | some ns => S (.bool (if neg then !ns.contains k else ns.contains k))
    | none => False
  | _, _ => False
theorem inV_ints (k : Int) (ns : List Int) : inV (.int k) (ns.map V.int) = ns.contains k := by
  unfold inV
  rw [List.any_map]
  induction ns with
  | nil => rfl
  | cons n r ih =>
    rw [List.any_cons, List.contains_cons, ih]
    congr 1
    show eqV (.int n) (.int k) = (k == n)
    unfold eqV
    rw [Bool.eq_iff_iff]
    simp
    exact eq_comm
theorem od_in {K : PySem.W.Frag} {neg : Bool} : OpD (rIn K neg) (oIn neg) := fun {hs H x y d e S Q} l hx hy w q => by
  unfold oIn at w
  split at w
  · rename_i k ds he
    cases hx
    split at w
    · rename_i ns hns
      obtain ⟨a, xs, rfl, hs1, h1⟩ := hy.seqOf (K := K) he
      rw [intsOf_some hns] at h1
      have e3 := ints_inv h1
      subst e3
      refine ⟨a, _, rfl, hs1 hid_same, rfl, ?_, ?_⟩
      · rw [List.all_map]
        exact List.all_eq_true.mpr fun _ _ => rfl
      · rw [inV_ints]
        exact q _ _ H w (Same.refl _) (.bl _)
    · exact w.elim
  · exact w.elim
/-! ### one operand -/
abbrev O1 := PyData → (PyData → Prop) → Prop
def wUn (o : O1) (wa : WE) : WE := fun ε N R => wa ε N fun d N1 => o d fun f => R f N1
def oNeg : O1
  | .int i, S => S (.int (-i))
  | _, _ => False
/-! ### tests -/
def wTest (we : WE) : WB := fun ε N R => we ε N fun d N1 => match d with
  | .bool b => R b N1
  | _ => False
theorem sim_test (h : SimE te we) : SimB (tTest te) (wTest we) := fun r w q => h r w fun v d N1 H1 w1 o1 hd => by
  cases hd <;> first | exact False.elim w1 | exact ⟨_, rfl, q _ N1 H1 w1 o1⟩
theorem sim_tB (h : SimE te we) : SimB (tB te) (wTest we) := fun r w q => h r w fun v d N1 H1 w1 o1 hd => by
  cases hd <;> first | exact False.elim w1 | exact ⟨_, rfl, q _ N1 H1 w1 o1⟩
def wYes : WB := fun _ N R => R true N
theorem sim_yes : SimB tYes wYes := fun r w q => q _ _ _ w r.self
def wNot (w : WB) : WB := fun ε N R => w ε N fun b N1 => R (!b) N1
theorem sim_not (h : SimB t w) : SimB (tNot t) (wNot w) := fun r ww q => h r ww fun b N1 H1 w1 o1 => q _ _ _ w1 o1
def wAnd (w w' : WB) : WB := fun ε N R => w ε N fun b N1 => match b with
  | true => w' ε N1 R
  | false => R false N1
def wOr (w w' : WB) : WB := fun ε N R => w ε N fun b N1 => match b with
  | true => R true N1
  | false => w' ε N1 R
theorem sim_and (h : SimB t w) (k : SimB u w') : SimB (tAnd t u) (wAnd w w') := fun {c bs F σ H ε N R Q} r ww q => h r ww fun b N1 H1 w1 o1 => by
  cases b with
  | true => exact k (r.out o1) w1 fun b2 N2 H2 w2 o2 => q _ _ _ w2 (o1.trans o2)
  | false => exact q _ _ _ w1 o1
theorem sim_or (h : SimB t w) (k : SimB u w') : SimB (tOr t u) (wOr w w') := fun {c bs F σ H ε N R Q} r ww q => h r ww fun b N1 H1 w1 o1 => by
  cases b with
  | false => exact k (r.out o1) w1 fun b2 N2 H2 w2 o2 => q _ _ _ w2 (o1.trans o2)
  | true => exact q _ _ _ w1 o1
def wAndV (wa wb : WE) : WE := fun ε N R => wa ε N fun d N1 => match d with
  | .bool true => wb ε N1 R
  | .bool false => R (.bool false) N1
  | _ => False
def wOrV (wa wb : WE) : WE := fun ε N R => wa ε N fun d N1 => match d with
  | .bool true => R (.bool true) N1
  | .bool false => wb ε N1 R
  | _ => False
def wNotV (wa : WE) : WE := fun ε N R => wa ε N fun d N1 => match d with
  | .bool b => R (.bool !b) N1
  | _ => False
theorem sim_andV (h : SimE ta wa) (k : SimE tb wb) : SimE (tAndV ta tb) (wAndV wa wb) := fun {c bs F σ H ε N R Q} r ww q => h r ww fun v d N1 H1 w1 o1 hd => by
  cases hd <;> first | exact False.elim w1 | skip
  rename_i b
  refine ⟨b, rfl, ?_⟩
  cases b with
  | true => exact iteT (k (r.out o1) w1 fun v2 d2 N2 H2 w2 o2 hd2 => q _ _ _ _ w2 (o1.trans o2) hd2)
  | false => exact iteF (q _ _ _ _ w1 o1 (.bl false))
theorem sim_notV (h : SimE ta wa) : SimE (tNotV ta) (wNotV wa) := fun {c bs F σ H ε N R Q} r ww q => h r ww fun v d N1 H1 w1 o1 hd => by
  cases hd <;> first | exact False.elim w1 | skip
  exact ⟨_, rfl, q _ _ _ _ w1 o1 (.bl _)⟩
def wIf (w : WB) (wa wb : WE) : WE := fun ε N R => w ε N fun b N1 => match b with
  | true => wa ε N1 R
  | false => wb ε N1 R
theorem sim_if (h : SimB t w) (ha : SimE ta wa) (hb : SimE tb wb) : SimE (tIf t ta tb) (wIf w wa wb) := fun {c bs F σ H ε N R Q} r ww q => h r ww fun b N1 H1 w1 o1 => by
  cases b with
  | true => exact iteT (ha (r.out o1) w1 fun v2 d2 N2 H2 w2 o2 hd2 => q _ _ _ _ w2 (o1.trans o2) hd2)
  | false => exact iteF (hb (r.out o1) w1 fun v2 d2 N2 H2 w2 o2 hd2 => q _ _ _ _ w2 (o1.trans o2) hd2)
def wIfT (w : WB) (wa wb : WT) : WT := fun ε N R => w ε N fun b N1 => match b with
  | true => wa ε N1 R
  | false => wb ε N1 R
theorem Nw.back {c : Base} {bs A : List Addr} {H H1 H2 : Hp} {v : V} {t : T} {N : Nat} (o : Out c H H1 N) (n : Nw bs A H1 H2 v t) : Nw bs A H H2 v t := ⟨n.rep, n.nd, fun a ha => by
  have e := n.new a ha
  by_cases hb : a ∈ c.b
  · exact absurd e (o.box a hb).is
  · cases e2 : H a with
    | none => rfl
    | some x => rw [out_get o hb e2] at e; cases e⟩
/-- a op b op c -/
def wChain (o o' : O2) (wa wb wc : WE) : WE := fun ε N R => wa ε N fun d N1 => wb ε N1 fun e N2 => o d e fun f => match f with
  | .bool true => wc ε N2 fun g N3 => o' e g fun f => R f N3
  | .bool false => R (.bool false) N2
  | _ => False
theorem sim_chain {r r' : R2} {o o' : O2} (ho : OpD r o) (ho' : OpD r' o') (ha : SimE ta wa) (hb : SimE tb wb) (hc : SimE tc wc) : SimE (tChain r r' ta tb tc) (wChain o o' wa wb wc) := fun {c bs F σ H ε N R Q} rl w q => ha rl w fun v d N1 H1 w1 o1 hd => hb (rl.out o1) w1 fun u e N2 H2 w2 o2 he =>
  ho (out_live (o1.trans o2) rl.live) (out_dq o2 rl.bin hd) he w2 fun z f H3 hS e3 hz => by
    have o3 := (o1.trans o2).ext e3
    cases hz <;> first | exact False.elim hS | skip
    rename_i b
    refine ⟨b, rfl, ?_⟩
    cases b with
    | true => exact iteT (hc (rl.out o3) hS fun v4 g N4 H4 w4 o4 hd4 => ho' (out_live (o3.trans o4) rl.live) (out_dq o4 rl.bin (he.mono (same_hid e3))) hd4 w4 fun z5 f5 H5 hS5 e5 hz5 => q _ _ _ _ hS5 ((o3.trans o4).ext e5) hz5)
    | false => exact iteF (q _ _ _ _ hS o3 (.bl false))
/-! ### displays -/
def wLst (wa : WA) : WE := fun ε N R => wa ε N fun ds N1 => ds.length ≤ 100000 ∧ R (.list ds) N1
def wTup (wa : WA) : WE := fun ε N R => wa ε N fun ds N1 => ds.length ≤ 100000 ∧ R (.tuple ds) N1
theorem sim_lst (h : SimA tas was) : SimE (tLst tas) (wLst was) := fun r w q => h r w fun vs ds N1 H1 w1 o1 hd => ⟨by rw [hd.len]; exact Nat.le_trans w1.1 (by decide), fun p np =>
  q _ _ N1 _ w1.2 (o1.ext (Ex.new np)) (.lst (by rw [hid_out ((out_live o1 r.live).out np), upd_same]) (hd.mono (same_hid (Ex.new np))))⟩
theorem sim_tup (h : SimA tas was) : SimE (tTup tas) (wTup was) := fun r w q => h r w fun vs ds N1 H1 w1 o1 hd => ⟨by rw [hd.len]; exact Nat.le_trans w1.1 (by decide), fun p np =>
  q _ _ N1 _ w1.2 (o1.ext (Ex.new np)) (.tup (by rw [hid_out ((out_live o1 r.live).out np), upd_same]) (hd.mono (same_hid (Ex.new np))))⟩
def wNilT : WTs := fun _ N R => R [] N
end
end Cg

set_option Elab.async false
set_option linter.all false
set_option maxRecDepth 100000
set_option maxHeartbeats 1000000
namespace Cg
open PySem PySem.Spec PyProof.Rows L2 Evl
section
variable {ta tb tc te : TE} {wa wb wc we : WE} {t u : TT} {w w' : WB} {tas : TA} {was : WA} {c : Base} {bs F A B : List Addr} {σ : L2.St} {H H1 H2 H' : Hp} {ε : Env} {N N1 N2 : Nat}
/-! ### lists of what is its own -/
theorem mem3 {A B C : List Addr} {a : Addr} (h : a ∈ A ++ B ++ C) : a ∈ B ++ (A ++ C) := by
  rcases List.mem_append.mp h with h | h
  · rcases List.mem_append.mp h with h | h
    · exact List.mem_append_right _ (List.mem_append_left _ h)
    · exact List.mem_append_left _ h
  · exact List.mem_append_right _ (List.mem_append_right _ h)
theorem NwL.cons {v : V} {tt : T} {vs : List V} {ts : List T} (r : Rel c bs F σ H ε N) (k1 : Out c H H1 N1) (n : Nw bs A H H1 v tt) (k : Out c H1 H2 N2) (q : NwL (A ++ bs) B H1 H2 vs ts) : NwL bs (A ++ B) H H2 (v :: vs) (tt :: ts) := by
  have r1 := r.hide k1 n.new n.rep.own
  have nb : ∀ a ∈ A, a ∉ c.b := fun a ha z => r.live a (r.bin a z) (n.new a ha)
  have hAB := side (own_some n.rep.own) q.new
  have hk : ∀ a, H1 a = none → H a = none := fun a e => by
    by_cases hb : a ∈ c.b
    · exact absurd e (k1.box a hb).is
    · cases e2 : H a with
      | none => rfl
      | some o => rw [out_get k1 hb e2] at e; cases e
  have e1 : Same (hid (A ++ bs) H1) (hid (A ++ B ++ bs) H2) := fun a o e => by
    have := vis_step (bs := A ++ bs) k (fun a ha => List.mem_append_right _ (r.bin a ha)) q.new a o e
    obtain ⟨h1, h2⟩ := hid_some this
    rw [hid_out fun z => h1 (mem3 z)]
    exact h2
  have ra : Rep (A ++ B ++ bs) H2 v tt A := Rep.chg r1.nt e1 (fun a ha o e => out_get k (nb a ha) e) n.rep
  have r2 := r1.hide k q.new q.rep.own
  have rb : RepL (A ++ B ++ bs) H2 vs ts B := RepL.perm r2.nt (fun a z => mem3 z) q.rep
  exact ⟨.cons ra rb, nodup_app n.nd q.nd hAB, fun a ha => (List.mem_append.mp ha).elim (n.new a) fun h => hk a (q.new a h)⟩
def wConsT (w : WT) (ws : WTs) : WTs := fun ε N R => w ε N fun t N1 => ws ε N1 fun ts N2 => R (t :: ts) N2
theorem sim_nilT : SimTs tNil wNilT := fun r h q => q _ _ [] _ _ h r.self .nil
theorem sim_consT {wt : WT} {ws : WTs} (h : SimT te wt) (k : SimTs tas ws) : SimTs (tCons te tas) (wConsT wt ws) := fun r w q => h r w fun v t A N1 H1 w1 o1 n => k (r.hide o1 n.new n.rep.own) w1 fun vs ts B N2 H2 w2 o2 n2 =>
  q (v :: vs) (t :: ts) (A ++ B) N2 H2 w2 (o1.trans o2) (NwL.cons r o1 n o2 n2)
/-- a new list of them -/
theorem Nw.lst {vs : List V} {ts : List T} {p : Addr} (r : Rel c bs F σ H ε N) (o : Out c H H1 N1) (n : NwL bs A H H1 vs ts) (np : H1 p = none) : Nw bs (p :: A) H (upd H1 p (.lst vs)) (.ref p) (.lst ts) := by
  have hk : ∀ a, H1 a = none → H a = none := fun a e => by
    by_cases hb : a ∈ c.b
    · exact absurd e (o.box a hb).is
    · cases e2 : H a with
      | none => rfl
      | some x => rw [out_get o hb e2] at e; cases e
  have r1 := r.hide o n.new n.rep.own
  have pA : p ∉ A := fun z => own_some n.rep.own p z np
  refine ⟨.lst upd_same (RepL.chg r1.nt ?_ (fun a ha x e => ?_) n.rep), List.nodup_cons.mpr ⟨pA, n.nd⟩, fun a ha => ?_⟩
  · intro a x e
    obtain ⟨h1, h2⟩ := hid_some e
    have hne : a ≠ p := ne_of_none h2 np
    show hid (p :: (A ++ bs)) (upd H1 p (HO.lst vs)) a = some x
    rw [hid_out (fun z => (List.mem_cons.mp z).elim hne h1), upd_ne hne]
    exact h2
  · rw [upd_ne (ne_of_none e np)]
    exact e
  · rcases List.mem_cons.mp ha with rfl | ha
    · exact hk _ np
    · exact n.new a ha
def wLstT (ws : WTs) : WT := fun ε N R => ws ε N fun ts N1 => ts.length ≤ 100000 ∧ R (.lst ts) N1
theorem sim_lstT {ws : WTs} (h : SimTs tas ws) : SimT (tLst tas) (wLstT ws) := fun r w q => h r w fun vs ts A N1 H1 w1 o1 n => ⟨by rw [n.rep.len]; exact Nat.le_trans w1.1 (by decide), fun p np =>
  q _ _ (p :: A) N1 _ w1.2 (o1.ext (Ex.new np)) (Nw.lst r o1 n np)⟩
def wTupT (ws : WTs) : WT := fun ε N R => ws ε N fun ts N1 => ts.length ≤ 100000 ∧ R (.tup ts) N1
theorem Nw.tup {vs : List V} {ts : List T} {p : Addr} (r : Rel c bs F σ H ε N) (o : Out c H H1 N1) (n : NwL bs A H H1 vs ts) (np : H1 p = none) : Nw bs A H (upd H1 p (.tup vs)) (.ref p) (.tup ts) := by
  have r1 := r.hide o n.new n.rep.own
  refine ⟨.tup upd_same (RepL.chg r1.nt (same_hid (Ex.new np)) (fun a ha x e => ?_) n.rep), n.nd, n.new⟩
  rw [upd_ne (ne_of_none e np)]
  exact e
/-- a new list of shared data -/
theorem Nw.shs {xs : List V} {ds : List PyData} {p : Addr} (o : Out c H H1 N1) (hd : DqAll (hid bs H1) xs ds) (np : H1 p = none) : Nw bs [p] H (upd H1 p (.lst xs)) (.ref p) (.lst (ds.map T.sh)) := by
  have hk : H p = none := by
    by_cases hb : p ∈ c.b
    · exact absurd np (o.box p hb).is
    · cases e2 : H p with
      | none => rfl
      | some x => rw [out_get o hb e2] at np; cases np
  exact ⟨.lst upd_same (RepL.shs (hd.mono (hid_fresh np))), List.nodup_cons.mpr ⟨List.not_mem_nil, List.nodup_nil⟩, fun a ha => by rw [List.mem_singleton.mp ha]; exact hk⟩
def wOpT (o : PyData → PyData → (List PyData → Prop) → Prop) (wa wb : WE) : WT := fun ε N R => wa ε N fun d N1 => wb ε N1 fun e N2 => o d e fun ds => R (.lst (ds.map T.sh)) N2
theorem sim_opT {r : R2} {o : PyData → PyData → (List PyData → Prop) → Prop} (ho : OpN r o) (ha : SimE ta wa) (hb : SimE tb wb) : SimT (tOp r ta tb) (wOpT o wa wb) := fun rl w q => ha rl w fun v d N1 H1 w1 o1 hd => hb (rl.out o1) w1 fun u e N2 H2 w2 o2 he =>
  ho (out_live (o1.trans o2) rl.live) (out_dq o2 rl.bin hd) he w2 fun p xs ds hS np hx => q _ _ [p] N2 _ hS ((o1.trans o2).ext (Ex.new np)) (Nw.shs (o1.trans o2) hx np)
theorem OpN.weak {r r' : R2} {o : PyData → PyData → (List PyData → Prop) → Prop} (h : OpN r o) (k : ∀ x y H Q, r x y H Q → r' x y H Q) : OpN r' o := fun l hx hy w q => k _ _ _ _ (h l hx hy w q)
theorem on_mulU : OpN rMulU oRep := on_rep.weak fun _ _ _ _ h => .inr h
/-! ### calls of built-ins -/
abbrev OC := List PyData → (PyData → Prop) → Prop
def CbD (r : List V → Hp → VK → Prop) (o : OC) : Prop := ∀ {hs : List Addr} {H : Hp} {xs : List V} {ds : List PyData} {S : PyData → Prop} {Q : VK}, Live hs H → DqAll (hid hs H) xs ds → o ds S → (∀ z f H', S f → Same H H' → Dq (hid hs H') z f → Q z H') → r xs H Q
def wCb (o : OC) (was : WA) : WE := fun ε N R => was ε N fun ds N1 => o ds fun f => R f N1
theorem sim_cb {r : List V → Hp → VK → Prop} {o : OC} (ho : CbD r o) (ha : SimA tas was) : SimE (tCB r tas) (wCb o was) := fun rl w q => ha rl w fun vs ds N1 H1 w1 o1 hd => ho (out_live o1 rl.live) hd w1 fun z f H3 hS e3 hz => q z f N1 H3 hS (o1.ext e3) hz
def CbN (r : List V → Hp → VK → Prop) (o : List PyData → (List PyData → Prop) → Prop) : Prop := ∀ {hs : List Addr} {H : Hp} {xs : List V} {ds : List PyData} {S : List PyData → Prop} {Q : VK}, Live hs H → DqAll (hid hs H) xs ds → o ds S → (∀ p ys es, S es → H p = none → DqAll (hid hs H) ys es → Q (.ref p) (upd H p (.lst ys))) → r xs H Q
theorem CbN.d {r : List V → Hp → VK → Prop} {o : List PyData → (List PyData → Prop) → Prop} (h : CbN r o) : CbD r (fun ds S => o ds fun es => S (.list es)) := fun l hx w q => h l hx w fun p xs ds hS np hd =>
  q _ _ _ hS (Ex.new np) (.lst (by rw [hid_out (l.out np), upd_same]) (hd.mono (same_hid (Ex.new np))))
def wCbT (o : List PyData → (List PyData → Prop) → Prop) (was : WA) : WT := fun ε N R => was ε N fun ds N1 => o ds fun es => R (.lst (es.map T.sh)) N1
theorem sim_cbT {r : List V → Hp → VK → Prop} {o : List PyData → (List PyData → Prop) → Prop} (ho : CbN r o) (ha : SimA tas was) : SimT (tCB r tas) (wCbT o was) := fun rl w q => ha rl w fun vs ds N1 H1 w1 o1 hd => ho (out_live o1 rl.live) hd w1 fun p ys es hS np hx => q _ _ [p] N1 _ hS (o1.ext (Ex.new np)) (Nw.shs o1 hx np)
theorem dq1 {H : Hp} {xs : List V} {d : PyData} (h : DqAll H xs [d]) : ∃ v, xs = [v] ∧ Dq H v d := by
  cases h with
  | cons h t => cases t with
    | nil => exact ⟨_, rfl, h⟩
theorem dq2 {H : Hp} {xs : List V} {d e : PyData} (h : DqAll H xs [d, e]) : ∃ v u, xs = [v, u] ∧ Dq H v d ∧ Dq H u e := by
  cases h with
  | cons h t =>
    obtain ⟨u, rfl, hu⟩ := dq1 t
    exact ⟨_, _, rfl, h, hu⟩
def oLen : OC
  | [d], S => match seqOf d with
    | some ds => S (.int ds.length)
    | none => False
  | _, _ => False
theorem cb_len {K : PySem.W.Frag} : CbD (rLenS K) oLen := fun {hs H xs ds S Q} l hx w q => by
  match ds, w with
  | [d], w =>
    obtain ⟨v, rfl, hv⟩ := dq1 hx
    have w' : (match seqOf d with | some ds => S (.int ds.length) | none => False) := w
    split at w'
    · rename_i es he
      obtain ⟨a, ys, rfl, hs1, h1⟩ := hv.seqOf (K := K) he
      exact ⟨a, ys, rfl, hs1 hid_same, q _ _ H w' (Same.refl _) (by rw [h1.len]; exact .int _)⟩
    · exact w'.elim
def oInt : OC
  | [.int i], S => S (.int i)
  | [.bool b], S => S (.int (if b then 1 else 0))
  | _, _ => False
theorem cb_int : CbD (fun xs H Q => (∃ i, xs = [.int i] ∧ Q (.int i) H) ∨ ∃ k, xs = [.bl k] ∧ Q (.int (if k then 1 else 0)) H) oInt := fun {hs H xs ds S Q} l hx w q => by
  match ds, w with
  | [.int i], w =>
    obtain ⟨v, rfl, hv⟩ := dq1 hx
    cases hv
    exact .inl ⟨_, rfl, q _ _ H w (Same.refl _) (.int _)⟩
  | [.bool b], w =>
    obtain ⟨v, rfl, hv⟩ := dq1 hx
    cases hv
    exact .inr ⟨_, rfl, q _ _ H w (Same.refl _) (.int _)⟩
def oAbs : OC
  | [.int i], S => S (.int (if i < 0 then -i else i))
  | _, _ => False
def oMin2 : OC
  | [.int i, .int j], S => S (.int (if j < i then j else i))
  | _, _ => False
def oMax2 : OC
  | [.int i, .int j], S => S (.int (if j > i then j else i))
  | _, _ => False
theorem cb_min2 : CbD (fun xs H Q => ∃ i j, xs = [.int i, .int j] ∧ Q (.int (if j < i then j else i)) H) oMin2 := fun {hs H xs ds S Q} l hx w q => by
  match ds, w with
  | [.int i, .int j], w =>
    obtain ⟨v, u, rfl, hv, hu⟩ := dq2 hx
    cases hv
    cases hu
    exact ⟨_, _, rfl, q _ _ H w (Same.refl _) (.int _)⟩
def boolsOf : List PyData → Option (List Bool)
  | [] => some []
  | .bool i :: r => (boolsOf r).map (i :: ·)
  | _ :: _ => none
theorem boolsOf_map : ∀ ns : List Bool, boolsOf (ns.map PyData.bool) = some ns
  | [] => rfl
  | n :: r => by
    show (boolsOf (r.map PyData.bool)).map (n :: ·) = _
    rw [boolsOf_map r]
    rfl
theorem bools_inv {H : Hp} : ∀ {xs : List V} {ds : List PyData} {ns : List Bool}, DqAll H xs ds → boolsOf ds = some ns → xs = ns.map V.bl
  | _, _, ns, .nil, e => by
    have e : [] = ns := Option.some.inj e
    rw [← e]
    rfl
  | _, _, ns, .cons h t, e => by
    cases h <;> first | cases e | skip
    rename_i vs ds b
    have h' : (boolsOf ds).map (b :: ·) = some ns := e
    cases e2 : boolsOf ds with
    | none => rw [e2] at h'; cases h'
    | some ms =>
      rw [e2] at h'
      have e3 : b :: ms = ns := Option.some.inj h'
      rw [← e3, bools_inv t e2]
      rfl
def oAll : OC
  | [.list ds], S => match boolsOf ds with
    | some bs => S (.bool (bs.all id))
    | none => False
  | _, _ => False
theorem cb_all {K : PySem.W.Frag} : CbD (rAll K) oAll := fun {hs H xs ds S Q} l hx w q => by
  match ds, w with
  | [.list es], w =>
    obtain ⟨v, rfl, hv⟩ := dq1 hx
    have w' : (match boolsOf es with | some bs => S (.bool (bs.all id)) | none => False) := w
    split at w'
    · rename_i ns he
      obtain ⟨a, ys, rfl, e1, h1⟩ := hv.list_inv
      have e2 := bools_inv h1 he
      subst e2
      exact ⟨a, ns, rfl, SqL.of (hid_some e1).2, q _ _ H w' (Same.refl _) (.bl _)⟩
    · exact w'.elim
def oSum : OC
  | [.list ds], S => match intsOf ds with
    | some ns => S (.int ns.sum)
    | none => False
  | _, _ => False
theorem ints_of {H : Hp} {xs : List V} {ds : List PyData} {ns : List Int} (h : DqAll H xs ds) (e : intsOf ds = some ns) : xs = ns.map V.int := by
  rw [intsOf_some e] at h
  exact ints_inv h
def oList : List PyData → (List PyData → Prop) → Prop
  | [d], S => match seqOf d with
    | some ds => S ds
    | none => False
  | _, _ => False
theorem cn_list {K : PySem.W.Frag} : CbN (rListS K) oList := fun {hs H xs ds S Q} l hx w q => by
  match ds, w with
  | [d], w =>
    obtain ⟨v, rfl, hv⟩ := dq1 hx
    have w' : (match seqOf d with | some ds => S ds | none => False) := w
    split at w'
    · rename_i es he
      obtain ⟨a, ys, rfl, hs1, h1⟩ := hv.seqOf (K := K) he
      exact ⟨a, ys, rfl, hs1 hid_same, fun p np => q p ys es w' np h1⟩
    · exact w'.elim
def oListD : OC := fun ds S => oList ds fun es => S (.list es)
theorem cb_list {K : PySem.W.Frag} : CbD (rListS K) oListD := cn_list.d
def oTuple : OC
  | [d], S => match seqOf d with
    | some ds => S (.tuple ds)
    | none => False
  | _, _ => False
def oRepr : OC
  | [d], S => (okD d = true ∧ d.depth ≤ 40 ∧ wz d ≤ 1000000) ∧ S (.str d.shown)
  | _, _ => False
/-! isinstance -/
def wIs (f : PyData → Bool) (wa : WE) : WE := fun ε N R => wa ε N fun d N1 => notI d = true ∧ R (.bool (f d)) N1
theorem sim_isi {K : PySem.W.Frag} {Ty : String} {f : PyData → Bool} (hk : ∀ d, kitB (tyN d) Ty = some (f d)) (ha : SimE ta wa) : SimE (tCB (rIsi K) (tCons ta (tCons (tC (.ty Ty)) tNil))) (wIs f wa) := fun rl w q => ha rl w fun v d N1 H1 w1 o1 hd =>
  ⟨v, .ty Ty, .type (tyN d), .type Ty, f d, rfl, .ty Ty, (dq_vis hd).ty w1.1, kit_ty (hk d), q _ _ N1 H1 w1.2 o1 (.bl _)⟩
theorem sim_isi2 {K : PySem.W.Frag} (ha : SimE ta wa) : SimE (tCB (rIsiT K) (tCons ta (tCons (tTup (tCons (tC (.ty "list")) (tCons (tC (.ty "tuple")) tNil))) tNil))) (wIs (fun d => isList d || isTuple d) wa) := fun rl w q => ha rl w fun v d N1 H1 w1 o1 hd =>
  ⟨by show 2 ≤ _; decide, fun p np => ⟨v, p, [.ty "list", .ty "tuple"], .type (tyN d), [.type "list", .type "tuple"], isList d || isTuple d, rfl, upd_same, .cons (.ty _) (.cons (.ty _) .nil), ((dq_vis hd).mono (Ex.new np)).ty w1.1, kit_two d, q _ _ N1 _ w1.2 (o1.ext (Ex.new np)) (.bl _)⟩⟩
/-! list(range(n)) -/
def wRgL (wa : WE) : WT := fun ε N R => wa ε N fun d N1 => match d with
  | .int n => (0 ≤ n ∧ n ≤ 100000) ∧ R (.lst ((List.range n.toNat).map fun (k : Nat) => T.sh (.int (k : Int)))) N1
  | _ => False
/-! slices -/
abbrev WO := Env → Nat → (Option Int → Nat → Prop) → Prop
def wNoPart : WO := fun _ N R => R none N
def wPart (we : WE) : WO := fun ε N R => we ε N fun d N1 => match d with
  | .int i => R (some i) N1
  | _ => False
def wSl (we : WE) (wl wh : WO) : WE := fun ε N R => we ε N fun d N1 => wl ε N1 fun lo N2 => wh ε N2 fun hi N3 => match d with
  | .list a => R (.list (cutG a lo hi)) N3
  | _ => False
def wSlT (we : WE) (wl wh : WO) : WT := fun ε N R => we ε N fun d N1 => wl ε N1 fun lo N2 => wh ε N2 fun hi N3 => match d with
  | .list a => R (.lst ((cutG a lo hi).map T.sh)) N3
  | _ => False
theorem data_shs (ds : List PyData) : (T.lst (ds.map T.sh)).data = .list ds := by
  show PyData.list (T.datas (ds.map T.sh)) = _
  rw [datas_sh]
/-- xs[::-1] -/
def wRevT (we : WE) : WT := fun ε N R => we ε N fun d N1 => match d with
  | .list a => R (.lst (a.reverse.map T.sh)) N1
  | _ => False
/-! methods that tell something -/
def wBmL (o : PyData → List PyData → (PyData → Prop) → Prop) (wa : WE) (was : WA) : WE := fun ε N R => wa ε N fun d N1 => isList d = true ∧ was ε N1 fun ds N2 => o d ds fun f => R f N2
/-! ### a reading that is one of two -/
end
end Cg

set_option Elab.async false
set_option linter.all false
set_option maxRecDepth 100000
set_option maxHeartbeats 1000000
namespace Cg
open PySem PySem.Spec PyProof.Rows L2 Evl
/-! ### what is walked -/
structure Yl (hs : List Addr) (J : It) (ds : List PyData) (H : Hp) : Prop where
  go : ∀ k H' gs, k < ds.length → Same (hid hs H) (hid gs H') → J.go k H'
  stop : ∀ H' gs, Same (hid hs H) (hid gs H') → J.stop ds.length H'
  yld : ∀ k x H' H'' gs, k < ds.length → Same (hid hs H) (hid gs H') → Live gs H' → J.yld k H' x H'' → Same H' H'' ∧ ∃ d, ds[k]? = some d ∧ Dq (hid gs H'') x d
abbrev WI := Env → Nat → (List PyData → Nat → Prop) → Prop
def SimI (ti : TI) (wi : WI) : Prop := ∀ {c : Base} {bs F : List Addr} {σ : L2.St} {H : Hp} {ε : Env} {N : Nat} {R : List PyData → Nat → Prop} {Q : It → Hp → Prop}, Rel c bs F σ H ε N → wi ε N R → (∀ J ds N' H', R ds N' → Out c H H' N' → Yl bs J ds H' → Q J H') → ti σ H Q
section
variable {ta tb tc te : TE} {wa wb wc we : WE} {t u : TT} {w w' : WB} {tas : TA} {was : WA} {c : Base} {bs F A B hs : List Addr} {σ : L2.St} {H H1 H2 H' : Hp} {ε : Env} {N N1 N2 : Nat}
theorem yl_lt {xs : List V} {ds : List PyData} {k : Nat} (h : DqAll H xs ds) (hk : k < ds.length) : ∃ x, xs[k]? = some x := ⟨_, List.getElem?_eq_getElem (by rw [h.len]; exact hk)⟩
theorem yl_list {K : PySem.W.Frag} {a : Addr} {xs : List V} {ds : List PyData} (e : hid hs H a = some (.lst xs)) (h : DqAll (hid hs H) xs ds) : Yl hs (Itl K a) ds H := by
  have at' : ∀ H' gs, Same (hid hs H) (hid gs H') → SqL K H' a xs := fun H' gs k => SqL.of (hid_some (k _ _ e)).2
  refine ⟨fun k H' gs hk kp => ?_, fun H' gs kp => ⟨xs, at' H' gs kp, by rw [h.len]; exact Nat.le_refl _⟩, fun k x H' H'' gs hk kp _ y => ?_⟩
  · obtain ⟨x, hx⟩ := yl_lt h hk
    exact ⟨xs, x, at' H' gs kp, hx⟩
  · obtain ⟨rfl, hx⟩ := y
    obtain ⟨d, h1, h2⟩ := h.get (hx xs (at' _ gs kp))
    exact ⟨Same.refl _, d, h1, h2.mono kp⟩
theorem yl_tup {K : PySem.W.Frag} {a : Addr} {xs : List V} {ds : List PyData} (e : hid hs H a = some (.tup xs)) (h : DqAll (hid hs H) xs ds) : Yl hs (Itt K a) ds H := by
  have at' : ∀ H' gs, Same (hid hs H) (hid gs H') → SqT K H' a xs := fun H' gs k => SqT.of (hid_some (k _ _ e)).2
  refine ⟨fun k H' gs hk kp => ?_, fun H' gs kp => ⟨xs, at' H' gs kp, by rw [h.len]; exact Nat.le_refl _⟩, fun k x H' H'' gs hk kp _ y => ?_⟩
  · obtain ⟨x, hx⟩ := yl_lt h hk
    exact ⟨xs, x, at' H' gs kp, hx⟩
  · obtain ⟨rfl, hx⟩ := y
    obtain ⟨d, h1, h2⟩ := h.get (hx xs (at' _ gs kp))
    exact ⟨Same.refl _, d, h1, h2.mono kp⟩
/-- for x in a list or a tuple -/
def iSeq (K : PySem.W.Frag) (tl : TE) : TI := fun σ H R => tl σ H fun x H1 => ∃ a, x = .ref a ∧ (((∃ xs, SqL K H1 a xs) ∧ R (Itl K a) H1) ∨ ((∃ xs, SqT K H1 a xs) ∧ R (Itt K a) H1))
theorem pi_seq {X : Cx} (K : PySem.W.Frag) {tg l : Expr} {tl : TE} (hl : PE X l tl) (hK : X.K = K := by rfl) : PI X tg l (iSeq K tl) := by
  subst hK
  refine ⟨fun pins s σ H R I h => ?_⟩
  refine thn (hl.run pins s σ H _ I h) fun v s1 ⟨x, H1, I1, r1, q1⟩ => ?_
  obtain ⟨a, e, ⟨⟨xs, hq⟩, q⟩ | ⟨⟨xs, hq⟩, q⟩⟩ := q1
  · subst e
    cases r1
    obtain ⟨its, rv, p, hz⟩ := I1.list hq
    refine wpAny_pyIter_list p.isList ?_
    refine ⟨s1.heap.objs.size, [s1.heap.objs.size], _, _, H1, rfl, I1.kept (t' := s1.toks) fun b o e => Heap.get?_push_of_some _ e, turn_list a _, ⟨_, Heap.get?_push_size _ rfl, rfl, rfl⟩, fun b hb => ?_, q⟩
    have e : b = s1.heap.objs.size := by simpa using hb
    subst e
    exact I1.fpOk (Nat.le_refl _) (I1.hok.fresh (Nat.le_refl _))
  · subst e
    cases r1
    obtain ⟨its, rv, p, hz⟩ := I1.tuple hq
    refine wpAny_pyIter_tuple (show s1.heap.IsTuple a its.toArray from p) ?_
    refine ⟨s1.heap.objs.size, [s1.heap.objs.size], _, _, H1, rfl, I1.kept (t' := s1.toks) fun b o e => Heap.get?_push_of_some _ e, turn_tuple a _, ⟨_, Heap.get?_push_size _ rfl, rfl, rfl⟩, fun b hb => ?_, q⟩
    have e : b = s1.heap.objs.size := by simpa using hb
    subst e
    exact I1.fpOk (Nat.le_refl _) (I1.hok.fresh (Nat.le_refl _))
def wIt (we : WE) : WI := fun ε N R => we ε N fun d N1 => match seqOf d with
  | some ds => R ds N1
  | none => False
theorem sim_it {K : PySem.W.Frag} (h : SimE te we) : SimI (iSeq K te) (wIt we) := fun {c bs F σ H ε N R Q} r w q => h r w fun v d N1 H1 w1 o1 hd => by
  cases hd <;> first | exact False.elim w1 | skip
  · rename_i a xs ds e1 h1
    exact ⟨a, rfl, .inl ⟨⟨xs, SqL.of (hid_some e1).2⟩, q _ _ N1 H1 w1 o1 (yl_list e1 h1)⟩⟩
  · rename_i a xs ds e1 h1
    exact ⟨a, rfl, .inr ⟨⟨xs, SqT.of (hid_some e1).2⟩, q _ _ N1 H1 w1 o1 (yl_tup e1 h1)⟩⟩
def rngD (lo : Int) (n : Nat) : List PyData := (List.range n).map fun (k : Nat) => PyData.int (lo + (k : Int))
theorem rngD_len (lo : Int) (n : Nat) : (rngD lo n).length = n := by unfold rngD; rw [List.length_map, List.length_range]
theorem rngD_at {lo : Int} {n k : Nat} (h : k < n) : (rngD lo n)[k]? = some (.int (lo + (k : Int))) := by
  unfold rngD
  rw [List.getElem?_map, List.getElem?_range h]
  rfl
theorem rng_get {lo : Int} {n k : Nat} {d : PyData} (h : (rngD lo n)[k]? = some d) : k < n ∧ d = .int (lo + (k : Int)) := by
  have hk : k < n := by
    have := (List.getElem?_eq_some_iff.mp h).1
    rw [rngD_len] at this
    exact this
  rw [rngD_at hk] at h
  exact ⟨hk, (Option.some.inj h).symm⟩
theorem yl_rng (lo : Int) (n : Nat) : Yl hs (Itr lo n) (rngD lo n) H := by
  refine ⟨fun k H' _ hk _ => by rw [rngD_len] at hk; exact hk, fun H' _ _ => by rw [rngD_len]; exact Nat.le_refl _, fun k x H' H'' _ hk _ _ y => ?_⟩
  rw [rngD_len] at hk
  obtain ⟨rfl, rfl⟩ := y
  exact ⟨Same.refl _, _, rngD_at hk, .int _⟩
theorem sim_rng1 (h : SimE te we) : SimI (iRng1 (tCons te tNil)) (fun ε N R => we ε N fun d N1 => match d with
    | .int n => (-1000000 ≤ n ∧ n ≤ 1000000) ∧ R (rngD 0 n.toNat) N1
    | _ => False) := fun {c bs F σ H ε N R Q} r w q => h r w fun v d N1 H1 w1 o1 hd => by
  cases hd <;> first | exact False.elim w1 | skip
  obtain ⟨⟨h1, h2⟩, w2⟩ := w1
  exact ⟨_, rfl, by omega, by omega, q _ _ N1 H1 w2 o1 (yl_rng 0 _)⟩
def wRng1 (we : WE) : WI := fun ε N R => we ε N fun d N1 => match d with
  | .int n => (-1000000 ≤ n ∧ n ≤ 1000000) ∧ R (rngD 0 n.toNat) N1
  | _ => False
theorem sim_r1 (h : SimE te we) : SimI (iRng1 (tCons te tNil)) (wRng1 we) := sim_rng1 h
/-- enumerate(xs) -/
def enumD (ds : List PyData) : List PyData := ds.mapIdx fun k d => .tuple [.int (k : Nat), d]
theorem enumD_len (ds : List PyData) : (enumD ds).length = ds.length := List.length_mapIdx
theorem enumD_at {ds : List PyData} {k : Nat} {d : PyData} (h : ds[k]? = some d) : (enumD ds)[k]? = some (.tuple [.int (k : Nat), d]) := by
  unfold enumD
  rw [List.getElem?_mapIdx, h]
  rfl
def wEnum (we : WE) : WI := fun ε N R => we ε N fun d N1 => match seqOf d with
  | some ds => R (enumD ds) N1
  | none => False
theorem yl_enum {K : PySem.W.Frag} {kd : Bool} {a : Addr} {xs : List V} {ds : List PyData} (hq : ∀ H' gs, Same (hid hs H) (hid gs H') → SqK kd K H' a xs) (h : DqAll (hid hs H) xs ds) : Yl hs (ItE K kd a xs) (enumD ds) H := by
  have hl := h.len
  refine ⟨fun k H' gs hk kp => ⟨hq H' gs kp, by rw [enumD_len] at hk; rw [hl]; exact hk⟩, fun H' gs kp => ⟨hq H' gs kp, by rw [enumD_len, hl]; exact Nat.le_refl _⟩, fun k x H' H'' gs hk kp lv y => ?_⟩
  obtain ⟨T, rfl, hT, rfl⟩ := y
  rw [enumD_len] at hk
  have hx : xs[k]? = some (xs.getD k .non) := by rw [List.getD_eq_getElem?_getD, List.getElem?_eq_getElem (by rw [hl]; exact hk)]; rfl
  obtain ⟨d, h1, h2⟩ := h.get hx
  refine ⟨Ex.new hT, _, enumD_at h1, .tup (by rw [hid_out (lv.out hT), upd_same]) (.cons (.int _) (.cons ?_ .nil))⟩
  exact (h2.mono kp).mono (same_hid (Ex.new hT))
theorem sim_enum {K : PySem.W.Frag} (h : SimE te we) : SimI (iEnumK K (tCons te tNil)) (wEnum we) := fun {c bs F σ H ε N R Q} r w q => h r w fun v d N1 H1 w1 o1 hd => by
  cases hd <;> first | exact False.elim w1 | skip
  · rename_i a xs ds e1 h1
    exact ⟨true, a, xs, rfl, SqL.of (hid_some e1).2, q _ _ N1 H1 w1 o1 (yl_enum (fun H' gs kp => SqL.of (hid_some (kp _ _ e1)).2) h1)⟩
  · rename_i a xs ds e1 h1
    exact ⟨false, a, xs, rfl, SqT.of (hid_some e1).2, q _ _ N1 H1 w1 o1 (yl_enum (fun H' gs kp => SqT.of (hid_some (kp _ _ e1)).2) h1)⟩
theorem wipe_get (σ : L2.St) (i : Nat) : ∀ vs : List Nat, (L2.wipe σ vs)[i]? = if i ∈ vs then σ[i]?.map (fun _ => none) else σ[i]?
  | [] => by simp [L2.wipe]
  | v :: vs => by
    show ((L2.wipe σ vs).set v none)[i]? = _
    rw [List.getElem?_set]
    have ih := wipe_get σ i vs
    by_cases h : v = i
    · subst h
      rw [if_pos rfl, if_pos (List.mem_cons_self ..), wipe_length]
      cases e : σ[v]? with
      | none => rw [if_neg (by have := List.getElem?_eq_none_iff.mp e; omega)]; rfl
      | some x => rw [if_pos (List.getElem?_eq_some_iff.mp e).1]; rfl
    · rw [if_neg h, ih]
      by_cases h2 : i ∈ vs
      · rw [if_pos h2, if_pos (List.mem_cons_of_mem _ h2)]
      · rw [if_neg h2, if_neg (fun z => (List.mem_cons.mp z).elim (fun e => h e.symm) h2)]
theorem wipe_set {σ : L2.St} {j : Nat} {x : Option V} {vs : List Nat} (h : j ∈ vs) : L2.wipe (σ.set j x) vs = L2.wipe σ vs := by
  apply List.ext_getElem?
  intro i
  rw [wipe_get, wipe_get]
  by_cases hi : i ∈ vs
  · rw [if_pos hi, if_pos hi]
    rw [List.getElem?_set]
    by_cases h2 : j = i
    · subst h2
      rw [if_pos rfl]
      cases e : σ[j]? with
      | none => rw [if_neg (by have := List.getElem?_eq_none_iff.mp e; omega)]
      | some y => rw [if_pos (List.getElem?_eq_some_iff.mp e).1]; rfl
    · rw [if_neg h2]
  · rw [if_neg hi, if_neg hi, List.getElem?_set, if_neg (fun (z : j = i) => hi (z ▸ h))]
theorem wipe_wipe (σ : L2.St) (vs : List Nat) : L2.wipe (L2.wipe σ vs) vs = L2.wipe σ vs := by
  apply List.ext_getElem?
  intro i
  rw [wipe_get, wipe_get]
  by_cases hi : i ∈ vs
  · rw [if_pos hi, if_pos hi]
    cases σ[i]? <;> rfl
  · rw [if_neg hi, if_neg hi]
/-! ### targets, given what is shared; their names are among vs -/
abbrev WG := PyData → Env → (Env → Prop) → Prop
abbrev WGs := List PyData → Env → (Env → Prop) → Prop
def SimG (vs : List Nat) (g : TG) (wg : WG) : Prop := ∀ {c : Base} {bs F : List Addr} {σ : L2.St} {H : Hp} {ε : Env} {N : Nat} {v : V} {d : PyData} {R : Env → Prop} {Q : L2.St → Hp → Prop}, Rel c bs F σ H ε N → Dq (hid bs H) v d → wg d ε R → (∀ F' σ' ε', Rel c bs F' σ' H ε' N → L2.wipe σ' vs = L2.wipe σ vs → R ε' → Q σ' H) → g v σ H Q
def SimGs (vs : List Nat) (g : TGs) (wg : WGs) : Prop := ∀ {c : Base} {bs F : List Addr} {σ : L2.St} {H : Hp} {ε : Env} {N : Nat} {us : List V} {ds : List PyData} {R : Env → Prop} {Q : L2.St → Hp → Prop}, Rel c bs F σ H ε N → DqAll (hid bs H) us ds → wg ds ε R → (∀ F' σ' ε', Rel c bs F' σ' H ε' N → L2.wipe σ' vs = L2.wipe σ vs → R ε' → Q σ' H) → g us σ H Q
def wName (i : Nat) : WG := fun d ε R => R (ε.set i (.is (.sh d)))
def wGNil : WGs := fun ds ε R => ds = [] ∧ R ε
def wGCons (g : WG) (gs : WGs) : WGs := fun ds ε R => match ds with
  | d :: r => g d ε fun ε' => gs r ε' R
  | [] => False
def wGTup (n : Nat) (gs : WGs) : WG := fun d ε R => match d with
  | .tuple ds => ds.length = n ∧ gs ds ε R
  | _ => False
variable {vs : List Nat}
theorem sim_name {i : Nat} (hi : i ∈ vs) : SimG vs (gName i) (wName i) := fun {c bs F σ H ε N v d R Q} r hd w q => by
  obtain ⟨F', r'⟩ := r.set (i := i) r.self (Nw.sh (H := H) hd)
  exact q F' _ _ r' (wipe_set hi) w
theorem sim_gnil : SimGs vs gNil wGNil := fun {c bs F σ H ε N us ds R Q} r hd w q => by
  obtain ⟨rfl, w⟩ := w
  cases hd
  exact ⟨rfl, q _ _ _ r rfl w⟩
theorem sim_gcons {g : TG} {gs : TGs} {wg : WG} {wgs : WGs} (h : SimG vs g wg) (k : SimGs vs gs wgs) : SimGs vs (gCons g gs) (wGCons wg wgs) := fun {c bs F σ H ε N us ds R Q} r hd w q => by
  cases hd with
  | nil => exact w.elim
  | cons h1 t1 => exact ⟨_, _, rfl, h r h1 w fun F' σ' ε' r' e' w' => k r' t1 w' fun F2 σ2 ε2 r2 e2 w2 => q F2 σ2 ε2 r2 (e2.trans e') w2⟩
theorem sim_gtup {K : PySem.W.Frag} {n : Nat} {gs : TGs} {wgs : WGs} (k : SimGs vs gs wgs) : SimG vs (gTup K n gs) (wGTup n wgs) := fun {c bs F σ H ε N v d R Q} r hd w q => by
  cases hd <;> first | exact False.elim w | skip
  rename_i a xs ds e1 h1
  exact ⟨a, xs, rfl, SqT.of (hid_some e1).2, by rw [h1.len]; exact w.1, k r h1 w.2 q⟩
/-! ### comprehensions -/
def wipeE (ε : Env) : List Nat → Env
  | [] => ε
  | v :: vs => (wipeE ε vs).set v .no
theorem set_no (r : Rel c bs F σ H ε N) (i : Nat) (x : Option V) : ∃ F', Rel c bs F' (σ.set i x) H (ε.set i .no) N := by
  cases hl : ε[i]? with
  | none =>
    have hs : σ[i]? = none := by
      rw [List.getElem?_eq_none_iff] at hl ⊢
      rw [r.env.len]
      exact hl
    rw [set_beyond hl, set_beyond hs]
    exact ⟨F, r⟩
  | some l =>
    obtain ⟨y, A0, F1, F2, q1, q2, rfl, q4⟩ := r.env.at hl
    have hm : ∀ a ∈ F1 ++ ([] ++ F2), a ∈ F1 ++ (A0 ++ F2) := fun a ha => by
      rcases List.mem_append.mp ha with h | h
      · exact List.mem_append_left _ h
      · exact List.mem_append_right _ (List.mem_append_right _ h)
    exact ⟨F1 ++ ([] ++ F2), q4 r.nt (Same.refl _) (fun _ _ _ e => e) .no, nodup_mid r.nd List.nodup_nil (fun _ z => nomatch z), fun a ha => r.sub a (hm a ha), fun a ha => r.off a (hm a ha), fun a ha => r.nb a (hm a ha), r.up, r.bb, r.offb, r.live, r.nt, r.box, r.pin, r.vis⟩
theorem rel_wipe (r : Rel c bs F σ H ε N) (vs : List Nat) : ∃ F', Rel c bs F' (L2.wipe σ vs) H (wipeE ε vs) N := by
  induction vs with
  | nil => exact ⟨F, r⟩
  | cons v vs ih =>
    obtain ⟨F', r'⟩ := ih
    exact set_no r' v none
theorem RepL.snoc' {us : List V} {ts : List T} {v : V} {t : T} {cs : List Addr} (rw1 : Rel c (A ++ cs) F σ H1 ε N1) (ra : RepL (A ++ cs) H1 us ts A) (nd : A.Nodup) (nb : ∀ a ∈ A, a ∉ c.b) (k : Out c H1 H2 N2) (q : Nw (A ++ cs) B H1 H2 v t) : RepL (A ++ B ++ cs) H2 (us ++ [v]) (ts ++ [t]) (A ++ B) ∧ (A ++ B).Nodup := by
  have hAB := side (own_some ra.own) q.new
  have e1 : Same (hid (A ++ cs) H1) (hid (A ++ B ++ cs) H2) := fun a o e => by
    have := vis_step (bs := A ++ cs) k rw1.bin q.new a o e
    obtain ⟨h1, h2⟩ := hid_some this
    rw [hid_out fun z => h1 (mem3 z)]
    exact h2
  have ra' : RepL (A ++ B ++ cs) H2 us ts A := RepL.chg rw1.nt e1 (fun a ha o e => out_get k (nb a ha) e) ra
  have r2 := rw1.hide k q.new q.rep.own
  have rb : Rep (A ++ B ++ cs) H2 v t B := Rep.perm r2.nt (fun a z => mem3 z) q.rep
  exact ⟨ra'.append (RepL.one rb), nodup_app nd q.nd hAB⟩
theorem out_none {a : Addr} (o : Out c H H1 N1) (e : H1 a = none) : H a = none := by
  by_cases hb : a ∈ c.b
  · exact absurd e (o.box a hb).is
  · cases e2 : H a with
    | none => rfl
    | some x => rw [out_get o hb e2] at e; cases e
/-- [e for x in .. if ..], each one its own -/
def wLcT (wi : WI) (wg : WG) (wt : WB) (w : WT) (vs : List Nat) : WT := fun ε N R => wi ε N fun ds N1 => ds.length ≤ 40000 ∧ ∃ I : Nat → List T → Nat → Prop, I 0 [] N1 ∧
  (∀ k d ts M, ds[k]? = some d → I k ts M → wg d (wipeE ε vs) fun ε2 => wt ε2 M fun b M2 => match b with
    | true => w ε2 M2 fun t M3 => I (k + 1) (ts ++ [t]) M3
    | false => I (k + 1) ts M2) ∧ ∀ ts M, I ds.length ts M → R (.lst ts) M
theorem sim_lcT {ti : TI} {wi : WI} {g : TG} {wg : WG} {tt : TT} {wt : WB} {te : TE} {w : WT} (hi : SimI ti wi) (hg : SimG vs g wg) (ht : SimB tt wt) (he : SimT te w) : SimT (tLc ti g tt te vs) (wLcT wi wg wt w vs) := fun {c bs F σ H ε N R Q} r ww q => hi r ww fun J ds N1 H1 w1 o1 Y D nD => by
  obtain ⟨hz, I, i0, step, fin⟩ := w1
  have r1 := r.out o1
  have Dbs : D ∉ bs := r1.live.out nD
  have Db : D ∉ c.b := fun z => Dbs (r.bin D z)
  -- what stands at each turn
  let Pv : Nat → Hp → Prop := fun k H' => ∃ (acc : List V) (ts : List T) (A : List Addr) (M : Nat), H' D = some (.lst acc) ∧ I k ts M ∧ ts.length ≤ k ∧ Out c H1 H' M ∧ RepL (A ++ (D :: bs)) H' acc ts A ∧ A.Nodup ∧ (∀ a ∈ A, H1 a = none) ∧ D ∉ A
  have world : ∀ {k : Nat} {H' : Hp} {acc : List V} {ts : List T} {A : List Addr} {M : Nat}, H' D = some (.lst acc) → Out c H1 H' M → RepL (A ++ (D :: bs)) H' acc ts A → (∀ a ∈ A, H1 a = none) → Rel c (A ++ (D :: bs)) F σ H' ε M := fun {k H' acc ts A M} hD o ra hn => by
    have := r1.hide (A := A ++ [D]) o (fun a ha => (List.mem_append.mp ha).elim (hn a) fun h => by rw [List.mem_singleton.mp h]; exact nD) (fun a ha => (List.mem_append.mp ha).elim (ra.own a) fun h => by rw [List.mem_singleton.mp h]; exact own_lst hD)
    rw [List.append_assoc] at this
    exact this
  have vis : ∀ {H' : Hp} {A : List Addr} {M : Nat}, Out c H1 H' M → (∀ a ∈ A, H1 a = none) → Same (hid bs H1) (hid (A ++ (D :: bs)) H') := fun {H' A M} o hn => by
    have := vis_step (bs := bs) (B := A ++ [D]) o r.bin (fun a ha => (List.mem_append.mp ha).elim (hn a) fun h => by rw [List.mem_singleton.mp h]; exact nD)
    rw [List.append_assoc] at this
    exact this
  refine it_by (J := J) (n := ds.length) (Body := fun x H' Nx => g x (L2.wipe σ vs) H' fun σ2 H2 => L2.wipe σ2 vs = L2.wipe σ vs ∧ tt σ2 H2 fun b H3 => if b = true then te σ2 H3 fun y H4 => ∃ acc, H4 D = some (.lst acc) ∧ acc.length < sizeLine ∧ Nx (upd H4 D (.lst (acc ++ [y]))) else Nx H3)
    Pv ⟨[], [], [], N1, upd_same, i0, Nat.le_refl _, ⟨(Keep.refl _ _).new nD, fun a ha => (r1.box a ha).upd nD⟩, .nil, List.nodup_nil, (fun _ z => nomatch z), List.not_mem_nil⟩
    (fun k H' hk hP => ?_) (fun H' hP => ?_) (fun k x H' H'' hk hP hy => ?_) (fun H' hP => ?_)
  · obtain ⟨acc, ts, A, M, hD, hI, hl, o, ra, nd, hn, dA⟩ := hP
    exact Y.go k H' _ hk (vis o hn)
  · obtain ⟨acc, ts, A, M, hD, hI, hl, o, ra, nd, hn, dA⟩ := hP
    exact Y.stop H' _ (vis o hn)
  · obtain ⟨acc, ts, A, M, hD, hI, hl, o, ra, nd, hn, dA⟩ := hP
    have rw0 := world (k := k) hD o ra hn
    obtain ⟨sm, d, gd, dx⟩ := Y.yld k x H' H'' _ hk (vis o hn) rw0.live hy
    have rw1 := rw0.ext sm
    obtain ⟨Fw, rw2⟩ := rel_wipe rw1 vs
    refine hg rw2 dx (step k d ts M gd hI) fun F3 σ3 ε3 r3 e3 w3 => ⟨e3.trans (wipe_wipe σ vs), ?_⟩
    refine ht r3 w3 fun b M2 H3 w4 o3 => ?_
    have oo : Out c H1 H3 M2 := (o.ext sm).trans o3
    have nb : ∀ a ∈ A, a ∉ c.b := fun a ha z => r1.live a (r.bin a z) (hn a ha)
    have ra3 : RepL (A ++ (D :: bs)) H3 acc ts A := RepL.chg rw0.nt (out_keep ((rw0.ofSame sm).trans o3) rw0.bin) (fun a ha x e => out_get o3 (nb a ha) (sm _ _ e)) ra
    have hD3 : H3 D = some (.lst acc) := out_get o3 Db (sm _ _ hD)
    cases b with
    | false => exact iteF ⟨acc, ts, A, M2, hD3, w4, by omega, oo, ra3, nd, hn, dA⟩
    | true =>
      refine iteT ?_
      have r4 := r3.out o3
      refine he r4 w4 fun v t B M3 H4 w5 o4 n => ?_
      have hD4 : H4 D = some (.lst acc) := out_get o4 Db hD3
      refine ⟨acc, hD4, ?_, acc ++ [v], ts ++ [t], A ++ B, M3, upd_same, w5, ?_, ?_, ?_, ?_, ?_, ?_⟩
      · have := ra.len
        exact Nat.lt_of_le_of_lt (show acc.length ≤ 40000 by omega) (by decide)
      · rw [List.length_append]
        exact Nat.add_le_add_right hl 1
      · exact ⟨(oo.trans o4).keep.putNew nD, fun a ha => ((oo.trans o4).box a ha).put (fun z => Db (z ▸ ha))⟩
      · obtain ⟨rr, nn⟩ := RepL.snoc' r4 ra3 nd nb o4 n
        have dB : D ∉ A ++ B := fun z => (List.mem_append.mp z).elim dA fun h => by
          have := n.new D h
          rw [hD3] at this
          cases this
        have r5 := r4.hide o4 n.new n.rep.own
        have nt5 : NoTup (A ++ B ++ (D :: bs)) H4 := fun a ha => r5.nt a (mem3 ha)
        refine RepL.chg nt5 ?_ (fun a ha x e => by rw [upd_ne (fun (z : a = D) => dB (by rw [← z]; exact ha))]; exact e) rr
        exact (Keep.refl _ _).put (List.mem_append_right _ (List.mem_cons_self ..))
      · exact (RepL.snoc' r4 ra3 nd nb o4 n).2
      · intro a ha
        rcases List.mem_append.mp ha with h | h
        · exact hn a h
        · exact out_none oo (n.new a h)
      · intro z
        rcases List.mem_append.mp z with h | h
        · exact dA h
        · have := n.new D h
          rw [hD3] at this
          cases this
  · obtain ⟨acc, ts, A, M, hD, hI, hl, o, ra, nd, hn, dA⟩ := hP
    have rw0 := world (k := 0) hD o ra hn
    refine q (.ref D) (.lst ts) (D :: A) M H' (fin ts M hI) (o1.trans o) ⟨.lst hD (RepL.perm rw0.nt (fun a ha => ?_) ra), List.nodup_cons.mpr ⟨dA, nd⟩, fun a ha => ?_⟩
    · rcases List.mem_cons.mp ha with rfl | ha
      · exact List.mem_append_right _ (List.mem_cons_self ..)
      · rcases List.mem_append.mp ha with h | h
        · exact List.mem_append_left _ h
        · exact List.mem_append_right _ (List.mem_cons_of_mem _ h)
    · rcases List.mem_cons.mp ha with rfl | ha
      · exact out_none o1 nD
      · exact out_none o1 (hn a ha)
/-- .. each one shared -/
def wLc (wi : WI) (wg : WG) (wt : WB) (w : WE) (vs : List Nat) : WE := fun ε N R => wi ε N fun ds N1 => ds.length ≤ 40000 ∧ ∃ I : Nat → List PyData → Nat → Prop, I 0 [] N1 ∧
  (∀ k d es M, ds[k]? = some d → I k es M → wg d (wipeE ε vs) fun ε2 => wt ε2 M fun b M2 => match b with
    | true => w ε2 M2 fun e M3 => I (k + 1) (es ++ [e]) M3
    | false => I (k + 1) es M2) ∧ ∀ es M, I ds.length es M → R (.list es) M
theorem sim_lc {ti : TI} {wi : WI} {g : TG} {wg : WG} {tt : TT} {wt : WB} {te : TE} {w : WE} (hi : SimI ti wi) (hg : SimG vs g wg) (ht : SimB tt wt) (he : SimE te w) : SimE (tLc ti g tt te vs) (wLc wi wg wt w vs) := fun {c bs F σ H ε N R Q} r ww q => hi r ww fun J ds N1 H1 w1 o1 Y D nD => by
  obtain ⟨hz, I, i0, step, fin⟩ := w1
  have r1 := r.out o1
  have Dbs : D ∉ bs := r1.live.out nD
  have Db : D ∉ c.b := fun z => Dbs (r.bin D z)
  have world : ∀ {H' : Hp} {acc : List V} {M : Nat}, H' D = some (.lst acc) → Out c H1 H' M → Rel c (D :: bs) F σ H' ε M := fun {H' acc M} hD o =>
    r1.hide (A := [D]) o (fun a ha => by rw [List.mem_singleton.mp ha]; exact nD) (fun a ha => by rw [List.mem_singleton.mp ha]; exact own_lst hD)
  have vis : ∀ {H' : Hp} {M : Nat}, Out c H1 H' M → Same (hid bs H1) (hid (D :: bs) H') := fun {H' M} o => vis_step (bs := bs) (B := [D]) o r.bin (fun a ha => by rw [List.mem_singleton.mp ha]; exact nD)
  refine it_by (J := J) (n := ds.length) (Body := fun x H' Nx => g x (L2.wipe σ vs) H' fun σ2 H2 => L2.wipe σ2 vs = L2.wipe σ vs ∧ tt σ2 H2 fun b H3 => if b = true then te σ2 H3 fun y H4 => ∃ acc, H4 D = some (.lst acc) ∧ acc.length < sizeLine ∧ Nx (upd H4 D (.lst (acc ++ [y]))) else Nx H3)
    (fun k H' => ∃ (acc : List V) (es : List PyData) (M : Nat), H' D = some (.lst acc) ∧ I k es M ∧ es.length ≤ k ∧ Out c H1 H' M ∧ DqAll (hid (D :: bs) H') acc es) ⟨[], [], N1, upd_same, i0, Nat.le_refl _, ⟨(Keep.refl _ _).new nD, fun a ha => (r1.box a ha).upd nD⟩, .nil⟩
    (fun k H' hk hP => ?_) (fun H' hP => ?_) (fun k x H' H'' hk hP hy => ?_) (fun H' hP => ?_)
  · obtain ⟨acc, es, M, hD, hI, hl, o, da⟩ := hP
    exact Y.go k H' _ hk (vis o)
  · obtain ⟨acc, es, M, hD, hI, hl, o, da⟩ := hP
    exact Y.stop H' _ (vis o)
  · obtain ⟨acc, es, M, hD, hI, hl, o, da⟩ := hP
    have rw0 := world hD o
    obtain ⟨sm, d, gd, dx⟩ := Y.yld k x H' H'' _ hk (vis o) rw0.live hy
    have rw1 := rw0.ext sm
    obtain ⟨Fw, rw2⟩ := rel_wipe rw1 vs
    refine hg rw2 dx (step k d es M gd hI) fun F3 σ3 ε3 r3 e3 w3 => ⟨e3.trans (wipe_wipe σ vs), ?_⟩
    refine ht r3 w3 fun b M2 H3 w4 o3 => ?_
    have oo : Out c H1 H3 M2 := (o.ext sm).trans o3
    have da3 : DqAll (hid (D :: bs) H3) acc es := da.mono (out_keep ((rw0.ofSame sm).trans o3) rw0.bin)
    have hD3 : H3 D = some (.lst acc) := out_get o3 Db (sm _ _ hD)
    cases b with
    | false => exact iteF ⟨acc, es, M2, hD3, w4, by omega, oo, da3⟩
    | true =>
      refine iteT ?_
      have r4 := r3.out o3
      refine he r4 w4 fun v f M3 H4 w5 o4 hv => ?_
      have hD4 : H4 D = some (.lst acc) := out_get o4 Db hD3
      have kk : Keep (D :: bs) H4 (upd H4 D (.lst (acc ++ [v]))) := (Keep.refl _ _).put (List.mem_cons_self ..)
      refine ⟨acc, hD4, ?_, acc ++ [v], es ++ [f], M3, upd_same, w5, ?_, ?_, ?_⟩
      · have := da.len
        exact Nat.lt_of_le_of_lt (show acc.length ≤ 40000 by omega) (by decide)
      · rw [List.length_append]
        exact Nat.add_le_add_right hl 1
      · exact ⟨(oo.trans o4).keep.putNew nD, fun a ha => ((oo.trans o4).box a ha).put (fun z => Db (z ▸ ha))⟩
      · exact ((da3.mono (out_keep o4 r4.bin)).append (.cons hv .nil)).mono kk
  · obtain ⟨acc, es, M, hD, hI, hl, o, da⟩ := hP
    exact q (.ref D) (.list es) M H' (fin es M hI) (o1.trans o) (.lst (by rw [hid_out Dbs]; exact hD) (da.mono (hid_less fun a ha => List.mem_cons_of_mem _ ha)))
end
/-! ### statements -/
structure EW where
  nx : Env → Nat → Prop
  rt : T → Nat → Prop
  bk : Env → Nat → Prop
  ct : Env → Nat → Prop
  /-- told, with what the slots hold then -/
  rx : T → Env → Nat → Prop
abbrev WS := EW → Env → Nat → Prop
def EW.seq (D : EW) (k : Env → Nat → Prop) : EW := { D with nx := k }
def EW.loop (D : EW) (i : Env → Nat → Prop) : EW := { D with nx := i, ct := i, bk := D.nx }
def EW.fn (R : T → Nat → Prop) : EW := ⟨fun _ M => R (.sh .none) M, R, fun _ _ => False, fun _ _ => False, fun _ _ _ => False⟩
structure Ret (c : Base) (v : V) (t : T) (A : List Addr) (H : Hp) (N : Nat) : Prop where
  rep : Rep (A ++ c.bs0) H v t A
  nd : A.Nodup
  off : ∀ a ∈ A, c.P a = none
  nb : ∀ a ∈ A, a ∉ c.bs0
  box : ∀ a ∈ c.b, Box H a N
  pin : Same c.P H
structure Mt (c : Base) (DW : EW) (D : Ends) : Prop where
  nx : ∀ {bs F : List Addr} {σ : L2.St} {H : Hp} {ε : Env} {N : Nat}, Rel c bs F σ H ε N → DW.nx ε N → D.nx σ H
  rt : ∀ {v : V} {t : T} {A : List Addr} {H : Hp} {N : Nat}, Ret c v t A H N → DW.rt t N → D.rt v H
  bk : ∀ {bs F : List Addr} {σ : L2.St} {H : Hp} {ε : Env} {N : Nat}, Rel c bs F σ H ε N → DW.bk ε N → D.bk σ H
  ct : ∀ {bs F : List Addr} {σ : L2.St} {H : Hp} {ε : Env} {N : Nat}, Rel c bs F σ H ε N → DW.ct ε N → D.ct σ H
  rx : ∀ {bs F A : List Addr} {σ : L2.St} {H : Hp} {ε : Env} {N : Nat} {v : V} {t : T}, Rel c bs F σ H ε N → Rep bs H v t A → A.Nodup → (∀ a ∈ A, a ∈ bs ∧ a ∉ F ∧ c.P a = none ∧ a ∉ c.bs0) → DW.rx t ε N → D.rt v H
def SimS (ts : TS) (ws : WS) : Prop := ∀ {c : Base} {bs F : List Addr} {σ : L2.St} {H : Hp} {ε : Env} {N : Nat} {DW : EW} {D : Ends}, Rel c bs F σ H ε N → ws DW ε N → Mt c DW D → ts D σ H
section
variable {ta tb te : TE} {wa wb we : WE} {wt : WT} {t : TT} {w : WB} {ts us : TS} {ws wu : WS} {tas : TA} {was : WA} {c : Base} {bs F A B : List Addr} {σ : L2.St} {H H1 : Hp} {ε : Env} {N N1 : Nat} {v : V} {x : T}
/-- told at the end: something new, or shared -/
theorem Rel.ret (r : Rel c bs F σ H ε N) (o : Out c H H1 N1) (n : Nw bs A H H1 v x) : Ret c v x A H1 N1 := by
  have r1 := r.hide o n.new n.rep.own
  refine ⟨Rep.perm r1.nt (fun a ha => (List.mem_append.mp ha).elim (List.mem_append_left _) fun h => List.mem_append_right _ (r.up a h)) n.rep, n.nd, fun a ha => ?_, fun a ha z => r.live a (r.up a z) (n.new a ha), o.box, r1.pin⟩
  cases e : c.P a with
  | none => rfl
  | some y =>
    have := r.pin a y e
    rw [n.new a ha] at this
    cases this
def wSkip : WS := fun D ε N => D.nx ε N
def wSeq (ws wu : WS) : WS := fun D ε N => ws { D with nx := wu D } ε N
def wBreak : WS := fun D ε N => D.bk ε N
def wCont : WS := fun D ε N => D.ct ε N
theorem sim_skip : SimS tNext wSkip := fun r h m => m.nx r h
theorem sim_brk : SimS tBreak wBreak := fun r h m => m.bk r h
theorem sim_seq (h : SimS ts ws) (k : SimS us wu) : SimS (tSeq ts us) (wSeq ws wu) := fun {c bs F σ H ε N DW D} r w m => h (DW := { DW with nx := wu DW }) (D := { D with nx := us D }) r w ⟨fun r2 w2 => k r2 w2 m, m.rt, m.bk, m.ct, m.rx⟩
def wRet (wt : WT) : WS := fun D ε N => wt ε N fun t N' => D.rt t N'
theorem sim_ret (h : SimT te wt) : SimS (tRet te) (wRet wt) := fun r w m => h r w fun v t A N' H' hR o n => m.rt (r.ret o n) hR
def wRetN : WS := fun D ε N => D.rt (.sh .none) N
/-- return x, x its own -/
def wRetV (i : Nat) : WS := fun D ε N => match ε[i]? with
  | some (.is t) => D.rt t N
  | _ => False
theorem sim_retV {i : Nat} : SimS (tRet (tVar i)) (wRetV i) := fun {c bs F σ H ε N DW D} r w m => by
  have w' : (match ε[i]? with | some (.is t) => DW.rt t N | _ => False) := w
  split at w'
  · rename_i t e
    obtain ⟨y, A, F1, F2, hx, hr, rfl, _⟩ := r.env.at e
    cases hr with
    | is hr =>
      have hA : ∀ a ∈ A, a ∈ F1 ++ (A ++ F2) := fun a ha => List.mem_append_right _ (List.mem_append_left _ ha)
      refine ⟨_, hx, m.rt ⟨Rep.perm r.nt (fun a ha => (List.mem_append.mp ha).elim (fun h => r.sub a (hA a h)) (r.up a)) hr, ?_, fun a ha => r.off a (hA a ha), fun a ha => r.nb a (hA a ha), r.box, r.pin⟩ w'⟩
      exact (List.nodup_append.mp (List.nodup_append.mp r.nd).2.1).1
  · exact w'.elim
def wIfS (w : WB) (ws wu : WS) : WS := fun D ε N => w ε N fun b N1 => match b with
  | true => ws D ε N1
  | false => wu D ε N1
theorem sim_ifS (h : SimB t w) (ha : SimS ts ws) (hb : SimS us wu) : SimS (tIfS t ts us) (wIfS w ws wu) := fun {c bs F σ H ε N DW D} r ww m => h r ww fun b N1 H1 w1 o1 => by
  cases b with
  | true => exact iteT (ha (r.out o1) w1 m)
  | false => exact iteF (hb (r.out o1) w1 m)
/-- x = e, what e tells its own -/
def wAsgT (i : Nat) (wt : WT) : WS := fun D ε N => wt ε N fun t N' => D.nx (ε.set i (.is t)) N'
theorem sim_asgT {i : Nat} (h : SimT te wt) : SimS (tAsg te (gName i)) (wAsgT i wt) := fun {c bs F σ H ε N DW D} r w m => h r w fun v t A N' H' hR o n => by
  obtain ⟨F', r'⟩ := r.set (i := i) o n
  exact m.nx r' hR
/-- x = e, shared; a, b = e -/
def wAsg (we : WE) (wg : WG) : WS := fun D ε N => we ε N fun d N' => wg d ε fun ε' => D.nx ε' N'
theorem sim_asg {vs : List Nat} {g : TG} {wg : WG} (h : SimE te we) (hg : SimG vs g wg) : SimS (tAsg te g) (wAsg we wg) := fun {c bs F σ H ε N DW D} r w m => h r w fun v d N' H' hR o hd => hg (r.out o) hd hR fun F' σ' ε' r' _ w' => m.nx r' w'
theorem RepL.two {us : List V} {t u : T} {A : List Addr} (h : RepL bs H us [t, u] A) : ∃ v w A1 A2, us = [v, w] ∧ Rep bs H v t A1 ∧ Rep bs H w u A2 ∧ A = A1 ++ A2 := by
  cases h with
  | cons h1 k1 => cases k1 with
    | cons h2 k2 => cases k2 with
      | nil => exact ⟨_, _, _, _, rfl, h1, h2, by rw [List.append_nil]⟩
theorem pin_none {a : Addr} (r : Rel c bs F σ H ε N) (e : H a = none) : c.P a = none := by
  cases h : c.P a with
  | none => rfl
  | some y =>
    rw [r.pin a y h] at e
    cases e
/-- a slot set to what is hidden already, and nobody else's -/
theorem Rel.put {i : Nat} (r : Rel c bs F σ H ε N) (h : Rep bs H v x A) (nd : A.Nodup) (hA : ∀ a ∈ A, a ∈ bs ∧ a ∉ F ∧ c.P a = none ∧ a ∉ c.bs0) : ∃ F', Rel c bs F' (σ.set i (some v)) H (ε.set i (.is x)) N ∧ ∀ a ∈ F', a ∈ F ∨ a ∈ A := by
  cases hl : ε[i]? with
  | none =>
    have hs : σ[i]? = none := by
      rw [List.getElem?_eq_none_iff] at hl ⊢
      rw [r.env.len]
      exact hl
    rw [set_beyond hl, set_beyond hs]
    exact ⟨F, r, fun a ha => .inl ha⟩
  | some l =>
    obtain ⟨y, A0, F1, F2, q1, q2, rfl, q4⟩ := r.env.at hl
    have hm : ∀ a ∈ F1 ++ (A ++ F2), a ∈ F1 ++ (A0 ++ F2) ∨ a ∈ A := fun a ha => by
      rcases List.mem_append.mp ha with h | h
      · exact .inl (List.mem_append_left _ h)
      · rcases List.mem_append.mp h with h | h
        · exact .inr h
        · exact .inl (List.mem_append_right _ (List.mem_append_right _ h))
    refine ⟨F1 ++ (A ++ F2), ⟨q4 r.nt (Same.refl _) (fun _ _ _ e => e) (.is h), nodup_mid r.nd nd fun a ha => ⟨fun z => (hA a ha).2.1 (List.mem_append_left _ z), fun z => (hA a ha).2.1 (List.mem_append_right _ (List.mem_append_right _ z))⟩, fun a ha => (hm a ha).elim (r.sub a) fun z => (hA a z).1, fun a ha => (hm a ha).elim (r.off a) fun z => (hA a z).2.2.1, fun a ha => (hm a ha).elim (r.nb a) fun z => (hA a z).2.2.2, r.up, r.bb, r.offb, r.live, r.nt, r.box, r.pin, r.vis⟩, hm⟩
def wDrop (we : WE) : WS := fun D ε N => we ε N fun _ N' => D.nx ε N'
/-! ### what is its own, changed in place -/
theorem set_same {α : Type} : ∀ {xs : List α} {i : Nat} {x : α}, xs[i]? = some x → xs.set i x = xs
  | [], _, _, h => by cases h
  | y :: ys, 0, x, h => by
    have e : y = x := Option.some.inj h
    rw [e]
    rfl
  | y :: ys, i + 1, x, h => by
    show y :: ys.set i x = y :: ys
    rw [set_same (xs := ys) h]
theorem mem_mid {F1 A0 F2 : List Addr} {a x : Addr} (h : x ∈ F1 ++ (a :: A0 ++ F2)) : x ∈ F1 ∨ x = a ∨ x ∈ A0 ∨ x ∈ F2 := by
  rcases List.mem_append.mp h with h | h
  · exact .inl h
  · rcases List.mem_append.mp h with h | h
    · rcases List.mem_cons.mp h with h | h
      · exact .inr (.inl h)
      · exact .inr (.inr (.inl h))
    · exact .inr (.inr (.inr h))
/-- the list of slot i, and what comes of it when it stands otherwise -/
theorem Rel.mutate {i : Nat} {ts : List T} (r : Rel c bs F σ H ε N) (hl : ε[i]? = some (.is (.lst ts))) : ∃ a vs A0, σ[i]? = some (some (.ref a)) ∧ H a = some (.lst vs) ∧ RepL bs H vs ts A0 ∧ A0.Nodup ∧ a ∉ A0 ∧ a ∈ bs ∧ a ∉ c.b ∧ (∀ x ∈ A0, x ∈ bs) ∧ a ∈ F ∧ (∀ x ∈ A0, x ∈ F) ∧
    ∀ {vs' : List V} {ts' : List T} {A' : List Addr}, RepL bs H vs' ts' A' → A'.Nodup → a ∉ A' → (∀ x ∈ A', x ∈ A0 ∨ (x ∈ bs ∧ x ∉ F ∧ c.P x = none ∧ x ∉ c.bs0)) → ∃ F', Rel c bs F' σ (upd H a (.lst vs')) (ε.set i (.is (.lst ts'))) N := by
  obtain ⟨y, A, F1, F2, q1, q2, rfl, q4⟩ := r.env.at hl
  cases q2 with
  | is q2 => cases q2 with
    | lst e h =>
      rename_i a vs A0
      have nd2 := (List.nodup_append.mp (List.nodup_append.mp r.nd).2.1).1
      have hnd := List.nodup_cons.mp nd2
      have hmem : ∀ x ∈ a :: A0, x ∈ F1 ++ (a :: A0 ++ F2) := fun x hx => List.mem_append_right _ (List.mem_append_left _ hx)
      have ain := hmem a (List.mem_cons_self ..)
      have abs := r.sub a ain
      refine ⟨a, vs, A0, q1, e, h, hnd.2, hnd.1, abs, r.fb a ain, fun x hx => r.sub x (hmem x (List.mem_cons_of_mem _ hx)), ain, fun x hx => hmem x (List.mem_cons_of_mem _ hx), fun {vs' ts' A'} h' nd' ha' hx' => ?_⟩
      have aout : ∀ x ∈ F1 ++ F2, x ≠ a := fun x hx z => by
        subst z
        obtain ⟨_, p2, p3⟩ := List.nodup_append.mp r.nd
        rcases List.mem_append.mp hx with h | h
        · exact p3 x h x (List.mem_append_left _ (List.mem_cons_self ..)) rfl
        · exact (List.nodup_append.mp p2).2.2 x (List.mem_cons_self ..) x h rfl
      have A0out : ∀ x ∈ A0, x ∉ F1 ∧ x ∉ F2 := fun x hx => by
        obtain ⟨_, p2, p3⟩ := List.nodup_append.mp r.nd
        exact ⟨fun z => p3 x z x (List.mem_append_left _ (List.mem_cons_of_mem _ hx)) rfl, fun z => (List.nodup_append.mp p2).2.2 x (List.mem_cons_of_mem _ hx) x z rfl⟩
      have kk : Keep bs H (upd H a (.lst vs')) := (Keep.refl _ _).put abs
      have rr : RepL bs (upd H a (.lst vs')) vs' ts' A' := RepL.chg r.nt kk (fun x hx o e => by rw [upd_ne (fun (z : x = a) => ha' (z ▸ hx))]; exact e) h'
      have env := q4 (cs := bs) (H' := upd H a (.lst vs')) (y := some (.ref a)) (m := .is (.lst ts')) r.nt kk (fun x hx o e => by rw [upd_ne (aout x hx)]; exact e) (.is (.lst upd_same rr))
      rw [set_same q1] at env
      have hm : ∀ x ∈ F1 ++ (a :: A' ++ F2), x ∈ F1 ++ (a :: A0 ++ F2) ∨ (x ∈ A' ∧ x ∉ A0) := fun x hx => by
        rcases mem_mid hx with h | h | h | h
        · exact .inl (List.mem_append_left _ h)
        · rw [h]; exact .inl ain
        · by_cases hA : x ∈ A0
          · exact .inl (hmem x (List.mem_cons_of_mem _ hA))
          · exact .inr ⟨h, hA⟩
        · exact .inl (List.mem_append_right _ (List.mem_append_right _ h))
      have hnew : ∀ x, x ∈ A' ∧ x ∉ A0 → x ∈ bs ∧ x ∉ F1 ++ (a :: A0 ++ F2) ∧ c.P x = none ∧ x ∉ c.bs0 := fun x hx => (hx' x hx.1).elim (fun z => absurd z hx.2) id
      refine ⟨F1 ++ (a :: A' ++ F2), env, nodup_mid r.nd (List.nodup_cons.mpr ⟨ha', nd'⟩) fun x hx => ?_, fun x hx => (hm x hx).elim (r.sub x) fun z => (hnew x z).1, fun x hx => (hm x hx).elim (r.off x) fun z => (hnew x z).2.2.1, fun x hx => (hm x hx).elim (r.nb x) fun z => (hnew x z).2.2.2, r.up, r.bb, r.offb, fun x hx => ?_, fun x hx xs z => ?_, fun x hx => ?_, fun x o e => ?_, r.vis.trans kk⟩
      · rcases List.mem_cons.mp hx with h | h
        · subst h
          exact ⟨fun z => aout x (List.mem_append_left _ z) rfl, fun z => aout x (List.mem_append_right _ z) rfl⟩
        · by_cases hA : x ∈ A0
          · exact A0out x hA
          · have := (hnew x ⟨h, hA⟩).2.1
            exact ⟨fun z => this (List.mem_append_left _ z), fun z => this (List.mem_append_right _ (List.mem_append_right _ z))⟩
      · by_cases hxa : x = a
        · subst hxa; rw [upd_same]; exact fun z => nomatch z
        · rw [upd_ne hxa]; exact r.live x hx
      · by_cases hxa : x = a
        · subst hxa; rw [upd_same] at z; cases z
        · rw [upd_ne hxa] at z; exact r.nt x hx xs z
      · exact (r.box x hx).put (fun z => r.fb a ain (z ▸ hx))
      · rw [upd_ne (fun (z : x = a) => by rw [z, r.off a ain] at e; cases e)]
        exact r.pin x o e
/-- what is new, hidden and nobody's -/
theorem nw_fact {a : Addr} (r : Rel c bs F σ H ε N) (hn : H a = none) (ha : a ∈ A) : a ∈ A ++ bs ∧ a ∉ F ∧ c.P a = none ∧ a ∉ c.bs0 := ⟨List.mem_append_left _ ha, fun z => r.live a (r.sub a z) hn, pin_none r hn, fun z => r.live a (r.up a z) hn⟩
theorem slot_own {i : Nat} {ts : List T} (r : Rel c bs F σ H ε N) (hl : ε[i]? = some (.is (.lst ts))) : ∃ a, σ[i]? = some (some (.ref a)) ∧ a ∉ c.b ∧ ∃ vs, H a = some (.lst vs) := by
  obtain ⟨a, vs, A0, h1, h2, _, _, _, _, hb, _⟩ := r.mutate hl
  exact ⟨a, h1, hb, vs, h2⟩
/-- a list of one's own in slot i -/
def ownL (ε : Env) (i : Nat) : Option (List T) := match ε[i]? with
  | some (.is (.lst ts)) => some ts
  | _ => none
theorem ownL_some {i : Nat} {ts : List T} (h : ownL ε i = some ts) : ε[i]? = some (.is (.lst ts)) := by
  unfold ownL at h
  split at h
  · rename_i us e
    rw [e, Option.some.inj h]
  · cases h
def onOwn (i : Nat) (k : List T → Env → Nat → Prop) (ε : Env) (N : Nat) : Prop := match ownL ε i with
  | some ts => k ts ε N
  | none => False
theorem onOwn_some {i : Nat} {k : List T → Env → Nat → Prop} (h : onOwn i k ε N) : ∃ ts, ε[i]? = some (.is (.lst ts)) ∧ k ts ε N := by
  unfold onOwn at h
  split at h
  · rename_i ts e
    exact ⟨ts, ownL_some e, h⟩
  · exact h.elim
/-- x.append(e) -/
def wApp (i : Nat) (wt : WT) : WS := fun D => onOwn i fun ts ε N => wt ε N fun t N' => ts.length ≤ 100000 ∧ D.nx (ε.set i (.is (.lst (ts ++ [t])))) N'
theorem sim_app {K : PySem.W.Frag} {i : Nat} (h : SimT te wt) : SimS (tDrop (tBM K "list" rAppend (tVar i) (tCons te tNil))) (wApp i wt) := fun {c bs F σ H ε N DW D} r w m => by
  obtain ⟨ts, hl, w⟩ := onOwn_some w
  obtain ⟨a, hs, hab, vs, hH⟩ := slot_own r hl
  refine ⟨.ref a, hs, .inl ⟨rfl, vs, SqL.of hH⟩, h r w fun v t B N' H' hR o n => ?_⟩
  have r1 := r.hide o n.new n.rep.own
  obtain ⟨a2, vs2, A0, g1, g2, g3, g4, g5, g6, g7, g8, g9, g10, g11⟩ := r1.mutate hl
  have ea : a2 = a := by
    have := g1.symm.trans hs
    cases this
    rfl
  subst ea
  have dis : ∀ x ∈ A0, x ∉ B := fun x hx z => r.live x (r.sub x (g10 x hx)) (n.new x z)
  obtain ⟨F', r2⟩ := g11 (g3.append (RepL.one n.rep)) (nodup_app g4 n.nd dis) (fun z => (List.mem_append.mp z).elim g5 fun h => r.live a2 (r.sub a2 g9) (n.new a2 h)) (fun x hx => (List.mem_append.mp hx).elim .inl fun h => .inr (nw_fact r (n.new x h) h))
  exact ⟨a2, vs2, v, rfl, rfl, g2, by rw [g3.len]; exact Nat.lt_of_le_of_lt hR.1 (by decide), m.nx r2 hR.2⟩
/-! parts of a row of things -/
theorem RepL.split : ∀ {vs : List V} {ts : List T} {A : List Addr}, RepL bs H vs ts A → ∀ {k : Nat} {t : T}, ts[k]? = some t → ∃ v A1 Av A2, vs[k]? = some v ∧ Rep bs H v t Av ∧ A = A1 ++ (Av ++ A2) ∧ RepL bs H (vs.eraseIdx k) (ts.eraseIdx k) (A1 ++ A2) ∧
    ∀ {v' : V} {t' : T} {B : List Addr}, Rep bs H v' t' B → RepL bs H (vs.set k v') (ts.set k t') (A1 ++ (B ++ A2))
  | _, _, _, .nil, k, t, e => by cases e
  | _, _, _, .cons (v := v) (A := A) (B := B) h q, 0, t, e => by
    have e' := Option.some.inj e
    subst e'
    refine ⟨v, [], A, B, rfl, h, rfl, q, fun {v' t' B'} h' => ?_⟩
    exact RepL.cons (A := B') (B := B) h' q
  | _, _, _, .cons (v := v) (A := A) (B := B) h q, k + 1, t, e => by
    obtain ⟨v2, A1, Av, A2, p1, p2, p3, p4, p5⟩ := q.split (k := k) (t := t) e
    refine ⟨v2, A ++ A1, Av, A2, p1, p2, by rw [p3, List.append_assoc], ?_, fun {v' t' B'} h' => ?_⟩
    · rw [List.append_assoc]
      exact .cons h p4
    · rw [List.append_assoc]
      exact .cons h (p5 h')
/-- x.reverse(), x.clear() -/
def wRev (i : Nat) : WS := fun D => onOwn i fun ts ε N => D.nx (ε.set i (.is (.lst ts.reverse))) N
def wClr (i : Nat) : WS := fun D => onOwn i fun ts ε N => D.nx (ε.set i (.is (.lst []))) N
/-- x.extend(e), what e has being shared -/
def wExt (i : Nat) (we : WE) : WS := fun D => onOwn i fun ts ε N => we ε N fun d N' => match d with
  | .list ds => ts.length + ds.length ≤ 100000 ∧ D.nx (ε.set i (.is (.lst (ts ++ ds.map T.sh)))) N'
  | _ => False
/-- x[k] = e -/
def wSet (i : Nat) (wk : WE) (wt : WT) : WS := fun D => onOwn i fun ts ε N => wt ε N fun t N1 => wk ε N1 fun d N2 => match d with
  | .int k => ∃ j, ixN ts.length k = some j ∧ D.nx (ε.set i (.is (.lst (ts.set j t)))) N2
  | _ => False
/-- y = x.pop(k), what is popped being shared -/
def wPop (i : Nat) (wk : WE) (wg : WG) : WS := fun D => onOwn i fun ts ε N => wk ε N fun d N1 => match d with
  | .int k => (0 ≤ k ∧ k < ts.length ∧ k ≤ 1000000) ∧ ∃ d, ts[k.toNat]? = some (.sh d) ∧ wg d (ε.set i (.is (.lst (ts.eraseIdx k.toNat)))) fun ε' => D.nx ε' N1
  | _ => False
end
end Cg

set_option Elab.async false
set_option linter.all false
set_option maxRecDepth 100000
set_option maxHeartbeats 1000000
namespace Cg
open PySem PySem.Spec PyProof.Rows L2 Evl
section
variable {ta tb te : TE} {wa wb we : WE} {wt : WT} {t : TT} {w : WB} {ts us : TS} {ws wu : WS} {tas : TA} {was : WA} {c : Base} {bs F A B : List Addr} {σ : L2.St} {H H1 : Hp} {ε : Env} {N N1 : Nat} {v : V} {x : T} {vs : List Nat}
/-! ### loops -/
def pinB (c : Base) (bs F : List Addr) (H : Hp) : Base := { c with P := hid (F ++ c.b) H, V := hid bs H }
theorem Rel.pinned (r : Rel c bs F σ H ε N) : Rel (pinB c bs F H) bs F σ H ε N where
  env := r.env
  nd := r.nd
  sub := r.sub
  off := fun a ha => hid_in (List.mem_append_left _ ha)
  nb := r.nb
  up := r.up
  bb := r.bb
  offb := fun a ha => hid_in (List.mem_append_right _ ha)
  live := r.live
  nt := r.nt
  box := r.box
  pin := hid_same
  vis := Same.refl _
theorem Rel.pins (r : Rel c bs F σ H ε N) : Same c.P (hid (F ++ c.b) H) := fun a o e => by
  rw [hid_out]
  · exact r.pin a o e
  · intro z
    rcases List.mem_append.mp z with z | z
    · rw [r.off a z] at e; cases e
    · rw [r.offb a z] at e; cases e
theorem same_none {P Q : Hp} {a : Addr} (s : Same P Q) (e : Q a = none) : P a = none := by
  cases h : P a with
  | none => rfl
  | some o => rw [s a o h] at e; cases e
theorem Rel.unpin {bs' F' : List Addr} {σ' : L2.St} {H' : Hp} {ε' : Env} {M : Nat} (r : Rel c bs F σ H ε N) (q : Rel (pinB c bs F H) bs' F' σ' H' ε' M) : Rel c bs' F' σ' H' ε' M where
  env := q.env
  nd := q.nd
  sub := q.sub
  off := fun a ha => same_none r.pins (q.off a ha)
  nb := q.nb
  up := q.up
  bb := q.bb
  offb := r.offb
  live := q.live
  nt := q.nt
  box := q.box
  pin := r.pins.trans q.pin
  vis := r.vis.trans q.vis
theorem Ret.unpin {M : Nat} {H' : Hp} (r : Rel c bs F σ H ε N) (q : Ret (pinB c bs F H) v x A H' M) : Ret c v x A H' M := ⟨q.rep, q.nd, fun a ha => same_none r.pins (q.off a ha), q.nb, q.box, r.pins.trans q.pin⟩
/-- for .. in ..: I is what holds ahead of each turn -/
def wFor (wi : WI) (wg : WG) (wb : WS) : WS := fun D ε N => wi ε N fun ds N1 => ∃ I : Nat → Env → Nat → Prop, I 0 ε N1 ∧ (∀ k d ε M, ds[k]? = some d → I k ε M → wg d ε fun ε2 => wb { D with nx := I (k + 1), ct := I (k + 1), bk := D.nx } ε2 M) ∧ ∀ ε M, I ds.length ε M → D.nx ε M
theorem sim_for {ti : TI} {wi : WI} {g : TG} {wg : WG} (hi : SimI ti wi) (hg : SimG vs g wg) (hb : SimS ts ws) : SimS (tFor ti g ts) (wFor wi wg ws) := fun {c bs F σ H ε N DW D} r w m => hi r w fun J ds N1 H1 w1 o1 Y => by
  obtain ⟨I, i0, step, fin⟩ := w1
  have r1 := r.out o1
  refine ⟨fun i k σ' H' => i + k = ds.length ∧ ∃ bs' F' ε' M, Rel (pinB c bs F H1) bs' F' σ' H' ε' M ∧ I i ε' M, ⟨ds.length, by omega, bs, F, ε, N1, r1.pinned, i0⟩, fun i k σ' H' hw => ?_⟩
  obtain ⟨e, bs', F', ε', M, q, hI⟩ := hw
  cases k with
  | zero =>
    obtain rfl : i = ds.length := by omega
    exact .inl ⟨Y.stop H' bs' q.vis, m.nx (r1.unpin q) (fin ε' M hI)⟩
  | succ k =>
    refine .inr ⟨Y.go i H' bs' (by omega) q.vis, fun σ2 H2 => ∃ bs2 F2 ε2 M2, Rel (pinB c bs F H1) bs2 F2 σ2 H2 ε2 M2 ∧ I (i + 1) ε2 M2, fun σ2 H2 h2 => ⟨k, by omega, by omega, h2⟩, fun y H2 hy => ?_⟩
    obtain ⟨sm, d, gd, dx⟩ := Y.yld i y H' H2 bs' (by omega) q.vis q.live hy
    refine hg (q.ext sm) dx (step i d ε' M gd hI) fun F3 σ3 ε3 r3 _ w3 => hb r3 w3 ⟨fun r4 w4 => ⟨_, _, _, _, r4, w4⟩, fun r4 w4 => m.rt (r4.unpin r1) w4, fun r4 w4 => m.nx (r1.unpin r4) w4, fun r4 w4 => ⟨_, _, _, _, r4, w4⟩, fun r4 p4 n4 a4 w4 => m.rx (r1.unpin r4) p4 n4 (fun a ha => ⟨(a4 a ha).1, (a4 a ha).2.1, same_none r1.pins (a4 a ha).2.2.1, (a4 a ha).2.2.2⟩) w4⟩
def wWhile (w : WB) (ws : WS) : WS := fun D ε N => ∃ I : Nat → Env → Nat → Prop, (∃ m, I m ε N) ∧ ∀ m ε N, I m ε N → w ε N fun b N1 => match b with
  | true => ws { D with nx := fun ε N => ∃ m', m' < m ∧ I m' ε N, ct := fun ε N => ∃ m', m' < m ∧ I m' ε N, bk := D.nx } ε N1
  | false => D.nx ε N1
theorem sim_while (h : SimB t w) (hb : SimS ts ws) : SimS (tWhile t ts) (wWhile w ws) := fun {c bs F σ H ε N DW D} r ww m => by
  obtain ⟨I, ⟨m0, i0⟩, step⟩ := ww
  refine ⟨fun k σ' H' => ∃ bs' F' ε' M, Rel c bs' F' σ' H' ε' M ∧ I k ε' M, ⟨m0, bs, F, ε, N, r, i0⟩, fun k σ' H' hw => ?_⟩
  obtain ⟨bs', F', ε', M, q, hI⟩ := hw
  refine h q (step k ε' M hI) fun b N1 H1 w1 o1 => ?_
  cases b with
  | true =>
    refine iteT ⟨fun σ2 H2 => ∃ bs2 F2 ε2 M2, Rel c bs2 F2 σ2 H2 ε2 M2 ∧ ∃ m', m' < k ∧ I m' ε2 M2, fun σ2 H2 h2 => ?_, hb (q.out o1) w1 ⟨fun r4 w4 => ⟨_, _, _, _, r4, w4⟩, m.rt, fun r4 w4 => m.nx r4 w4, fun r4 w4 => ⟨_, _, _, _, r4, w4⟩, m.rx⟩⟩
    obtain ⟨bs2, F2, ε2, M2, r2, m', hm, hI2⟩ := h2
    exact ⟨m', hm, bs2, F2, ε2, M2, r2, hI2⟩
  | false => exact iteF (m.nx (q.out o1) w1)
/-! ### what was its own is shared from now on -/
theorem Rel.freeze {i : Nat} {y : T} (r : Rel c bs F σ H ε N) (hl : ε[i]? = some (.is y)) : ∃ bs' F', Rel c bs' F' σ H (ε.set i (.is (.sh y.data))) N := by
  obtain ⟨z, A, F1, F2, q1, q2, rfl, q4⟩ := r.env.at hl
  cases q2 with
  | is q2 =>
    rename_i v
    have hA : ∀ a ∈ A, a ∈ F1 ++ (A ++ F2) := fun a ha => List.mem_append_right _ (List.mem_append_left _ ha)
    let bs' := bs.filter fun a => !decide (a ∈ A)
    have hs : ∀ a, a ∈ bs' ↔ a ∈ bs ∧ a ∉ A := fun a => by
      show a ∈ bs.filter _ ↔ _
      rw [List.mem_filter]
      simp
    have less : Same (hid bs H) (hid bs' H) := hid_less fun a ha => ((hs a).mp ha).1
    have nt' : NoTup bs' H := fun a ha => r.nt a ((hs a).mp ha).1
    have dq : Dq (hid bs' H) v y.data := Rep.data nt' (fun a ha => ((hs a).mp ha).1) (fun a ha z => ((hs a).mp z).2 ha) q2
    have env := q4 (cs := bs') (H' := H) (y := some v) (m := .is (.sh y.data)) r.nt less (fun _ _ _ e => e) (.is (.sh dq))
    rw [set_same q1] at env
    have hm : ∀ a ∈ F1 ++ ([] ++ F2), a ∈ F1 ++ (A ++ F2) ∧ a ∉ A := fun a ha => by
      obtain ⟨_, p2, p3⟩ := List.nodup_append.mp r.nd
      rcases List.mem_append.mp ha with h | h
      · exact ⟨List.mem_append_left _ h, fun z => p3 a h a (List.mem_append_left _ z) rfl⟩
      · exact ⟨List.mem_append_right _ (List.mem_append_right _ h), fun z => (List.nodup_append.mp p2).2.2 a z a h rfl⟩
    exact ⟨bs', F1 ++ ([] ++ F2), env, nodup_mid r.nd List.nodup_nil (fun _ z => nomatch z), fun a ha => (hs a).mpr ⟨r.sub a (hm a ha).1, (hm a ha).2⟩, fun a ha => r.off a (hm a ha).1, fun a ha => r.nb a (hm a ha).1, fun a ha => (hs a).mpr ⟨r.up a ha, fun z => r.nb a (hA a z) ha⟩, r.bb, r.offb, fun a ha => r.live a ((hs a).mp ha).1, nt', r.box, r.pin, r.vis.trans less⟩
def wFrz (i : Nat) (ws : WS) : WS := fun D ε N => match ε[i]? with
  | some (.is y) => ws D (ε.set i (.is (.sh y.data))) N
  | _ => False
/-! ### defs -/
abbrev WF := List PyData → Nat → (T → Nat → Prop) → Prop
def env0 (bx : Bool) (ds : List PyData) (k : Nat) : Env := (if bx then [Sl.box] else []) ++ (ds.map (fun d => Sl.is (.sh d)) ++ List.replicate k Sl.no)
def wFn (bx : Bool) (n k : Nat) (ws : WS) : WF := fun ds N R => ds.length = n ∧ ws (EW.fn R) (env0 bx ds k) N
def spW (bx : Bool) (n : Nat) (w : WF) : Sp := fun vs H Q _ => ∃ (b bs : List Addr) (us : List V) (ds : List PyData) (N : Nat) (R : T → Nat → Prop), vs = b.map V.ref ++ us ∧ b.length = (if bx then 1 else 0) ∧ us.length = n ∧ (∀ a ∈ b, a ∈ bs) ∧ Live bs H ∧ NoTup bs H ∧ (∀ a ∈ b, Box H a N) ∧ DqAll (hid bs H) us ds ∧ w ds N R ∧
  ∀ v t A N' H', R t N' → Keep b H H' → (∀ a ∈ b, Box H' a N') → Nw bs A H H' v t → Q v H'
theorem spW_len {bx : Bool} {n : Nat} {w : WF} {vs : List V} {H : Hp} {Q : VK} {E : XK} (h : spW bx n w vs H Q E) : vs.length = (if bx then 1 else 0) + n := by
  obtain ⟨b, bs, us, ds, N, R, rfl, hb, hu, _⟩ := h
  rw [List.length_append, List.length_map, hb, hu]
theorem env_start {b bs : List Addr} {bx : Bool} (hb : b.length = (if bx then 1 else 0)) {us : List V} {ds : List PyData} (h : DqAll (hid bs H) us ds) (k : Nat) : RelE b bs H (((b.map V.ref ++ us).map some) ++ List.replicate k none) (env0 bx ds k) [] := by
  have tail : ∀ k : Nat, RelE b bs H (List.replicate k none) (List.replicate k Sl.no) [] := fun k => by
    induction k with
    | zero => exact .nil
    | succ k ih => exact .no ih
  have mid : ∀ {us : List V} {ds : List PyData}, DqAll (hid bs H) us ds → RelE b bs H (us.map some ++ List.replicate k none) (ds.map (fun d => Sl.is (.sh d)) ++ List.replicate k Sl.no) [] := fun {us ds} h => by
    induction us generalizing ds with
    | nil =>
      cases h
      exact tail k
    | cons u us ih =>
      cases h with
      | cons h1 t1 => exact RelE.is (A := []) (.sh h1) (ih t1)
  unfold env0
  cases bx with
  | false =>
    have e : b = [] := List.length_eq_zero_iff.mp hb
    subst e
    exact mid h
  | true =>
    match b, hb with
    | [a], _ => exact .box rfl (mid h)
/-- a def's body, from its promise -/
theorem run_w {bx : Bool} {n k : Nat} {Nm : List Str} {vs : List V} {Q : VK} {E : XK} (h : SimS ts ws) (hN : Nm.length = (if bx then 1 else 0) + n + k) (sp : spW bx n (wFn bx n k ws) vs H Q E) : ts { nx := fun _ H' => Q .non H', rt := Q } (L2.start Nm vs) H := by
  have hl := spW_len sp
  obtain ⟨b, bs, us, ds, N, R, rfl, hb, hu, hsub, lv, nt, bx', hd, ⟨_, hw⟩, q⟩ := sp
  have es : L2.start Nm (b.map V.ref ++ us) = ((b.map V.ref ++ us).map some) ++ List.replicate k none := by
    unfold L2.start
    rw [hl, hN]
    congr 2
    omega
  rw [es]
  let c : Base := ⟨b, bs, hid b H, hid bs H⟩
  have r : Rel c bs [] (((b.map V.ref ++ us).map some) ++ List.replicate k none) H (env0 bx ds k) N := ⟨env_start hb hd k, List.nodup_nil, (fun _ z => nomatch z), (fun _ z => nomatch z), (fun _ z => nomatch z), fun _ h => h, hsub, fun a ha => hid_in ha, lv, nt, bx', hid_same, Same.refl _⟩
  have ret : ∀ {v : V} {t : T} {A : List Addr} {H' : Hp} {M : Nat}, Ret c v t A H' M → R t M → Q v H' := fun {v t A H' M} rt hR => by
    have kp : Keep b H H' := fun a o e => by
      obtain ⟨h1, h2⟩ := hid_some e
      rw [hid_out h1]
      exact rt.pin a o e
    refine q v t A M H' hR kp rt.box ⟨rt.rep, rt.nd, fun a ha => ?_⟩
    have h1 : hid b H a = none := rt.off a ha
    rw [hid_out (fun z => rt.nb a ha (hsub a z))] at h1
    exact h1
  exact h r hw ⟨fun r2 w2 => ret (r2.ret r2.self (Nw.sh .non)) w2, fun rt w2 => ret rt w2, fun _ w2 => w2.elim, fun _ w2 => w2.elim, fun _ _ _ _ w2 => w2.elim⟩
/-! ### calls of defs -/
def wCallT (f : WF) (was : WA) : WT := fun ε N R => was ε N fun ds N1 => f ds 0 fun t _ => R t N1
def wCall (f : WF) (was : WA) : WE := fun ε N R => was ε N fun ds N1 => f ds 0 fun t _ => R t.data N1
theorem sim_callT {n : Nat} {f : WF} (hn : ∀ {ds N R}, f ds N R → ds.length = n) (h : SimA tas was) : SimT (tCall (spW false n f) [] E0 tas) (wCallT f was) := fun {c bs F σ H ε N R Q} r w q => h r w fun us ds N1 H1 w1 o1 hd => by
  show spW false n f (us ++ []) H1 Q E0
  rw [List.append_nil]
  refine ⟨[], bs, us, ds, 0, fun t _ => R t N1, rfl, rfl, hd.len.trans (hn w1), (fun _ z => nomatch z), out_live o1 r.live, out_notup o1 r.live r.nt, (fun _ z => nomatch z), hd, w1, fun v t A N' H' hR kp _ n => ?_⟩
  have sm : Same H1 H' := fun a o e => kp.get List.not_mem_nil e
  exact q v t A N1 H' hR (o1.ext sm) (n.back o1)
theorem sim_call {n : Nat} {f : WF} (hn : ∀ {ds N R}, f ds N R → ds.length = n) (h : SimA tas was) : SimE (tCall (spW false n f) [] E0 tas) (wCall f was) := by
  show SimE _ (wFz (wCallT f was))
  exact sim_fz (sim_callT hn h)
def isBox (ε : Env) (i : Nat) : Bool := match ε[i]? with
  | some .box => true
  | _ => false
theorem box_slot {i : Nat} (r : Rel c bs F σ H ε N) (h : isBox ε i = true) : ∃ a, c.b = [a] ∧ σ[i]? = some (some (.ref a)) := by
  unfold isBox at h
  split at h
  · rename_i e
    obtain ⟨x, A, F1, F2, hx, hr, _, _⟩ := r.env.at e
    cases hr with
    | box eb => exact ⟨_, eb, hx⟩
  · cases h
def wCallBT (i : Nat) (f : WF) (was : WA) : WT := fun ε N R => isBox ε i = true ∧ was ε N fun ds N1 => f ds N1 R
def wCallB (i : Nat) (f : WF) (was : WA) : WE := fun ε N R => isBox ε i = true ∧ was ε N fun ds N1 => f ds N1 fun t N2 => R t.data N2
theorem sim_callBT {n i : Nat} {f : WF} (hn : ∀ {ds N R}, f ds N R → ds.length = n) (h : SimA tas was) : SimT (tCall (spW true n f) [] E0 (tCons (tVar i) tas)) (wCallBT i f was) := fun {c bs F σ H ε N R Q} r w q => by
  obtain ⟨hb, w⟩ := w
  obtain ⟨a, eb, hs⟩ := box_slot r hb
  refine ⟨.ref a, hs, h r w fun us ds N1 H1 w1 o1 hd => ?_⟩
  show spW true n f (.ref a :: us ++ []) H1 Q E0
  rw [List.append_nil]
  have r1 := r.out o1
  refine ⟨c.b, bs, us, ds, N1, R, by rw [eb]; rfl, by rw [eb]; rfl, hd.len.trans (hn w1), r.bin, r1.live, r1.nt, r1.box, hd, w1, fun v t A N' H' hR kp bx n => ?_⟩
  exact q v t A N' H' hR (o1.trans ⟨kp, bx⟩) (n.back o1)
theorem sim_callB {n i : Nat} {f : WF} (hn : ∀ {ds N R}, f ds N R → ds.length = n) (h : SimA tas was) : SimE (tCall (spW true n f) [] E0 (tCons (tVar i) tas)) (wCallB i f was) := by
  show SimE _ (wFz (wCallBT i f was))
  exact sim_fz (sim_callBT hn h)
end
end Cg

set_option Elab.async false
set_option linter.all false
set_option maxRecDepth 100000
set_option maxHeartbeats 1000000
namespace Cg
open PySem PySem.Spec PyProof.Rows L2 Evl
section
variable {ta tb te : TE} {wa wb we : WE} {wt : WT} {t : TT} {w : WB} {ts us : TS} {ws wu : WS} {tas : TA} {was : WA} {c : Base} {bs F A B : List Addr} {σ : L2.St} {H H1 : Hp} {ε : Env} {N N1 : Nat} {v : V} {x : T}
/-! ### several names at once -/
def setsV : List Nat → List V → L2.St → L2.St
  | i :: is, v :: vs, σ => setsV is vs (σ.set i (some v))
  | _, _, σ => σ
def setsE : List Nat → List T → Env → Env
  | i :: is, t :: ts, ε => setsE is ts (ε.set i (.is t))
  | _, _, ε => ε
theorem Rel.puts : ∀ {is : List Nat} {vs : List V} {ts : List T} {A F : List Addr} {σ : L2.St} {ε : Env}, Rel c bs F σ H ε N → RepL bs H vs ts A → A.Nodup → (∀ a ∈ A, a ∈ bs ∧ a ∉ F ∧ c.P a = none ∧ a ∉ c.bs0) → ∃ F', Rel c bs F' (setsV is vs σ) H (setsE is ts ε) N
  | [], _, _, _, F, _, _, r, _, _, _ => by
    unfold setsV setsE
    exact ⟨F, r⟩
  | i :: is, _, _, _, F, _, _, r, .nil, _, _ => ⟨F, r⟩
  | i :: is, _, _, _, F, _, _, r, .cons (A := A1) (B := A2) h1 k1, nd, hA => by
    obtain ⟨n1, n2, n3⟩ := List.nodup_append.mp nd
    obtain ⟨F1, r2, m2⟩ := r.put (i := i) h1 n1 fun a ha => hA a (List.mem_append_left _ ha)
    have := Rel.puts (is := is) r2 k1 n2 fun a ha => by
      obtain ⟨f1, f2, f3⟩ := hA a (List.mem_append_right _ ha)
      refine ⟨f1, fun z => ?_, f3⟩
      cases m2 a z with
      | inl h => exact f2 h
      | inr h => exact n3 a h a ha rfl
    exact this
def wParN (is : List Nat) (wts : WTs) : WS := fun D ε N => wts ε N fun ts N' => ts.length = is.length ∧ D.nx (setsE is ts ε) N'
theorem par_core {is : List Nat} {vs : List V} {ts : List T} {H' : Hp} {N' : Nat} (r : Rel c bs F σ H ε N) (o : Out c H H' N') (n : NwL bs A H H' vs ts) : ∃ F', Rel c (A ++ bs) F' (setsV is vs σ) H' (setsE is ts ε) N' :=
  (r.hide o n.new n.rep.own).puts n.rep n.nd fun a ha => nw_fact r (n.new a ha) ha
theorem two_of {vs : List V} (h : vs.length = 2) : ∃ v u, vs = [v, u] := by
  match vs, h with
  | [v, u], _ => exact ⟨v, u, rfl⟩
theorem three_of {vs : List V} (h : vs.length = 3) : ∃ v u w, vs = [v, u, w] := by
  match vs, h with
  | [v, u, w], _ => exact ⟨v, u, w, rfl⟩
theorem sim_par2 {i j : Nat} {wts : WTs} (h : SimTs tas wts) : SimS (tPar i j tas) (wParN [i, j] wts) := fun {c bs F σ H ε N DW D} r w m => h r w fun vs ts A N' H' hR o n => by
  obtain ⟨v, u, rfl⟩ := two_of (n.rep.len.trans hR.1)
  obtain ⟨F', r'⟩ := par_core (is := [i, j]) r o n
  exact ⟨v, u, rfl, m.nx r' hR.2⟩
theorem sim_par3 {i j l : Nat} {wts : WTs} (h : SimTs tas wts) : SimS (tPar3 i j l tas) (wParN [i, j, l] wts) := fun {c bs F σ H ε N DW D} r w m => h r w fun vs ts A N' H' hR o n => by
  obtain ⟨v, u, y, rfl⟩ := three_of (n.rep.len.trans hR.1)
  obtain ⟨F', r'⟩ := par_core (is := [i, j, l]) r o n
  exact ⟨v, u, y, rfl, m.nx r' hR.2⟩
/-- by a tuple that is laid and taken apart -/
theorem NwL.ext {vs : List V} {ts : List T} {H2 : Hp} (r : Rel c bs F σ H ε N) (o : Out c H H1 N1) (n : NwL bs A H H1 vs ts) (e : Same H1 H2) : NwL bs A H H2 vs ts := ⟨RepL.chg (r.hide o n.new n.rep.own).nt (same_hid e) (fun a _ x h => e a x h) n.rep, n.nd, n.new⟩
/-! ### truth -/
def truD : PyData → Option Bool
  | .none => some false
  | .bool b => some b
  | .int i => some (i != 0)
  | .list a => some (!a.isEmpty)
  | .tuple a => some (!a.isEmpty)
  | _ => none
def wTru (we : WE) : WB := fun ε N R => we ε N fun d N1 => match truD d with
  | some b => R b N1
  | none => False
theorem isEmpty_dq {xs : List V} {ds : List PyData} (h : DqAll H xs ds) : xs.isEmpty = ds.isEmpty := by
  cases h <;> rfl
theorem sim_tru {K : PySem.W.Frag} (h : SimE te we) : SimB (fun σ H Q => te σ H fun x H' => ∃ k, TruV K x H' k ∧ Q k H') (wTru we) := fun r w q => h r w fun v d N1 H1 w1 o1 hd => by
  cases hd <;> first | exact False.elim w1 | skip
  · exact ⟨_, rfl, q _ N1 H1 w1 o1⟩
  · exact ⟨_, rfl, q _ N1 H1 w1 o1⟩
  · exact ⟨_, rfl, q _ N1 H1 w1 o1⟩
  · rename_i a xs ds e1 h1
    exact ⟨!xs.isEmpty, .inl ⟨xs, SqL.of (hid_some e1).2, rfl⟩, by rw [isEmpty_dq h1]; exact q _ N1 H1 w1 o1⟩
  · rename_i a xs ds e1 h1
    exact ⟨!xs.isEmpty, .inr (.inl ⟨xs, SqT.of (hid_some e1).2, rfl⟩), by rw [isEmpty_dq h1]; exact q _ N1 H1 w1 o1⟩
end
/-! ### draws -/
def w_take : WF := fun ds N R => match ds with
  | [.int m] => (1 ≤ m ∧ m ≤ 10000000 ∧ N ≤ 1000000000) ∧ ∀ k : Nat, (k : Int) < m → R (.sh (.int (k : Int))) (N + 1)
  | _ => False
theorem w_take_len {ds : List PyData} {N : Nat} {R : T → Nat → Prop} (h : w_take ds N R) : ds.length = 1 := by
  unfold w_take at h
  split at h
  · rfl
  · exact h.elim
theorem sp_take {vs : List V} {H : Hp} {Q : VK} {E : XK} (h : spW true 1 w_take vs H Q E) : spTake vs H Q E := by
  obtain ⟨b, bs, us, ds, N, R, rfl, hb, hu, hsub, lv, nt, bx, hd, hw, q⟩ := h
  match b, hb with
  | [a], _ =>
    unfold w_take at hw
    split at hw
    · rename_i m
      obtain ⟨v, rfl, hv⟩ := dq1 hd
      cases hv
      obtain ⟨⟨h1, h2, h3⟩, hk⟩ := hw
      refine ⟨a, m, N, rfl, bx a (List.mem_singleton.mpr rfl), h3, h1, h2, fun k H' k0 k1 hB kp => ?_⟩
      have e : k = ((k.toNat : Nat) : Int) := by omega
      rw [e]
      refine q _ _ [] (N + 1) H' (hk k.toNat (by omega)) kp (fun x hx => ?_) (Nw.sh (.int _))
      rw [List.mem_singleton.mp hx]
      exact hB
    · exact hw.elim
/-! ### alike, kind by kind -/
def w_same (n : Nat) : WF := fun ds N R => match ds with
  | [d, e] => d = e ∧ Okn n d ∧ R (.sh (.bool true)) N
  | _ => False
/-! ### the law's one turn, and the law -/
/-- asked of a box: True, at most C draws -/
def spRt (L C : Nat) : Sp := fun vs H Q _ => ∃ (b : Addr) (N : Nat), vs = [.ref b] ∧ Box H b N ∧ N ≤ L ∧ ∀ H', Keep [b] H H' → Box H' b (N + C) → Q (.bl true) H'
theorem sp_right {L C : Nat} {f : WF} (hf : ∀ N, N ≤ L → f [] N fun t N' => t.data = .bool true ∧ N' ≤ N + C) {vs : List V} {H : Hp} {Q : VK} {E : XK} (h : spRt L C vs H Q E) : spW true 0 f vs H Q E := by
  obtain ⟨b, N, rfl, hB, hN, q⟩ := h
  refine ⟨[b], [b], [], [], N, _, rfl, rfl, rfl, fun _ h => h, fun a ha => ?_, fun a ha xs => ?_, fun a ha => ?_, .nil, hf N hN, fun v t A N' H' hR kp bx n => ?_⟩
  · rw [List.mem_singleton.mp ha]; exact hB.is
  · rw [List.mem_singleton.mp ha]; exact box_tup hB
  · rw [List.mem_singleton.mp ha]; exact hB
  · have hBx := bx b (List.mem_singleton.mpr rfl)
    have hd := n.data (fun a ha => by rw [List.mem_singleton.mp ha]; exact hB.is) (fun a ha xs => by rw [List.mem_singleton.mp ha]; exact box_tup hBx)
    rw [hR.1] at hd
    cases hd
    exact q H' kp (hBx.le hR.2)
def spLaw (K : PySem.W.Frag) : Sp := fun vs H Q _ => ∃ (a : Addr) (ns : List Int), vs = [.ref a] ∧ SqL K H a (ns.map V.int) ∧ ns.length ≤ 63 ∧ ∀ H', Q (.bl true) H'
/-- the built-ins that the text asks are the built-ins still -/
structure Bm (mg : Str → Option Value) : Prop where
  int : mg "int" = none
  bool : mg "bool" = none
  list : mg "list" = none
  tuple : mg "tuple" = none
  str : mg "str" = none
  len : mg "len" = none
  all : mg "all" = none
  isinstance : mg "isinstance" = none
  range : mg "range" = none
  enumerate : mg "enumerate" = none
  zip : mg "zip" = none
  repr : mg "repr" = none
  abs : mg "abs" = none
  min : mg "min" = none
  max : mg "max" = none
  divmod : mg "divmod" = none
  sum : mg "sum" = none
  sorted : mg "sorted" = none
  any : mg "any" = none
  set : mg "set" = none
  reversed : mg "reversed" = none
  dict : mg "dict" = none
theorem Bm.bl {mg : Str → Option Value} (B : Bm mg) : Bl mg := ⟨B.int, B.bool, B.list, B.tuple, B.str, B.len, B.all, B.isinstance, B.range, B.enumerate, B.zip, B.repr, B.abs, B.min, B.max, B.divmod⟩
section
variable {X : Cx}
theorem ixSK (K : PySem.W.Frag) (hK : X.K = K := by rfl) : IxR X (rIx K) := by subst hK; exact ix_seq
theorem pt_truthK (K : PySem.W.Frag) {a : Expr} {ta : TE} (ha : PE X a ta) (he : ∀ whole, isTrue a X.env whole = (do let v ← whole; standAt a.pos; holding [v] (truthy v))) (hK : X.K = K := by rfl) : PT X a (fun σ H Q => ta σ H fun x H' => ∃ k, TruV K x H' k ∧ Q k H') := by subst hK; exact pt_truth ha he
end
end Cg

set_option Elab.async false
set_option linter.all false
set_option maxRecDepth 100000
set_option maxHeartbeats 1000000
namespace Cg
open PySem PySem.Spec PyProof.Rows L2 Evl
/-! ### equations for reckoning -/
section
variable {ε : Env} {N : Nat} {R : PyData → Nat → Prop} {S : PyData → Prop} {d e : PyData} {i : Nat} {t : T} {D : EW} {ts : List T} {a b : List PyData} {x y : Int} {p q : Bool} {kd : Bool}
def atSh (o : Option Sl) (k : PyData → Prop) : Prop := match o with
  | some (.is (.sh d)) => k d
  | _ => False
def atIs (o : Option Sl) (k : T → Prop) : Prop := match o with
  | some (.is t) => k t
  | _ => False
def atOwn (o : Option Sl) (k : List T → Prop) : Prop := match o with
  | some (.is (.lst ts)) => k ts
  | _ => False
def atBox (o : Option Sl) : Prop := match o with
  | some .box => True
  | _ => False
def bIf (b : Bool) (A B : Prop) : Prop := match b with
  | true => A
  | false => B
def dBool (d : PyData) (k : Bool → Prop) : Prop := match d with
  | .bool b => k b
  | _ => False
def dInt (d : PyData) (k : Int → Prop) : Prop := match d with
  | .int b => k b
  | _ => False
def dTup (d : PyData) (k : List PyData → Prop) : Prop := match d with
  | .tuple b => k b
  | _ => False
def dList (d : PyData) (k : List PyData → Prop) : Prop := match d with
  | .list b => k b
  | _ => False
def dSeq (d : PyData) (k : List PyData → Prop) : Prop := match seqOf d with
  | some ds => k ds
  | none => False
def dTru (d : PyData) (k : Bool → Prop) : Prop := match truD d with
  | some b => k b
  | none => False
def dCons (ds : List PyData) (k : PyData → List PyData → Prop) : Prop := match ds with
  | d :: r => k d r
  | [] => False
section
variable {k : PyData → Prop} {kt : T → Prop} {kl : List T → Prop} {kb : Bool → Prop} {ki : Int → Prop} {kd' : List PyData → Prop} {A B : Prop}
theorem atSh_is : atSh (some (.is (.sh d))) k = k d := propext Iff.rfl
theorem atIs_is : atIs (some (.is t)) kt = kt t := propext Iff.rfl
theorem atOwn_is : atOwn (some (.is (.lst ts))) kl = kl ts := propext Iff.rfl
theorem atBox_is : atBox (some .box) = True := propext Iff.rfl
theorem bIf_t : bIf true A B = A := propext Iff.rfl
theorem bIf_f : bIf false A B = B := propext Iff.rfl
theorem bIf_not : bIf (!p) A B = bIf p B A := by cases p <;> exact propext Iff.rfl
theorem bIf_of (h : p = true → A) (h' : p = false → B) : bIf p A B := by cases p with | true => exact h rfl | false => exact h' rfl
theorem bIf_dec {Q : Prop} [Decidable Q] (h : Q → A) (h' : ¬ Q → B) : bIf (decide Q) A B := bIf_of (fun e => h (of_decide_eq_true e)) fun e => h' (of_decide_eq_false e)
theorem bIf_beq (h : x = y → A) (h' : x ≠ y → B) : bIf (x == y) A B := bIf_of (fun e => h (eq_of_beq e)) fun e => h' (fun z => by rw [z, beq_self_eq_true] at e; cases e)
theorem dBool_is : dBool (.bool p) kb = kb p := propext Iff.rfl
theorem dInt_is : dInt (.int x) ki = ki x := propext Iff.rfl
theorem dTup_is : dTup (.tuple a) kd' = kd' a := propext Iff.rfl
theorem dList_is : dList (.list a) kd' = kd' a := propext Iff.rfl
theorem dSeq_list : dSeq (.list a) kd' = kd' a := propext Iff.rfl
theorem dSeq_tup : dSeq (.tuple a) kd' = kd' a := propext Iff.rfl
theorem dSeq_seq : dSeq (seqD kd a) kd' = kd' a := by cases kd <;> exact propext Iff.rfl
theorem dTru_none : dTru .none kb = kb false := propext Iff.rfl
theorem dTru_bool : dTru (.bool p) kb = kb p := propext Iff.rfl
theorem dTru_int : dTru (.int x) kb = kb (x != 0) := propext Iff.rfl
theorem dTru_list : dTru (.list a) kb = kb (!a.isEmpty) := propext Iff.rfl
theorem dTru_tup : dTru (.tuple a) kb = kb (!a.isEmpty) := propext Iff.rfl
theorem dCons_is {kc : PyData → List PyData → Prop} : dCons (d :: a) kc = kc d a := propext Iff.rfl
end
section
variable {RT : T → Nat → Prop} {RA : List PyData → Nat → Prop} {RB : Bool → Nat → Prop} {RO : Option Int → Nat → Prop} {RTs : List T → Nat → Prop} {RG : Env → Prop} {we wa wb wc : WE} {wt wu : WT} {wts : WTs} {was : WA} {ws wv : WS} {w w' : WB} {wo wo' : WO} {wg : WG} {wgs : WGs} {o o' : O2} {o1 : O1} {oc : OC} {on : PyData → PyData → (List PyData → Prop) → Prop} {ocn : List PyData → (List PyData → Prop) → Prop} {f : WF} {is : List Nat} {j : Nat} {g : PyData → Bool}
theorem wVar_eq : wVar i ε N R = atSh ε[i]? fun d => R d N := propext Iff.rfl
theorem wC_eq : wC d ε N R = R d N := propext Iff.rfl
theorem wRetV_eq : wRetV i D ε N = atIs ε[i]? fun t => D.rt t N := propext Iff.rfl
theorem wFrz_eq : wFrz i ws D ε N = atIs ε[i]? fun t => ws D (ε.set i (.is (.sh t.data))) N := propext Iff.rfl
theorem isBox_eq : (isBox ε i = true) = atBox ε[i]? := by
  unfold isBox atBox
  cases ε[i]? with
  | none => exact propext ⟨(fun h => nomatch h), fun h => h.elim⟩
  | some l => cases l with
    | no => exact propext ⟨(fun h => nomatch h), fun h => h.elim⟩
    | box => exact propext ⟨fun _ => True.intro, fun _ => rfl⟩
    | is t => exact propext ⟨(fun h => nomatch h), fun h => h.elim⟩
    | dic _ => exact propext ⟨(fun h => nomatch h), fun h => h.elim⟩
    | dcF _ => exact propext ⟨(fun h => nomatch h), fun h => h.elim⟩
    | pin _ => exact propext ⟨(fun h => nomatch h), fun h => h.elim⟩
theorem onOwn_eq {k : List T → Env → Nat → Prop} : onOwn i k ε N = atOwn ε[i]? fun ts => k ts ε N := by
  unfold onOwn ownL atOwn
  cases ε[i]? with
  | none => rfl
  | some l => cases l with
    | no => rfl
    | box => rfl
    | is t => cases t <;> rfl
    | dic _ => rfl
    | dcF _ => rfl
    | pin _ => rfl
theorem wNil_eq : wNil ε N RA = RA [] N := propext Iff.rfl
theorem wCons_eq : wCons we was ε N RA = we ε N fun d N1 => was ε N1 fun ds N2 => RA (d :: ds) N2 := propext Iff.rfl
theorem wOp_eq : wOp o wa wb ε N R = wa ε N fun d N1 => wb ε N1 fun e N2 => o d e fun f => R f N2 := propext Iff.rfl
theorem wOpT_eq : wOpT on wa wb ε N RT = wa ε N fun d N1 => wb ε N1 fun e N2 => on d e fun ds => RT (.lst (ds.map T.sh)) N2 := propext Iff.rfl
theorem wUn_eq : wUn o1 wa ε N R = wa ε N fun d N1 => o1 d fun f => R f N1 := propext Iff.rfl
theorem wCb_eq : wCb oc was ε N R = was ε N fun ds N1 => oc ds fun f => R f N1 := propext Iff.rfl
theorem wCbT_eq : wCbT ocn was ε N RT = was ε N fun ds N1 => ocn ds fun es => RT (.lst (es.map T.sh)) N1 := propext Iff.rfl
theorem wTest_eq : wTest we ε N RB = we ε N fun d N1 => dBool d fun b => RB b N1 := propext Iff.rfl
theorem wTru_eq : wTru we ε N RB = we ε N fun d N1 => dTru d fun b => RB b N1 := propext Iff.rfl
theorem wYes_eq : wYes ε N RB = RB true N := propext Iff.rfl
theorem wNot_eq : wNot w ε N RB = w ε N fun b N1 => RB (!b) N1 := propext Iff.rfl
theorem wAnd_eq : wAnd w w' ε N RB = w ε N fun b N1 => bIf b (w' ε N1 RB) (RB false N1) := propext Iff.rfl
theorem wOr_eq : wOr w w' ε N RB = w ε N fun b N1 => bIf b (RB true N1) (w' ε N1 RB) := propext Iff.rfl
theorem wAndV_eq : wAndV wa wb ε N R = wa ε N fun d N1 => dBool d fun b => bIf b (wb ε N1 R) (R (.bool false) N1) := by
  refine congrArg (wa ε N) (funext fun d => funext fun N1 => ?_)
  cases d <;> first | rfl | skip
  rename_i b
  cases b <;> rfl
theorem wOrV_eq : wOrV wa wb ε N R = wa ε N fun d N1 => dBool d fun b => bIf b (R (.bool true) N1) (wb ε N1 R) := by
  refine congrArg (wa ε N) (funext fun d => funext fun N1 => ?_)
  cases d <;> first | rfl | skip
  rename_i b
  cases b <;> rfl
theorem wNotV_eq : wNotV wa ε N R = wa ε N fun d N1 => dBool d fun b => R (.bool !b) N1 := propext Iff.rfl
theorem wIf_eq : wIf w wa wb ε N R = w ε N fun b N1 => bIf b (wa ε N1 R) (wb ε N1 R) := propext Iff.rfl
theorem wIfT_eq : wIfT w wt wu ε N RT = w ε N fun b N1 => bIf b (wt ε N1 RT) (wu ε N1 RT) := propext Iff.rfl
theorem wChain_eq : wChain o o' wa wb wc ε N R = wa ε N fun d N1 => wb ε N1 fun e N2 => o d e fun f => dBool f fun b => bIf b (wc ε N2 fun g N3 => o' e g fun f => R f N3) (R (.bool false) N2) := by
  refine congrArg (wa ε N) (funext fun d => funext fun N1 => congrArg (wb ε N1) (funext fun e => funext fun N2 => congrArg (o d e) (funext fun f => ?_)))
  cases f <;> first | rfl | skip
  rename_i b
  cases b <;> rfl
theorem wLst_eq : wLst was ε N R = was ε N fun ds N1 => ds.length ≤ 100000 ∧ R (.list ds) N1 := propext Iff.rfl
theorem wTup_eq : wTup was ε N R = was ε N fun ds N1 => ds.length ≤ 100000 ∧ R (.tuple ds) N1 := propext Iff.rfl
theorem wNilT_eq : wNilT ε N RTs = RTs [] N := propext Iff.rfl
theorem wConsT_eq : wConsT wt wts ε N RTs = wt ε N fun t N1 => wts ε N1 fun ts N2 => RTs (t :: ts) N2 := propext Iff.rfl
theorem wLstT_eq : wLstT wts ε N RT = wts ε N fun ts N1 => ts.length ≤ 100000 ∧ RT (.lst ts) N1 := propext Iff.rfl
theorem wTupT_eq : wTupT wts ε N RT = wts ε N fun ts N1 => ts.length ≤ 100000 ∧ RT (.tup ts) N1 := propext Iff.rfl
theorem wSh_eq : wSh we ε N RT = we ε N fun d N' => RT (.sh d) N' := propext Iff.rfl
theorem wFz_eq : wFz wt ε N R = wt ε N fun t N' => R t.data N' := propext Iff.rfl
theorem wVw_eq : wVw we ε N R = we (viewE ε) N fun d N' => imm d = true ∧ R d N' := propext Iff.rfl
theorem wVb_eq : wVb w ε N RB = w (viewE ε) N RB := propext Iff.rfl
theorem wVt_eq : wVt wt ε N RT = wt (viewE ε) N fun t N' => t.clean = true ∧ RT t N' := propext Iff.rfl
theorem view_nil : viewE [] = [] := by rw [viewE, List.map_nil]
theorem view_cons {l : Sl} : viewE (l :: ε) = l.view :: viewE ε := by rw [viewE, List.map_cons, viewE]
theorem view_no : Sl.view .no = .no := by unfold Sl.view; rfl
theorem view_box : Sl.view .box = .box := by unfold Sl.view; rfl
theorem view_is : Sl.view (.is t) = .is (.sh t.data) := by unfold Sl.view; rfl
theorem wCall_eq : wCall f was ε N R = was ε N fun ds N1 => f ds 0 fun t _ => R t.data N1 := propext Iff.rfl
theorem wCallT_eq : wCallT f was ε N RT = was ε N fun ds N1 => f ds 0 fun t _ => RT t N1 := propext Iff.rfl
theorem wCallB_eq : wCallB i f was ε N R = (isBox ε i = true ∧ was ε N fun ds N1 => f ds N1 fun t N2 => R t.data N2) := propext Iff.rfl
theorem wCallBT_eq : wCallBT i f was ε N RT = (isBox ε i = true ∧ was ε N fun ds N1 => f ds N1 RT) := propext Iff.rfl
theorem wIs_eq : wIs g wa ε N R = wa ε N fun d N1 => notI d = true ∧ R (.bool (g d)) N1 := propext Iff.rfl
theorem notI_none : notI .none = true := rfl
theorem notI_bool {b : Bool} : notI (.bool b) = true := rfl
theorem notI_int {i : Int} : notI (.int i) = true := rfl
theorem notI_str {x : Str} : notI (.str x) = true := rfl
theorem notI_list {ds : List PyData} : notI (.list ds) = true := rfl
theorem notI_tup {ds : List PyData} : notI (.tuple ds) = true := rfl
theorem notI_seq {k : Bool} {ds : List PyData} : notI (seqD k ds) = true := by cases k <;> rfl
theorem wNoPart_eq : wNoPart ε N RO = RO none N := propext Iff.rfl
theorem wPart_eq : wPart we ε N RO = we ε N fun d N1 => dInt d fun i => RO (some i) N1 := propext Iff.rfl
theorem wSl_eq : wSl we wo wo' ε N R = we ε N fun d N1 => wo ε N1 fun lo N2 => wo' ε N2 fun hi N3 => dList d fun a => R (.list (cutG a lo hi)) N3 := propext Iff.rfl
theorem wSlT_eq : wSlT we wo wo' ε N RT = we ε N fun d N1 => wo ε N1 fun lo N2 => wo' ε N2 fun hi N3 => dList d fun a => RT (.lst ((cutG a lo hi).map T.sh)) N3 := propext Iff.rfl
theorem wRevT_eq : wRevT we ε N RT = we ε N fun d N1 => dList d fun a => RT (.lst (a.reverse.map T.sh)) N1 := propext Iff.rfl
theorem wRgL_eq : wRgL we ε N RT = we ε N fun d N1 => dInt d fun n => (0 ≤ n ∧ n ≤ 100000) ∧ RT (.lst ((List.range n.toNat).map fun (k : Nat) => T.sh (.int (k : Int)))) N1 := propext Iff.rfl
theorem wSkip_eq : wSkip D ε N = D.nx ε N := propext Iff.rfl
theorem wBreak_eq : wBreak D ε N = D.bk ε N := propext Iff.rfl
theorem wCont_eq : wCont D ε N = D.ct ε N := propext Iff.rfl
theorem wSeq_eq : wSeq ws wv D ε N = ws (D.seq (wv D)) ε N := propext Iff.rfl
theorem seq_nx {k : Env → Nat → Prop} : (D.seq k).nx ε N = k ε N := propext Iff.rfl
theorem seq_rt {k : Env → Nat → Prop} : (D.seq k).rt t N = D.rt t N := propext Iff.rfl
theorem seq_bk {k : Env → Nat → Prop} : (D.seq k).bk ε N = D.bk ε N := propext Iff.rfl
theorem seq_ct {k : Env → Nat → Prop} : (D.seq k).ct ε N = D.ct ε N := propext Iff.rfl
theorem loop_nx {k : Env → Nat → Prop} : (D.loop k).nx ε N = k ε N := propext Iff.rfl
theorem loop_rt {k : Env → Nat → Prop} : (D.loop k).rt t N = D.rt t N := propext Iff.rfl
theorem loop_bk {k : Env → Nat → Prop} : (D.loop k).bk ε N = D.nx ε N := propext Iff.rfl
theorem loop_ct {k : Env → Nat → Prop} : (D.loop k).ct ε N = k ε N := propext Iff.rfl
theorem fn_nx {R : T → Nat → Prop} : (EW.fn R).nx ε N = R (.sh .none) N := propext Iff.rfl
theorem fn_rt {R : T → Nat → Prop} : (EW.fn R).rt t N = R t N := propext Iff.rfl
theorem wRet_eq : wRet wt D ε N = wt ε N fun t N' => D.rt t N' := propext Iff.rfl
theorem wRetN_eq : wRetN D ε N = D.rt (.sh .none) N := propext Iff.rfl
theorem wIfS_eq : wIfS w ws wv D ε N = w ε N fun b N1 => bIf b (ws D ε N1) (wv D ε N1) := propext Iff.rfl
theorem wAsgT_eq : wAsgT i wt D ε N = wt ε N fun t N' => D.nx (ε.set i (.is t)) N' := propext Iff.rfl
theorem wAsg_eq : wAsg we wg D ε N = we ε N fun d N' => wg d ε fun ε' => D.nx ε' N' := propext Iff.rfl
theorem wParN_eq : wParN is wts D ε N = wts ε N fun ts N' => ts.length = is.length ∧ D.nx (setsE is ts ε) N' := propext Iff.rfl
theorem setsE_cons {i : Nat} {is : List Nat} {t : T} {ts : List T} : setsE (i :: is) (t :: ts) ε = setsE is ts (ε.set i (.is t)) := by rw [setsE]
theorem setsE_nil : setsE [] ts ε = ε := by cases ts <;> rfl
theorem wDrop_eq : wDrop we D ε N = we ε N fun _ N' => D.nx ε N' := propext Iff.rfl
theorem wName_eq : wName i d ε RG = RG (ε.set i (.is (.sh d))) := propext Iff.rfl
theorem wGNil_eq : wGNil a ε RG = (a = [] ∧ RG ε) := propext Iff.rfl
theorem wGCons_eq : wGCons wg wgs a ε RG = dCons a fun d r => wg d ε fun ε' => wgs r ε' RG := propext Iff.rfl
theorem wGTup_eq : wGTup j wgs d ε RG = dTup d fun ds => ds.length = j ∧ wgs ds ε RG := propext Iff.rfl
theorem wApp_eq : wApp i wt D ε N = atOwn ε[i]? fun ts => wt ε N fun t N' => ts.length ≤ 100000 ∧ D.nx (ε.set i (.is (.lst (ts ++ [t])))) N' := onOwn_eq
theorem wRev_eq : wRev i D ε N = atOwn ε[i]? fun ts => D.nx (ε.set i (.is (.lst ts.reverse))) N := onOwn_eq
theorem wClr_eq : wClr i D ε N = atOwn ε[i]? fun ts => D.nx (ε.set i (.is (.lst []))) N := onOwn_eq
theorem wExt_eq : wExt i we D ε N = atOwn ε[i]? fun ts => we ε N fun d N' => dList d fun ds => ts.length + ds.length ≤ 100000 ∧ D.nx (ε.set i (.is (.lst (ts ++ ds.map T.sh)))) N' := onOwn_eq
theorem wSet_eq : wSet i we wt D ε N = atOwn ε[i]? fun ts => wt ε N fun t N1 => we ε N1 fun d N2 => dInt d fun k => ∃ j, ixN ts.length k = some j ∧ D.nx (ε.set i (.is (.lst (ts.set j t)))) N2 := onOwn_eq
theorem wPop_eq : wPop i we wg D ε N = atOwn ε[i]? fun ts => we ε N fun d N1 => dInt d fun k => (0 ≤ k ∧ k < ts.length ∧ k ≤ 1000000) ∧ ∃ d, ts[k.toNat]? = some (.sh d) ∧ wg d (ε.set i (.is (.lst (ts.eraseIdx k.toNat)))) fun ε' => D.nx ε' N1 := onOwn_eq
theorem wipe_nil : wipeE ε [] = ε := by rw [wipeE]
theorem wipe_cons : wipeE ε (i :: is) = (wipeE ε is).set i .no := by rw [wipeE]
theorem env0_f : env0 false a j = a.map (fun d => Sl.is (.sh d)) ++ List.replicate j Sl.no := by
  unfold env0
  rw [if_neg (by decide), List.nil_append]
theorem env0_t : env0 true a j = Sl.box :: (a.map (fun d => Sl.is (.sh d)) ++ List.replicate j Sl.no) := by
  unfold env0
  rw [if_pos rfl]
  rfl
end
theorem oI_int {C : Int → Int → Prop} {g : Int → Int → PyData} : oI C g (.int x) (.int y) S = (C x y ∧ S (g x y)) := propext Iff.rfl
theorem oI0_int {g : Int → Int → PyData} : oI0 g (.int x) (.int y) S = S (g x y) := propext Iff.rfl
theorem oAdd_int : oAdd (.int x) (.int y) S = S (.int (x + y)) := propext Iff.rfl
theorem oAdd_list : oAdd (.list a) (.list b) S = (a.length + b.length ≤ 1000000 ∧ S (.list (a ++ b))) := propext Iff.rfl
theorem oMul_int : oMul (.int x) (.int y) S = (CMul x y ∧ S (.int (x * y))) := propext Iff.rfl
theorem oMul_list : oMul (.list a) (.int x) S = ((0 ≤ x ∧ x ≤ 1000000 ∧ a.length * x.toNat ≤ 1000000) ∧ S (.list (List.replicate x.toNat a).flatten)) := propext Iff.rfl
theorem oNeg_int : oNeg (.int x) S = S (.int (-x)) := propext Iff.rfl
theorem oEq_int : oEq (.int x) (.int y) S = S (.bool (x == y)) := propext Iff.rfl
theorem oEq_bool : oEq (.bool p) (.bool q) S = S (.bool (p == q)) := propext Iff.rfl
theorem oEq_nn : oEq .none .none S = S (.bool true) := propext Iff.rfl
theorem oEq_in : oEq (.int x) .none S = S (.bool false) := propext Iff.rfl
theorem oEq_ni : oEq .none (.int x) S = S (.bool false) := propext Iff.rfl
theorem oNe_int : oNe (.int x) (.int y) S = S (.bool (!(x == y))) := propext Iff.rfl
theorem oNe_bool : oNe (.bool p) (.bool q) S = S (.bool (!(p == q))) := propext Iff.rfl
theorem oNe_nn : oNe .none .none S = S (.bool false) := propext Iff.rfl
theorem oNe_in : oNe (.int x) .none S = S (.bool true) := propext Iff.rfl
theorem oNe_ni : oNe .none (.int x) S = S (.bool true) := propext Iff.rfl
theorem oEq_list : oEq (.list a) (.list b) S = (SeqAt.shaped (.list a) = true ∧ SeqAt.shaped (.list b) = true ∧ S (.bool (PyData.eqv (.list a) (.list b)))) := propext Iff.rfl
theorem oNe_list : oNe (.list a) (.list b) S = (SeqAt.shaped (.list a) = true ∧ SeqAt.shaped (.list b) = true ∧ S (.bool (!PyData.eqv (.list a) (.list b)))) := propext Iff.rfl
theorem oEq_tup : oEq (.tuple a) (.tuple b) S = (SeqAt.shaped (.tuple a) = true ∧ SeqAt.shaped (.tuple b) = true ∧ S (.bool (PyData.eqv (.tuple a) (.tuple b)))) := propext Iff.rfl
theorem oNe_tup : oNe (.tuple a) (.tuple b) S = (SeqAt.shaped (.tuple a) = true ∧ SeqAt.shaped (.tuple b) = true ∧ S (.bool (!PyData.eqv (.tuple a) (.tuple b)))) := propext Iff.rfl
theorem oEq_str {u v : Str} : oEq (.str u) (.str v) S = S (.bool (u == v)) := propext Iff.rfl
theorem oNe_str {u v : Str} : oNe (.str u) (.str v) S = S (.bool (!(u == v))) := propext Iff.rfl
theorem oIx_list : oIx (.list a) (.int x) S = ∃ d, atI a x = some d ∧ S d := propext Iff.rfl
theorem oIx_tup : oIx (.tuple a) (.int x) S = ∃ d, atI a x = some d ∧ S d := propext Iff.rfl
theorem oIx_seq : oIx (seqD kd a) (.int x) S = ∃ d, atI a x = some d ∧ S d := by cases kd <;> exact propext Iff.rfl
theorem oLen_list : oLen [.list a] S = S (.int a.length) := propext Iff.rfl
theorem oLen_tup : oLen [.tuple a] S = S (.int a.length) := propext Iff.rfl
theorem oLen_seq : oLen [seqD kd a] S = S (.int a.length) := by cases kd <;> exact propext Iff.rfl
theorem oInt_int : oInt [.int x] S = S (.int x) := propext Iff.rfl
theorem oInt_bool : oInt [.bool p] S = S (.int (if p then 1 else 0)) := propext Iff.rfl
theorem oAbs_int : oAbs [.int x] S = S (.int (if x < 0 then -x else x)) := propext Iff.rfl
theorem oMin2_int : oMin2 [.int x, .int y] S = S (.int (if y < x then y else x)) := propext Iff.rfl
theorem oMax2_int : oMax2 [.int x, .int y] S = S (.int (if y > x then y else x)) := propext Iff.rfl
theorem oAll_is {bs : List Bool} : oAll [.list (bs.map PyData.bool)] S = S (.bool (bs.all id)) := by
  show (match boolsOf (bs.map PyData.bool) with | some bs => S (.bool (bs.all id)) | none => False) = _
  rw [boolsOf_map]
theorem oSum_is {ns : List Int} : oSum [.list (ns.map PyData.int)] S = S (.int ns.sum) := by
  show (match intsOf (ns.map PyData.int) with | some ns => S (.int ns.sum) | none => False) = _
  rw [intsOf_map]
theorem oListD_list : oListD [.list a] S = S (.list a) := propext Iff.rfl
theorem oListD_tup : oListD [.tuple a] S = S (.list a) := propext Iff.rfl
theorem oListD_seq : oListD [seqD kd a] S = S (.list a) := by cases kd <;> exact propext Iff.rfl
theorem oTuple_list : oTuple [.list a] S = S (.tuple a) := propext Iff.rfl
theorem oTuple_tup : oTuple [.tuple a] S = S (.tuple a) := propext Iff.rfl
theorem oTuple_seq : oTuple [seqD kd a] S = S (.tuple a) := by cases kd <;> exact propext Iff.rfl
theorem oRepr_is : oRepr [d] S = ((okD d = true ∧ d.depth ≤ 40 ∧ wz d ≤ 1000000) ∧ S (.str d.shown)) := propext Iff.rfl
theorem oIs_none : oIs d .none S = S (.bool (isNone d)) := by
  show (isNone .none = true ∧ _) = _
  exact propext ⟨fun h => h.2, fun h => ⟨rfl, h⟩⟩
theorem oIsNot_none : oIsNot d .none S = S (.bool (!isNone d)) := by
  show (isNone .none = true ∧ _) = _
  exact propext ⟨fun h => h.2, fun h => ⟨rfl, h⟩⟩
theorem oIn_list {neg : Bool} {ns : List Int} : oIn neg (.int x) (.list (ns.map PyData.int)) S = S (.bool (if neg then !ns.contains x else ns.contains x)) := by
  show (match intsOf (ns.map PyData.int) with | some ns => S (.bool (if neg then !ns.contains x else ns.contains x)) | none => False) = _
  rw [intsOf_map]
theorem oIn_seq {neg : Bool} {ns : List Int} : oIn neg (.int x) (seqD kd (ns.map PyData.int)) S = S (.bool (if neg then !ns.contains x else ns.contains x)) := by
  cases kd
  · show (match intsOf (ns.map PyData.int) with | some ns => S (.bool (if neg then !ns.contains x else ns.contains x)) | none => False) = _
    rw [intsOf_map]
  · exact oIn_list
variable {SL : List PyData → Prop}
theorem oList_list : oList [.list a] SL = SL a := propext Iff.rfl
theorem oList_tup : oList [.tuple a] SL = SL a := propext Iff.rfl
theorem oList_seq : oList [seqD kd a] SL = SL a := by cases kd <;> exact propext Iff.rfl
theorem oCat_list : oCat (.list a) (.list b) SL = (a.length + b.length ≤ 1000000 ∧ SL (a ++ b)) := propext Iff.rfl
theorem oRep_list : oRep (.list a) (.int x) SL = ((0 ≤ x ∧ x ≤ 1000000 ∧ a.length * x.toNat ≤ 1000000) ∧ SL (List.replicate x.toNat a).flatten) := propext Iff.rfl
theorem w_take_is {RT : T → Nat → Prop} {m : Int} : w_take [.int m] N RT = ((1 ≤ m ∧ m ≤ 10000000 ∧ N ≤ 1000000000) ∧ ∀ k : Nat, (k : Int) < m → RT (.sh (.int (k : Int))) (N + 1)) := propext Iff.rfl
theorem w_same_is {n : Nat} {RT : T → Nat → Prop} : w_same n [d, e] N RT = (d = e ∧ Okn n d ∧ RT (.sh (.bool true)) N) := propext Iff.rfl
theorem atI_l0 {α : Type} {u : α} {l : List α} : atI (u :: l) 0 = some u := atI_nat (j := 0) rfl
theorem atI_l1 {α : Type} {u v : α} {l : List α} : atI (u :: v :: l) 1 = some v := atI_nat (j := 1) rfl
theorem atI_l2 {α : Type} {u v w : α} {l : List α} : atI (u :: v :: w :: l) 2 = some w := atI_nat (j := 2) rfl
theorem atI_int {ns : List Int} {j : Nat} (h : j < ns.length) : atI (ns.map PyData.int) (j : Int) = some (.int (ns.getD j 0)) := by
  refine atI_nat ?_
  rw [List.getElem?_map, List.getD_eq_getElem?_getD, List.getElem?_eq_getElem h]
  rfl
/-! ### loops -/
variable {we : WE} {wg : WG} {wb : WS}
/-- for k in range(n) -/
theorem for_r1 {n : Nat} (I : Nat → Env → Nat → Prop) (he : ∀ R, R (.int (n : Int)) N → we ε N R) (hn : n ≤ 1000000) (h0 : I 0 ε N) (hs : ∀ k ε M, k < n → I k ε M → wg (.int (k : Int)) ε fun ε2 => wb (D.loop (I (k + 1))) ε2 M) (hd : ∀ ε M, I n ε M → D.nx ε M) : wFor (wRng1 we) wg wb D ε N := by
  refine he _ ?_
  have toN : ((n : Int)).toNat = n := by omega
  refine ⟨⟨by omega, by omega⟩, I, h0, fun k d ε M hd' hI => ?_, fun ε M hI => hd ε M ?_⟩
  · obtain ⟨hk, rfl⟩ := rng_get hd'
    rw [toN] at hk
    have := hs k ε M hk hI
    rw [Int.zero_add]
    exact this
  · rw [rngD_len, toN] at hI
    exact hI
/-- for k, x in enumerate(a list) -/
theorem for_en {ds : List PyData} (I : Nat → Env → Nat → Prop) (he : ∀ R, R d N → we ε N R) (hd0 : seqOf d = some ds) (h0 : I 0 ε N) (hs : ∀ k x ε M, ds[k]? = some x → I k ε M → wg (.tuple [.int (k : Nat), x]) ε fun ε2 => wb (D.loop (I (k + 1))) ε2 M) (hd : ∀ ε M, I ds.length ε M → D.nx ε M) : wFor (wEnum we) wg wb D ε N := by
  refine he _ ?_
  show (match seqOf d with | some ds => _ | none => False)
  rw [hd0]
  refine ⟨I, h0, fun k x ε M hx hI => ?_, fun ε M hI => hd ε M (by rw [enumD_len] at hI; exact hI)⟩
  have hk : k < ds.length := by
    have := (List.getElem?_eq_some_iff.mp hx).1
    rw [enumD_len] at this
    exact this
  have hy := List.getElem?_eq_getElem hk
  rw [enumD_at hy] at hx
  have e := Option.some.inj hx
  subst e
  exact hs k _ ε M hy hI
/-! ### comprehensions -/
variable {wt : WB} {w : WE} {vs : List Nat} {wT : WT} {RT : T → Nat → Prop}
theorem lcT_r1 {n : Nat} (I : Nat → List T → Nat → Prop) (he : ∀ R, R (.int (n : Int)) N → we ε N R) (hn : n ≤ 40000) (h0 : I 0 [] N) (hs : ∀ k es M, k < n → I k es M → wg (.int (k : Int)) (wipeE ε vs) fun ε2 => wT ε2 M fun e M2 => I (k + 1) (es ++ [e]) M2) (hd : ∀ es M, I n es M → RT (.lst es) M) : wLcT (wRng1 we) wg wYes wT vs ε N RT := by
  refine he _ ?_
  have toN : ((n : Int)).toNat = n := by omega
  refine ⟨⟨by omega, by omega⟩, by rw [rngD_len]; omega, I, h0, fun k d es M hd' hI => ?_, fun es M hI => hd es M ?_⟩
  · obtain ⟨hk, rfl⟩ := rng_get hd'
    rw [toN] at hk
    have := hs k es M hk hI
    rw [Int.zero_add]
    exact this
  · rw [rngD_len, toN] at hI
    exact hI
theorem lcT_rp {n : Nat} (g : Nat → T) (he : ∀ R, R (.int (n : Int)) N → we ε N R) (hn : n ≤ 40000) (hs : ∀ k (R : T → Nat → Prop), k < n → R (g k) N → wg (.int (k : Int)) (wipeE ε vs) fun ε2 => wT ε2 N R) (hd : RT (.lst ((List.range n).map g)) N) : wLcT (wRng1 we) wg wYes wT vs ε N RT := by
  refine lcT_r1 (fun k es M => es = (List.range k).map g ∧ M = N) he hn ⟨rfl, rfl⟩ (fun k es M hk hI => ?_) fun es M hI => ?_
  · obtain ⟨rfl, rfl⟩ := hI
    refine hs k _ hk ⟨?_, rfl⟩
    rw [List.range_succ, List.map_append]
    rfl
  · obtain ⟨rfl, rfl⟩ := hI
    exact hd
/-! ### data alike -/
/-- of few depths, to be compared -/
def Shp (n : Nat) (d : PyData) : Prop := d.canLay0 = true ∧ d.depth ≤ n
theorem Shp.shaped {n : Nat} (h : Shp n d) (hn : n ≤ 64) : SeqAt.shaped d = true := by
  show (d.canLay0 && decide (d.depth ≤ 64)) = true
  rw [h.1, decide_eq_true (Nat.le_trans h.2 hn)]
  rfl
theorem Shp.int {n : Nat} (x : Int) : Shp n (.int x) := ⟨rfl, Nat.zero_le _⟩
theorem Shp.bool {n : Nat} (x : Bool) : Shp n (.bool x) := ⟨rfl, Nat.zero_le _⟩
theorem Shp.none {n : Nat} : Shp n .none := ⟨rfl, Nat.zero_le _⟩
theorem lay_iff : ∀ {xs : List PyData}, PyData.canLayAll0 xs = true ↔ ∀ x ∈ xs, x.canLay0 = true
  | [] => ⟨(fun _ _ z => nomatch z), fun _ => rfl⟩
  | x :: r => by
    show (x.canLay0 && PyData.canLayAll0 r) = true ↔ _
    rw [Bool.and_eq_true, lay_iff (xs := r)]
    exact ⟨fun h y hy => (List.mem_cons.mp hy).elim (fun e => e ▸ h.1) (h.2 y), fun h => ⟨h x (List.mem_cons_self ..), fun y hy => h y (List.mem_cons_of_mem _ hy)⟩⟩
theorem Shp.list {n : Nat} {xs : List PyData} (h : ∀ x ∈ xs, Shp n x) : Shp (n + 1) (.list xs) := ⟨lay_iff.mpr fun x hx => (h x hx).1, by
  show PyData.depthAll xs + 1 ≤ n + 1
  exact Nat.add_le_add_right (depthAll_iff.mpr fun x hx => (h x hx).2) 1⟩
theorem Shp.tuple {n : Nat} {xs : List PyData} (h : ∀ x ∈ xs, Shp n x) : Shp (n + 1) (.tuple xs) := ⟨lay_iff.mpr fun x hx => (h x hx).1, by
  show PyData.depthAll xs + 1 ≤ n + 1
  exact Nat.add_le_add_right (depthAll_iff.mpr fun x hx => (h x hx).2) 1⟩
theorem Shp.up {n m : Nat} (h : Shp n d) (hm : n ≤ m) : Shp m d := ⟨h.1, Nat.le_trans h.2 hm⟩
theorem Shp.ints (ns : List Int) : Shp 1 (.list (ns.map PyData.int)) := Shp.list fun x hx => by
  obtain ⟨i, _, rfl⟩ := List.mem_map.mp hx
  exact Shp.int i
theorem Shp.self {n : Nat} (h : Shp n d) : PyData.eqv d d = true := PySem.SeqAt.eqv_refl d h.1
/-! ### data to be shown -/
def Rp (n b : Nat) (d : PyData) : Prop := okD d = true ∧ d.depth ≤ n ∧ wz d ≤ b
theorem Rp.int {x : Int} (h : x.natAbs < 1048576) : Rp 0 22 (.int x) := by
  have hl : x.natAbs.log2 < 20 := by
    by_cases h0 : x.natAbs = 0
    · rw [h0]; decide
    · exact (Nat.log2_lt h0).mpr h
  refine ⟨?_, Nat.le_refl _, ?_⟩
  · show decide (x.natAbs.log2 < 1920) = true
    exact decide_eq_true (by omega)
  · show x.natAbs.log2 + 2 ≤ 22
    omega
theorem Rp.list {n b m : Nat} {xs : List PyData} (h : ∀ x ∈ xs, Rp n b x) (hm : xs.length ≤ m) : Rp (n + 1) ((b + 2) * m + 3) (.list xs) := by
  refine ⟨okAll_iff.mpr fun x hx => (h x hx).1, ?_, ?_⟩
  · show PyData.depthAll xs + 1 ≤ n + 1
    exact Nat.add_le_add_right (depthAll_iff.mpr fun x hx => (h x hx).2.1) 1
  · show wzAll xs + 3 ≤ _
    have h1 := wzAll_le (R := b) fun x hx => (h x hx).2.2
    have h2 : (b + 2) * xs.length ≤ (b + 2) * m := Nat.mul_le_mul_left _ hm
    omega
theorem Rp.tuple {n b m : Nat} {xs : List PyData} (h : ∀ x ∈ xs, Rp n b x) (hm : xs.length ≤ m) : Rp (n + 1) ((b + 2) * m + 3) (.tuple xs) := by
  refine ⟨okAll_iff.mpr fun x hx => (h x hx).1, ?_, ?_⟩
  · show PyData.depthAll xs + 1 ≤ n + 1
    exact Nat.add_le_add_right (depthAll_iff.mpr fun x hx => (h x hx).2.1) 1
  · show wzAll xs + 3 ≤ _
    have h1 := wzAll_le (R := b) fun x hx => (h x hx).2.2
    have h2 : (b + 2) * xs.length ≤ (b + 2) * m := Nat.mul_le_mul_left _ hm
    omega
theorem Rp.seq {n b m : Nat} {xs : List PyData} (kd : Bool) (h : ∀ x ∈ xs, Rp n b x) (hm : xs.length ≤ m) : Rp (n + 1) ((b + 2) * m + 3) (seqD kd xs) := by
  cases kd
  · exact Rp.tuple h hm
  · exact Rp.list h hm
theorem Rp.up {n b n' b' : Nat} (h : Rp n b d) (hn : n ≤ n') (hb : b ≤ b') : Rp n' b' d := ⟨h.1, Nat.le_trans h.2.1 hn, Nat.le_trans h.2.2 hb⟩
theorem Rp.ok {n b : Nat} (h : Rp n b d) (hn : n ≤ 40) (hb : b ≤ 1000000) : okD d = true ∧ d.depth ≤ 40 ∧ wz d ≤ 1000000 := h.up hn hb
theorem Rp.ints {ns : List Int} {m : Nat} (h : ∀ x ∈ ns, x.natAbs < 1048576) (hm : ns.length ≤ m) : Rp 1 (24 * m + 3) (.list (ns.map PyData.int)) := Rp.list (fun x hx => by
  obtain ⟨i, hi, rfl⟩ := List.mem_map.mp hx
  exact Rp.int (h i hi)) (by rw [List.length_map]; exact hm)
/-! ### data of few depths -/
theorem Okn.int {n : Nat} {x : Int} : Okn (n + 1) (.int x) := True.intro
theorem Okn.none {n : Nat} : Okn (n + 1) .none := True.intro
theorem Okn.bool {n : Nat} {x : Bool} : Okn (n + 1) (.bool x) := True.intro
theorem Okn.str {n : Nat} {x : Str} : Okn (n + 1) (.str x) := True.intro
theorem Okn.list {n : Nat} {xs : List PyData} (h : ∀ x ∈ xs, Okn n x) (hl : xs.length ≤ 40000) : Okn (n + 1) (.list xs) := ⟨hl, h⟩
theorem Okn.tuple {n : Nat} {xs : List PyData} (h : ∀ x ∈ xs, Okn n x) (hl : xs.length ≤ 40000) : Okn (n + 1) (.tuple xs) := ⟨hl, h⟩
theorem all_map {α β : Type} {p : β → Prop} {f : α → β} {l : List α} (h : ∀ x ∈ l, p (f x)) : ∀ y ∈ l.map f, p y := fun y hy => by
  obtain ⟨x, hx, rfl⟩ := List.mem_map.mp hy
  exact h x hx
end
end Cg

set_option Elab.async false
set_option linter.all false
set_option maxRecDepth 100000
set_option maxHeartbeats 1000000
namespace Cg
open PySem PySem.Spec PyProof.Rows L2 Evl
theorem FnG.imp {P : Program} {w : World} {K : PySem.W.Frag} {mg : Str → Option Value} {base : Heap} {k : Nat} {f : Addr} {fd : FuncData} {ps : List Str} {sp sp' : Sp} (F : FnG P w K mg base k f fd ps sp) (h : ∀ vs H Q E, sp' vs H Q E → sp vs H Q E) : FnG P w K mg base k f fd ps sp' :=
  ⟨fun vs H Q E q => F.len vs H Q E (h _ _ _ _ q), fun A outer s H args us vs Q E hg hr he hb hv hs => F.go A outer s H args us vs Q E hg hr he hb hv (h _ _ _ _ hs)⟩
theorem set_get_ne {σ : L2.St} {i j : Nat} {x : Option V} {y : Option V} (h : σ[i]? = some y) (hne : j ≠ i) : (σ.set j x)[i]? = some y := by rw [List.getElem?_set_ne hne]; exact h
theorem set_get_eq {σ : L2.St} {i : Nat} {x : Option V} (h : i < σ.length) : (σ.set i x)[i]? = some x := by rw [List.getElem?_set_self h]
/-- return all([_law_right(_law_box(cells, k)) for k in range(..)]) -/
theorem law_comp {K : PySem.W.Frag} {σ : L2.St} {H : Hp} {D : Ends} {ta : TA} {n s j L C : Nat} {l : Addr} {ms : List Int} (ha : EvA ta σ H [.int (n : Int)]) (hn : n ≤ 1000) (hs : σ[s]? = some (some (.ref l))) (hjs : j ≠ s) (hj : j < σ.length)
    (hS : ∀ H', Same H H' → SqL K H' l (ms.map V.int)) (hD : ∀ H', D.rt (.bl true) H') :
    tRet (tCB (rAll K) (tCons (tLc (iRng1 ta) (gName j) tYes (tCall (spRt L C) [] E0 (tCons (tCall (spBox K) [] E0 (tCons (tVar s) (tCons (tVar j) tNil))) tNil)) [j]) tNil)) D σ H := by
  refine r_lawAll ha (by omega) (fun x => by rw [wipe_set (List.mem_singleton.mpr rfl), wipe_wipe]) (fun i H2 Q2 hi e2 k2 => ?_) fun H2 _ => hD H2
  refine ⟨.ref l, ?_, .int (i : Int), ?_, l, ms, i, rfl, hS H2 e2, by omega, fun b H3 e3 nb hB => ⟨b, 0, rfl, hB, Nat.zero_le _, fun H4 k4 b4 => k2 H4 (same_box e3 nb k4)⟩⟩
  · refine set_get_ne ?_ hjs
    rw [wipe_get, if_neg (fun z => hjs (List.mem_singleton.mp z).symm)]
    exact hs
  · exact set_get_eq (by rw [wipe_length]; exact hj)
/-- max(m, len(xs)) -/
theorem ev_maxN {K : PySem.W.Frag} {σ : L2.St} {H : Hp} {i m : Nat} {l : Addr} {xs : List V} (hs : σ[i]? = some (some (.ref l))) (hh : SqL K H l xs) :
    EvA (tCons (tCB (fun xs H Q => ∃ i j, xs = [V.int i, V.int j] ∧ Q (V.int (if j > i then j else i)) H) (tCons (tC (.int (m : Int))) (tCons (tCB (rLenS K) (tCons (tVar i) tNil)) tNil))) tNil) σ H [.int ((max m xs.length : Nat) : Int)] := by
  refine ea_cons (ev_is (ev_cb2 ev_c (ev_len (ev_var hs) hh) fun H1 Q q => ⟨_, _, rfl, q⟩) ?_) ea_nil
  split
  · rw [Nat.max_eq_right (by omega)]
  · rw [Nat.max_eq_left (by omega)]
end Cg

set_option Elab.async false
set_option linter.all false
set_option maxRecDepth 100000
set_option maxHeartbeats 1000000
namespace Cg
open PySem PySem.Spec PyProof.Rows L2 Evl
/-! ### zip of several rows into several names -/
end Cg

set_option Elab.async false
set_option linter.all false
set_option maxRecDepth 100000
set_option maxHeartbeats 1000000
namespace Cg
open PySem PySem.Spec PyProof.Rows L2 Evl
section
variable {ta tb tc te : TE} {wa wb wc we : WE} {t u : TT} {w w' : WB} {tas : TA} {was : WA} {c : Base} {bs F A B hs : List Addr} {σ : L2.St} {H H1 H2 H' : Hp} {ε : Env} {N N1 N2 N' : Nat} {vs vs1 : List Nat}
/-! ### one list changes, and the box -/
theorem Rel.outD {D : Addr} (r : Rel c (D :: bs) F σ H ε N) (hDF : D ∉ F) (hDb : D ∉ c.b) (hP : c.P D = none) (k : Keep (D :: c.b) H H') (hb : ∀ a ∈ c.b, Box H' a N') (hD : ∃ acc, H' D = some (.lst acc)) : Rel c (D :: bs) F σ H' ε N' := by
  have kb : Keep (D :: bs) H H' := k.more fun a ha => by
    rcases List.mem_cons.mp ha with rfl | ha
    · exact List.mem_cons_self ..
    · exact r.bin a ha
  have get : ∀ a o, a ≠ D → a ∉ c.b → H a = some o → H' a = some o := fun a o h1 h2 e => k.get (fun z => (List.mem_cons.mp z).elim h1 h2) e
  refine ⟨RelE.chg r.nt kb (fun a ha o e => get a o (fun z => hDF (z ▸ ha)) (r.fb a ha) e) r.env, r.nd, r.sub, r.off, r.nb, r.up, r.bb, r.offb, fun a ha => ?_, fun a ha xs z => ?_, hb, fun a o e => ?_, r.vis.trans kb⟩
  · by_cases h1 : a = D
    · obtain ⟨acc, e⟩ := hD
      rw [h1, e]
      exact fun z => nomatch z
    · by_cases h2 : a ∈ c.b
      · exact (hb a h2).is
      · cases e : H a with
        | none => exact absurd e (r.live a ha)
        | some o => rw [get a o h1 h2 e]; exact fun z => nomatch z
  · by_cases h1 : a = D
    · obtain ⟨acc, e⟩ := hD
      rw [h1, e] at z
      cases z
    · by_cases h2 : a ∈ c.b
      · exact box_tup (hb a h2) z
      · cases e : H a with
        | none => exact r.live a ha e
        | some o =>
          rw [get a o h1 h2 e] at z
          exact r.nt a ha xs (e.trans z)
  · refine get a o (fun z => ?_) (fun z => ?_) (r.pin a o e)
    · rw [z, hP] at e; cases e
    · rw [r.offb a z] at e; cases e
theorem Rel.more {D : Addr} (r : Rel c bs F σ H ε N) (h : D ∉ F) (hb : D ∈ bs) : Rel { c with bs0 := D :: c.bs0 } bs F σ H ε N :=
  ⟨r.env, r.nd, r.sub, r.off, fun a ha z => (List.mem_cons.mp z).elim (fun e => h (e ▸ ha)) (r.nb a ha), fun a ha => (List.mem_cons.mp ha).elim (fun e => e ▸ hb) (r.up a), fun a ha => List.mem_cons_of_mem _ (r.bb a ha), r.offb, r.live, r.nt, r.box, r.pin, r.vis⟩
/-- [e for x in .. if .. for y in .. if ..] -/
def wLcT2 (wi : WI) (wg : WG) (wt : WB) (wi1 : WI) (wg1 : WG) (wt1 : WB) (w : WE) (vs vs1 : List Nat) : WT := fun ε N R => wi ε N fun ds N1 => ∃ I : Nat → List PyData → Nat → Prop, I 0 [] N1 ∧
  (∀ k d es M, ds[k]? = some d → I k es M → wg d (wipeE ε vs) fun ε2 => wt ε2 M fun b M2 => bIf b (wi1 ε2 M2 fun ds1 M3 => ∃ I1 : Nat → List PyData → Nat → Prop, I1 0 es M3 ∧
    (∀ j d1 es1 M4, ds1[j]? = some d1 → I1 j es1 M4 → wg1 d1 (wipeE ε2 vs1) fun ε3 => wt1 ε3 M4 fun b1 M5 => bIf b1 (w ε3 M5 fun e M6 => es1.length ≤ 100000 ∧ I1 (j + 1) (es1 ++ [e]) M6) (I1 (j + 1) es1 M5)) ∧ ∀ es1 M4, I1 ds1.length es1 M4 → I (k + 1) es1 M4) (I (k + 1) es M2)) ∧ ∀ es M, I ds.length es M → R (.lst (es.map T.sh)) M
theorem sim_lcT2 {ti ti1 : TI} {wi wi1 : WI} {g g1 : TG} {wg wg1 : WG} {tt tt1 : TT} {wt wt1 : WB} {te : TE} {w : WE} (hi : SimI ti wi) (hg : SimG vs g wg) (ht : SimB tt wt) (hi1 : SimI ti1 wi1) (hg1 : SimG vs1 g1 wg1) (ht1 : SimB tt1 wt1) (he : SimE te w) : SimT (tLc2 ti g tt ti1 g1 tt1 te vs vs1) (wLcT2 wi wg wt wi1 wg1 wt1 w vs vs1) := fun {c bs F σ H ε N R Q} r ww q => hi r ww fun J ds N1 H1 w1 o1 Y D nD => by
  obtain ⟨I, i0, step, fin⟩ := w1
  have r1 := r.out o1
  have Dbs : D ∉ bs := r1.live.out nD
  have Db : D ∉ c.b := fun z => Dbs (r.bin D z)
  have DF : D ∉ F := fun z => Dbs (r.sub D z)
  have DP : c.P D = none := pin_none r1 nD
  let cD : Base := { c with bs0 := D :: c.bs0 }
  have world : ∀ {H' : Hp} {acc : List V} {M : Nat}, H' D = some (.lst acc) → Out c H1 H' M → Rel cD (D :: bs) F σ H' ε M := fun {H' acc M} hD o =>
    (r1.hide (A := [D]) o (fun a ha => by rw [List.mem_singleton.mp ha]; exact nD) (fun a ha => by rw [List.mem_singleton.mp ha]; exact own_lst hD)).more DF (List.mem_cons_self ..)
  have vis : ∀ {H' : Hp} {M : Nat}, Out c H1 H' M → Same (hid bs H1) (hid (D :: bs) H') := fun {H' M} o => vis_step (bs := bs) (B := [D]) o r.bin (fun a ha => by rw [List.mem_singleton.mp ha]; exact nD)
  refine it_by (J := J) (n := ds.length) (Body := fun x H' Nx => g x (L2.wipe σ vs) H' fun σ2 H2 => L2.wipe σ2 vs = L2.wipe σ vs ∧ tt σ2 H2 fun b H3 =>
      if b = true then ti1 σ2 H3 fun J1 H4 => ∃ W1 : Nat → Nat → Hp → Prop, (∃ m, W1 0 m H4) ∧ ∀ j k H, W1 j k H →
        (J1.stop j H ∧ Nx H) ∨ (J1.go j H ∧ ∃ Nx1 : Hp → Prop, (∀ H', Nx1 H' → ∃ k', k' < k ∧ W1 (j + 1) k' H') ∧ ∀ x H', J1.yld j H x H' → g1 x (L2.wipe σ2 vs1) H' fun σ3 H5 => L2.wipe σ3 vs1 = L2.wipe σ2 vs1 ∧ tt1 σ3 H5 fun b H6 =>
          if b = true then te σ3 H6 fun y H7 => ∃ acc, H7 D = some (.lst acc) ∧ acc.length < sizeLine ∧ Nx1 (upd H7 D (.lst (acc ++ [y]))) else Nx1 H6)
      else Nx H3)
    (fun k H' => ∃ (acc : List V) (es : List PyData) (M : Nat), H' D = some (.lst acc) ∧ I k es M ∧ Out c H1 H' M ∧ DqAll (hid (D :: bs) H') acc es) ⟨[], [], N1, upd_same, i0, ⟨(Keep.refl _ _).new nD, fun a ha => (r1.box a ha).upd nD⟩, .nil⟩
    (fun k H' hk hP => ?_) (fun H' hP => ?_) (fun k x H' H'' hk hP hy => ?_) (fun H' hP => ?_)
  · obtain ⟨acc, es, M, hD, hI, o, da⟩ := hP
    exact Y.go k H' _ hk (vis o)
  · obtain ⟨acc, es, M, hD, hI, o, da⟩ := hP
    exact Y.stop H' _ (vis o)
  · obtain ⟨acc, es, M, hD, hI, o, da⟩ := hP
    have rw0 := world hD o
    obtain ⟨sm, d, gd, dx⟩ := Y.yld k x H' H'' _ hk (vis o) rw0.live hy
    have rw1 := rw0.ext sm
    obtain ⟨Fw, rw2⟩ := rel_wipe rw1 vs
    refine hg rw2 dx (step k d es M gd hI) fun F3 σ3 ε3 r3 e3 w3 => ⟨e3.trans (wipe_wipe σ vs), ?_⟩
    refine ht r3 w3 fun b M2 H3 w4 o3 => ?_
    have o3' : Out c H'' H3 M2 := ⟨o3.keep, o3.box⟩
    have oo : Out c H1 H3 M2 := (o.ext sm).trans o3'
    have da3 : DqAll (hid (D :: bs) H3) acc es := da.mono (out_keep ((rw0.ofSame sm).trans o3) rw0.bin)
    have hD3 : H3 D = some (.lst acc) := out_get o3' Db (sm _ _ hD)
    cases b with
    | false => exact iteF ⟨acc, es, M2, hD3, w4, oo, da3⟩
    | true =>
      refine iteT ?_
      have r4 := r3.out o3
      refine hi1 r4 w4 fun J1 ds1 M3 H4 w5 o4 Y1 => ?_
      obtain ⟨I1, j0, step1, fin1⟩ := w5
      have o4' : Out c H3 H4 M3 := ⟨o4.keep, o4.box⟩
      have r5 := r4.out o4
      have DF3 : D ∉ F3 := fun z => r5.nb D z (List.mem_cons_self ..)
      have hD4 : H4 D = some (.lst acc) := out_get o4' Db hD3
      have da4 : DqAll (hid (D :: bs) H4) acc es := da3.mono (out_keep o4 r4.bin)
      refine it_by (J := J1) (n := ds1.length) (Body := fun x H' Nx1 => g1 x (L2.wipe σ3 vs1) H' fun σ4 H5 => L2.wipe σ4 vs1 = L2.wipe σ3 vs1 ∧ tt1 σ4 H5 fun b H6 =>
          if b = true then te σ4 H6 fun y H7 => ∃ acc, H7 D = some (.lst acc) ∧ acc.length < sizeLine ∧ Nx1 (upd H7 D (.lst (acc ++ [y]))) else Nx1 H6)
        (fun j H' => ∃ (acc : List V) (es1 : List PyData) (M : Nat), H' D = some (.lst acc) ∧ I1 j es1 M ∧ Out c H1 H' M ∧ DqAll (hid (D :: bs) H') acc es1 ∧ Keep (D :: c.b) H4 H') ⟨acc, es, M3, hD4, j0, oo.trans o4', da4, Keep.refl _ _⟩
        (fun j H5 hj hP => ?_) (fun H5 hP => ?_) (fun j y H5 H6 hj hP hy1 => ?_) (fun H5 hP => ?_)
      · obtain ⟨ac, es1, M4, a1, a2, a3, a4, a5⟩ := hP
        exact Y1.go j H5 (D :: bs) hj (a5.more fun a ha => (List.mem_cons.mp ha).elim (fun e => e ▸ List.mem_cons_self ..) fun h => r5.bin a h)
      · obtain ⟨ac, es1, M4, a1, a2, a3, a4, a5⟩ := hP
        exact Y1.stop H5 (D :: bs) (a5.more fun a ha => (List.mem_cons.mp ha).elim (fun e => e ▸ List.mem_cons_self ..) fun h => r5.bin a h)
      · obtain ⟨ac, es1, M4, a1, a2, a3, a4, a5⟩ := hP
        have r6 : Rel cD (D :: bs) F3 σ3 H5 ε3 M4 := r5.outD DF3 Db DP a5 a3.box ⟨ac, a1⟩
        obtain ⟨sm1, d1, gd1, dx1⟩ := Y1.yld j y H5 H6 (D :: bs) hj (a5.more fun a ha => (List.mem_cons.mp ha).elim (fun e => e ▸ List.mem_cons_self ..) fun h => r5.bin a h) r6.live hy1
        have r7 := r6.ext sm1
        obtain ⟨F7, r8⟩ := rel_wipe r7 vs1
        refine hg1 r8 dx1 (step1 j d1 es1 M4 gd1 a2) fun F9 σ9 ε9 r9 e9 w9 => ⟨e9.trans (wipe_wipe σ3 vs1), ?_⟩
        refine ht1 r9 w9 fun b1 M5 H7 w10 o7 => ?_
        have o7' : Out c H6 H7 M5 := ⟨o7.keep, o7.box⟩
        have a3' : Out c H1 H7 M5 := (a3.ext sm1).trans o7'
        have a4' : DqAll (hid (D :: bs) H7) ac es1 := a4.mono (out_keep ((r6.ofSame sm1).trans o7) r6.bin)
        have a1' : H7 D = some (.lst ac) := out_get o7' Db (sm1 _ _ a1)
        have a5' : Keep (D :: c.b) H4 H7 := (a5.ext sm1).trans (o7'.keep.more fun a ha => List.mem_cons_of_mem _ ha)
        cases b1 with
        | false => exact iteF ⟨ac, es1, M5, a1', w10, a3', a4', a5'⟩
        | true =>
          refine iteT ?_
          have r10 := r9.out o7
          refine he r10 w10 fun v f M6 H8 w11 o8 hv => ?_
          have o8' : Out c H7 H8 M6 := ⟨o8.keep, o8.box⟩
          have a1'' : H8 D = some (.lst ac) := out_get o8' Db a1'
          have kk : Keep (D :: bs) H8 (upd H8 D (.lst (ac ++ [v]))) := (Keep.refl _ _).put (List.mem_cons_self ..)
          refine ⟨ac, a1'', ?_, ac ++ [v], es1 ++ [f], M6, upd_same, w11.2, ?_, ?_, ?_⟩
          · rw [a4.len]
            exact Nat.lt_of_le_of_lt w11.1 (by decide)
          · exact ⟨(a3'.trans o8').keep.putNew nD, fun a ha => ((a3'.trans o8').box a ha).put (fun z => Db (z ▸ ha))⟩
          · exact ((a4'.mono (out_keep o8 r10.bin)).append (.cons hv .nil)).mono kk
          · exact (a5'.trans (o8'.keep.more fun a ha => List.mem_cons_of_mem _ ha)).put (List.mem_cons_self ..)
      · obtain ⟨ac, es1, M4, a1, a2, a3, a4, a5⟩ := hP
        exact ⟨ac, es1, M4, a1, fin1 es1 M4 a2, a3, a4⟩
  · obtain ⟨acc, es, M, hD, hI, o, da⟩ := hP
    exact q (.ref D) (.lst (es.map T.sh)) [D] M H' (fin es M hI) (o1.trans o) ⟨.lst hD (RepL.shs da), List.nodup_cons.mpr ⟨List.not_mem_nil, List.nodup_nil⟩, fun a ha => by rw [List.mem_singleton.mp ha]; exact out_none o1 nD⟩
def wLc2 (wi : WI) (wg : WG) (wt : WB) (wi1 : WI) (wg1 : WG) (wt1 : WB) (w : WE) (vs vs1 : List Nat) : WE := wFz (wLcT2 wi wg wt wi1 wg1 wt1 w vs vs1)
theorem sim_lc2 {ti ti1 : TI} {wi wi1 : WI} {g g1 : TG} {wg wg1 : WG} {tt tt1 : TT} {wt wt1 : WB} {te : TE} {w : WE} (hi : SimI ti wi) (hg : SimG vs g wg) (ht : SimB tt wt) (hi1 : SimI ti1 wi1) (hg1 : SimG vs1 g1 wg1) (ht1 : SimB tt1 wt1) (he : SimE te w) : SimE (tLc2 ti g tt ti1 g1 tt1 te vs vs1) (wLc2 wi wg wt wi1 wg1 wt1 w vs vs1) := sim_fz (sim_lcT2 hi hg ht hi1 hg1 ht1 he)
/-! ### zip of more rows -/
/-- columns of rows of the same length -/
def colsD (n : Nat) (rows : List (List PyData)) : List PyData := (List.range n).map fun j => .tuple (rows.map fun r => r.getD j .none)
theorem colsD_len (n : Nat) (rows : List (List PyData)) : (colsD n rows).length = n := by unfold colsD; rw [List.length_map, List.length_range]
theorem colsD_at {n j : Nat} {rows : List (List PyData)} (h : j < n) : (colsD n rows)[j]? = some (.tuple (rows.map fun r => r.getD j .none)) := by
  unfold colsD
  rw [List.getElem?_map, List.getElem?_range h]
  rfl
theorem yl_zipN {K : PySem.W.Frag} {kd : Bool} {n : Nat} {rs : List (Addr × List V)} {rows : List (List PyData)} (hne : rs ≠ []) (hr : ∀ r ∈ rows, r.length = n) (hl : rs.length = rows.length)
    (hq : ∀ (i : Nat) (a : Addr) (xs : List V) (ds : List PyData), rs[i]? = some (a, xs) → rows[i]? = some ds → (∀ H' gs, Same (hid hs H) (hid gs H') → SqK kd K H' a xs) ∧ DqAll (hid hs H) xs ds) : Yl hs (ItZ K kd rs) (colsD n rows) H := by
  have pick : ∀ r ∈ rs, ∃ ds, ds.length = n ∧ (∀ H' gs, Same (hid hs H) (hid gs H') → SqK kd K H' r.1 r.2) ∧ DqAll (hid hs H) r.2 ds := fun r hr' => by
    obtain ⟨i, hi, e⟩ := List.mem_iff_getElem.mp hr'
    have e2 : rs[i]? = some (r.1, r.2) := by rw [List.getElem?_eq_getElem hi, e]
    have e3 := List.getElem?_eq_getElem (show i < rows.length by omega)
    obtain ⟨q1, q2⟩ := hq i r.1 r.2 _ e2 e3
    exact ⟨_, hr _ (List.getElem_mem _), q1, q2⟩
  refine ⟨fun k H' gs hk kp r hr' => ?_, fun H' gs kp r hr' => ?_, fun k x H' H'' gs hk kp lv y => ?_⟩
  · obtain ⟨ds, h1, h2, h3⟩ := pick r hr'
    rw [colsD_len] at hk
    exact ⟨h2 H' gs kp, by rw [h3.len, h1]; exact hk⟩
  · obtain ⟨ds, h1, h2, h3⟩ := pick r hr'
    exact ⟨h2 H' gs kp, by rw [h3.len, h1, colsD_len]; exact Nat.le_refl _⟩
  · obtain ⟨T, rfl, hT, rfl⟩ := y
    rw [colsD_len] at hk
    refine ⟨Ex.new hT, _, colsD_at hk, .tup (by rw [hid_out (lv.out hT), upd_same]) ?_⟩
    have go : ∀ (o : HO) (rs : List (Addr × List V)) (rows : List (List PyData)), rs.length = rows.length → (∀ (i : Nat) (a : Addr) (xs : List V) (ds : List PyData), rs[i]? = some (a, xs) → rows[i]? = some ds → DqAll (hid hs H) xs ds ∧ ds.length = n) → DqAll (hid gs (upd H' T o)) (rs.map fun r => r.2.getD k .non) (rows.map fun r => r.getD k .none) := fun o rs => by
      induction rs with
      | nil =>
        intro rows h1 _
        have e : rows = [] := List.length_eq_zero_iff.mp h1.symm
        rw [e]
        exact .nil
      | cons r rs ih =>
        intro rows h1 h2
        cases rows with
        | nil => cases h1
        | cons d rows =>
          obtain ⟨q1, q2⟩ := h2 0 r.1 r.2 d rfl rfl
          refine .cons ?_ (ih rows (Nat.succ.inj h1) fun i a xs ds e1 e2 => h2 (i + 1) a xs ds e1 e2)
          have hx : r.2[k]? = some (r.2.getD k .non) := by rw [List.getD_eq_getElem?_getD, List.getElem?_eq_getElem (by rw [q1.len, q2]; exact hk)]; rfl
          obtain ⟨f, f1, f2⟩ := q1.get hx
          have ef : d.getD k .none = f := by rw [List.getD_eq_getElem?_getD, f1]; rfl
          show Dq (hid gs (upd H' T o)) (r.2.getD k .non) (d.getD k .none)
          rw [ef]
          exact (f2.mono kp).mono (same_hid (Ex.new hT))
    exact go _ rs rows hl fun i a xs ds e1 e2 => ⟨(hq i a xs ds e1 e2).2, hr ds (List.mem_of_getElem? e2)⟩
/-- zip(*rows), rows of the same length and kind -/
def wZipN (we : WE) : WI := fun ε N R => we ε N fun d N1 => ∃ (kd : Bool) (n : Nat) (rows : List (List PyData)), seqOf d = some (rows.map (seqD kd)) ∧ rows ≠ [] ∧ rows.length ≤ 12 ∧ (∀ r ∈ rows, r.length = n) ∧ R (colsD n rows) N1
theorem rows_refs {kd : Bool} : ∀ {xs : List V} {rows : List (List PyData)}, DqAll (hid hs H) xs (rows.map (seqD kd)) → ∃ rs : List (Addr × List V), xs = rs.map (fun r => V.ref r.1) ∧ rs.length = rows.length ∧ ∀ (i : Nat) (a : Addr) (ys : List V) (ds : List PyData), rs[i]? = some (a, ys) → rows[i]? = some ds → (∀ {K : PySem.W.Frag} {H' : Hp} {gs : List Addr}, Same (hid hs H) (hid gs H') → SqK kd K H' a ys) ∧ DqAll (hid hs H) ys ds
  | _, [], .nil => ⟨[], rfl, rfl, fun i a ys ds h _ => by cases h⟩
  | _, r :: rows, .cons h t => by
    obtain ⟨rs, e1, e2, e3⟩ := rows_refs t
    obtain ⟨a, ys, e, hsq, hy⟩ := Dq.seq_inv h
    refine ⟨(a, ys) :: rs, by rw [e, e1]; rfl, by rw [List.length_cons, List.length_cons, e2], fun i a' ys' ds q1 q2 => ?_⟩
    cases i with
    | zero =>
      cases q1; cases q2
      exact ⟨fun kp => hsq (kp.trans hid_same), hy⟩
    | succ i => exact e3 i a' ys' ds q1 q2
theorem sim_zipN {K : PySem.W.Frag} (h : SimE te we) : SimI (iZipN K te) (wZipN we) := fun {c bs F σ H ε N R Q} r w q => h r w fun v d N1 H1 w1 o1 hd => by
  obtain ⟨kd, n, rows, e, hne, h12, hr, w2⟩ := w1
  obtain ⟨p, xs, rfl, hs1, hx⟩ := hd.seqOf (K := K) e
  obtain ⟨rs, rfl, hl, hq⟩ := rows_refs hx
  have hne' : rs ≠ [] := fun z => by rw [z] at hl; exact hne (List.length_eq_zero_iff.mp hl.symm)
  refine ⟨p, kd, rs, rfl, (hs1 hid_same).symm, hne', by omega, fun r' hr' => ?_, q _ _ N1 H1 w2 o1 (yl_zipN hne' hr hl fun i a ys ds q1 q2 => ⟨fun H' gs kp => (hq i a ys ds q1 q2).1 kp, (hq i a ys ds q1 q2).2⟩)⟩
  obtain ⟨i, hi, e⟩ := List.mem_iff_getElem.mp hr'
  have e2 : rs[i]? = some (r'.1, r'.2) := by rw [List.getElem?_eq_getElem hi, e]
  exact (hq i r'.1 r'.2 _ e2 (List.getElem?_eq_getElem (by omega))).1 (Same.refl _)
end
end Cg

set_option Elab.async false
set_option linter.all false
set_option maxRecDepth 100000
set_option maxHeartbeats 1000000
namespace Cg
open PySem PySem.Spec PyProof.Rows L2 Evl
section
variable {X : Cx} {ta tb tc te : TE} {wa wb wc we : WE} {tas : TA} {was : WA}
theorem sortedPK (K : PySem.W.Frag) (hK : X.K = K := by rfl) : CallR X (.builtin "sorted") (rSortedPO K) := by subst hK; exact cr_sortedPO
theorem inDK (K : PySem.W.Frag) (hu : X.A.units + 65 < cLine) (hK : X.K = K := by rfl) : OpR X (compareOp .In) (rInD K) := by subst hK; exact op_inD hu
theorem notInDK (K : PySem.W.Frag) (hu : X.A.units + 65 < cLine) (hK : X.K = K := by rfl) : OpR X (compareOp .NotIn) (rNotInD K) := by subst hK; exact op_notInD hu
theorem room65 {k : Nat} {A : Around} (r : Room k A) : A.units + 65 < cLine := by have := r.un; omega
/-! sorted -/
def prI (p : Int × Int) : PyData := .tuple [.int p.1, .int p.2]
def lexP (p q : Int × Int) : Prop := p.1 < q.1 ∨ (p.1 = q.1 ∧ p.2 ≤ q.2)
def oSortP : List PyData → (List PyData → Prop) → Prop
  | [.list ds], S => ∃ ps : List (Int × Int), ds = ps.map prI ∧ ∀ qs : List (Int × Int), qs.Perm ps → qs.Pairwise lexP → S (qs.map prI)
  | _, _ => False
def kPr (H : Hp) (v : V) : Int × Int := match v with
  | .ref a => match H a with
    | some (.tup [.int i, .int j]) => (i, j)
    | _ => (0, 0)
  | _ => (0, 0)
theorem pr_dq {H : Hp} {v : V} {p : Int × Int} (h : Dq H v (prI p)) : ∃ t, v = .ref t ∧ H t = some (.tup [.int p.1, .int p.2]) := by
  obtain ⟨a, xs, rfl, e, h⟩ := Dq.tup_inv h
  obtain ⟨v1, v2, rfl, h1, h2⟩ := dq2 h
  cases h1
  cases h2
  exact ⟨a, rfl, e⟩
theorem prs_dq {H H0 : Hp} (s : Same H H0) : ∀ {xs : List V} {ps : List (Int × Int)}, DqAll H xs (ps.map prI) → (∀ x ∈ xs, ∃ t, x = .ref t ∧ H0 t = some (.tup [.int (kPr H0 x).1, .int (kPr H0 x).2])) ∧ xs.map (kPr H0) = ps
  | _, [], .nil => ⟨(fun _ z => nomatch z), rfl⟩
  | _, p :: ps, .cons h t => by
    obtain ⟨h1, h2⟩ := prs_dq s t
    obtain ⟨a, rfl, e⟩ := pr_dq h
    have ek : kPr H0 (.ref a) = p := by
      show (match H0 a with | some (.tup [.int i, .int j]) => (i, j) | _ => (0, 0)) = p
      rw [s _ _ e]
    refine ⟨fun x hx => ?_, by rw [List.map_cons, ek, h2]⟩
    rcases List.mem_cons.mp hx with rfl | hx
    · exact ⟨a, rfl, by rw [ek]; exact s _ _ e⟩
    · exact h1 x hx
theorem dq_of_all {H : Hp} {f : V → PyData} : ∀ {xs : List V}, (∀ x ∈ xs, Dq H x (f x)) → DqAll H xs (xs.map f)
  | [], _ => .nil
  | x :: xs, h => .cons (h x (List.mem_cons_self ..)) (dq_of_all fun y hy => h y (List.mem_cons_of_mem _ hy))
theorem all_of_dq {H : Hp} {f : V → PyData} : ∀ {xs : List V}, DqAll H xs (xs.map f) → ∀ x ∈ xs, Dq H x (f x)
  | [], _ => fun _ z => nomatch z
  | x :: xs, .cons h t => fun y hy => by
    rcases List.mem_cons.mp hy with rfl | hy
    · exact h
    · exact all_of_dq t y hy
theorem cn_sortP {K : PySem.W.Frag} : CbN (rSortedPO K) oSortP := fun {hs H xs ds S Q} l hx w q => by
  match ds, w with
  | [.list es], w =>
    obtain ⟨v, rfl, hv⟩ := dq1 hx
    obtain ⟨ps, rfl, w⟩ := w
    obtain ⟨a, ys, rfl, e1, h1⟩ := hv.list_inv
    obtain ⟨k1, k2⟩ := prs_dq hid_same h1
    refine ⟨a, ys, kPr H, rfl, SqL.of (hid_some e1).2, k1, fun zs p hs hst np => ?_⟩
    have hp := hst.perm
    have ed : ps.map prI = ys.map fun x => prI (kPr H x) := by rw [← k2, List.map_map]; rfl
    have each := all_of_dq (f := fun x => prI (kPr H x)) (by rw [← ed]; exact h1)
    have dz : DqAll (hid _ H) zs (zs.map fun x => prI (kPr H x)) := dq_of_all fun x hx => each x (hp.mem_iff.mp hx)
    have ez : (zs.map fun x => prI (kPr H x)) = (zs.map (kPr H)).map prI := by rw [List.map_map]; rfl
    rw [ez] at dz
    refine q p zs _ (w (zs.map (kPr H)) (by rw [← k2]; exact hp.map _) ?_) np dz
    rw [List.pairwise_map]
    refine List.Pairwise.imp (fun {x y} h => ?_) hs
    have := SrtO.lexB_no.mp h
    unfold lexP
    omega
/-! in, of data; < of tuples -/
def oInD : O2 := fun d e S => match e with
  | .list ds => SeqAt.shaped d = true ∧ SeqAt.shaped (.list ds) = true ∧ S (.bool (ds.any fun z => PyData.eqv z d))
  | _ => False
def oNotInD : O2 := fun d e S => match e with
  | .list ds => SeqAt.shaped d = true ∧ SeqAt.shaped (.list ds) = true ∧ S (.bool (!ds.any fun z => PyData.eqv z d))
  | _ => False
theorem od_inD {K : PySem.W.Frag} : OpD (rInD K) oInD := fun {hs H x y d e S Q} l hx hy w q => by
  cases e <;> first | exact False.elim w | skip
  exact ⟨d, _, (dq_vis hx).dp (noD_shaped w.1), (dq_vis hy).dp (noD_shaped w.2.1), w.1, w.2.1, q _ _ H w.2.2 (Same.refl _) (.bl _)⟩
theorem od_notInD {K : PySem.W.Frag} : OpD (rNotInD K) oNotInD := fun {hs H x y d e S Q} l hx hy w q => by
  cases e <;> first | exact False.elim w | skip
  exact ⟨d, _, (dq_vis hx).dp (noD_shaped w.1), (dq_vis hy).dp (noD_shaped w.2.1), w.1, w.2.1, q _ _ H w.2.2 (Same.refl _) (.bl _)⟩
/-! xs.count(k), ints -/
def oCount : PyData → List PyData → (PyData → Prop) → Prop := fun d es S => match d, es with
  | .list ds, [.int k] => match intsOf ds with
    | some ns => S (.int (ns.count k : Nat))
    | none => False
  | _, _ => False
/-! x.insert(k, e) -/
theorem RepL.cut {bs : List Addr} {H : Hp} : ∀ {vs : List V} {ts : List T} {A : List Addr}, RepL bs H vs ts A → ∀ n : Nat, ∃ A1 A2, A = A1 ++ A2 ∧ RepL bs H (vs.take n) (ts.take n) A1 ∧ RepL bs H (vs.drop n) (ts.drop n) A2
  | _, _, A, h, 0 => ⟨[], A, rfl, .nil, h⟩
  | _, _, _, .nil, n + 1 => ⟨[], [], rfl, .nil, .nil⟩
  | _, _, _, .cons (A := A) h t, n + 1 => by
    obtain ⟨A1, A2, e, h1, h2⟩ := t.cut n
    exact ⟨A ++ A1, A2, by rw [e, List.append_assoc], .cons h h1, h2⟩
/-! len(set(xs)), ints -/
def dedN (ns : List Int) : Nat := (ns.foldl step_dedup []).length
def wLenSet (we : WE) : WE := fun ε N R => we ε N fun d N1 => match d with
  | .list ds => ∃ ns, intsOf ds = some ns ∧ ns.length ≤ 4000 ∧ R (.int (dedN ns : Nat)) N1
  | _ => False
end
end Cg

set_option Elab.async false
set_option linter.all false
set_option maxRecDepth 100000
set_option maxHeartbeats 1000000
namespace Cg
open PySem PySem.Spec PyProof.Rows L2 Evl
/-! ### how far reckoning goes: no further than the values -/
section
variable {d d' e e' : PyData} {ds ds' : List PyData} {S : PyData → Prop} {SL : List PyData → Prop} {N N' : Nat} {R : T → Nat → Prop} {RD : PyData → Nat → Prop} {o o' : Option Sl} {D : EW} {ε ε' : Env}
end
/-! what kind it is -/
section
variable {p : Bool} {x : Int} {u : Str} {a : List PyData} {kd : Bool}
theorem isNone_none : isNone .none = true := by simp [isNone]
theorem isNone_bool : isNone (.bool p) = false := by simp [isNone]
theorem isNone_int : isNone (.int x) = false := by simp [isNone]
theorem isNone_str : isNone (.str u) = false := by simp [isNone]
theorem isNone_list : isNone (.list a) = false := by simp [isNone]
theorem isNone_tup : isNone (.tuple a) = false := by simp [isNone]
theorem isInt_none : isInt .none = false := by simp [isInt]
theorem isInt_bool : isInt (.bool p) = true := by simp [isInt]
theorem isInt_int : isInt (.int x) = true := by simp [isInt]
theorem isInt_str : isInt (.str u) = false := by simp [isInt]
theorem isInt_list : isInt (.list a) = false := by simp [isInt]
theorem isInt_tup : isInt (.tuple a) = false := by simp [isInt]
theorem isBool_none : isBool .none = false := by simp [isBool]
theorem isBool_bool : isBool (.bool p) = true := by simp [isBool]
theorem isBool_int : isBool (.int x) = false := by simp [isBool]
theorem isBool_str : isBool (.str u) = false := by simp [isBool]
theorem isBool_list : isBool (.list a) = false := by simp [isBool]
theorem isBool_tup : isBool (.tuple a) = false := by simp [isBool]
theorem isList_none : isList .none = false := by simp [isList]
theorem isList_bool : isList (.bool p) = false := by simp [isList]
theorem isList_int : isList (.int x) = false := by simp [isList]
theorem isList_str : isList (.str u) = false := by simp [isList]
theorem isList_list : isList (.list a) = true := by simp [isList]
theorem isList_tup : isList (.tuple a) = false := by simp [isList]
theorem isTuple_none : isTuple .none = false := by simp [isTuple]
theorem isTuple_bool : isTuple (.bool p) = false := by simp [isTuple]
theorem isTuple_int : isTuple (.int x) = false := by simp [isTuple]
theorem isTuple_str : isTuple (.str u) = false := by simp [isTuple]
theorem isTuple_list : isTuple (.list a) = false := by simp [isTuple]
theorem isTuple_tup : isTuple (.tuple a) = true := by simp [isTuple]
theorem isStr_none : isStr .none = false := by simp [isStr]
theorem isStr_bool : isStr (.bool p) = false := by simp [isStr]
theorem isStr_int : isStr (.int x) = false := by simp [isStr]
theorem isStr_str : isStr (.str u) = true := by simp [isStr]
theorem isStr_list : isStr (.list a) = false := by simp [isStr]
theorem isStr_tup : isStr (.tuple a) = false := by simp [isStr]
theorem isNone_seq : isNone (seqD kd a) = false := by cases kd <;> simp [seqD, isNone]
theorem isList_seq : isList (seqD kd a) = kd := by cases kd <;> simp [seqD, isList]
theorem isTuple_seq : isTuple (seqD kd a) = !kd := by cases kd <;> simp [seqD, isTuple]
theorem isInt_seq : isInt (seqD kd a) = false := by cases kd <;> simp [seqD, isInt]
theorem isBool_seq : isBool (seqD kd a) = false := by cases kd <;> simp [seqD, isBool]
theorem isStr_seq : isStr (seqD kd a) = false := by cases kd <;> simp [seqD, isStr]
theorem dTru_seq {kb : Bool → Prop} : dTru (seqD kd a) kb = kb (!a.isEmpty) := by cases kd <;> exact propext Iff.rfl
end
/-! ### walks that draw nothing -/
section
variable {α β : Type} {ε : Env} {N : Nat} {R : PyData → Nat → Prop} {RT : T → Nat → Prop} {D : EW} {we wa wb : WE} {wg wg1 : WG} {ws : WS} {wt wt1 : WB} {w : WE} {wT : WT} {vs vs1 : List Nat} {wi wi1 : WI} {d d' : PyData} {ds es : List PyData}
/-- it gives these, and draws nothing -/
def Gv (wi : WI) (ε : Env) (N : Nat) (ds : List PyData) : Prop := ∀ R : List PyData → Nat → Prop, R ds N → wi ε N R
/-- its value -/
def Ge (we : WE) (ε : Env) (N : Nat) (d : PyData) : Prop := ∀ R : PyData → Nat → Prop, R d N → we ε N R
theorem gv_it (h : Ge we ε N d) (hd : seqOf d = some ds) : Gv (wIt we) ε N ds := fun R hR => h _ (by
  show (match seqOf d with | some ds => R ds N | none => False)
  rw [hd]; exact hR)
theorem gv_en (h : Ge we ε N d) (hd : seqOf d = some ds) : Gv (wEnum we) ε N (enumD ds) := fun R hR => h _ (by
  show (match seqOf d with | some ds => R (enumD ds) N | none => False)
  rw [hd]; exact hR)
theorem gv_r1 {n : Nat} (h : Ge we ε N (.int (n : Int))) (hn : n ≤ 1000000) : Gv (wRng1 we) ε N ((List.range n).map fun k : Nat => PyData.int (k : Int)) := fun R hR => h _ (by
  refine ⟨⟨by omega, by omega⟩, ?_⟩
  have e : rngD 0 ((n : Int)).toNat = (List.range n).map fun k : Nat => PyData.int (k : Int) := by
    have e1 : ((n : Int)).toNat = n := by omega
    unfold rngD
    rw [e1]
    refine List.map_congr_left fun k _ => ?_
    rw [Int.zero_add]
  rw [e]; exact hR)
theorem enum_map (f : α → PyData) (xs : List α) : enumD (xs.map f) = xs.zipIdx.map fun p => .tuple [.int (p.2 : Nat), f p.1] := by
  unfold enumD
  apply List.ext_getElem
  · simp
  · intro i h1 h2
    simp
theorem take_succ_map {γ : Type} {xs : List α} {k : Nat} {x : α} (h : xs[k]? = some x) (g : α → Option γ) : (xs.take (k + 1)).filterMap g = (xs.take k).filterMap g ++ (g x).toList := by
  have e1 : List.filterMap g [x] = (g x).toList := by
    cases e : g x with
    | none => rw [List.filterMap_cons_none e]; rfl
    | some y => rw [List.filterMap_cons_some e]; rfl
  rw [List.take_add_one, h, List.filterMap_append, ← e1]
  rfl
theorem lcT_f (xs : List α) (e : α → PyData) (g : α → Option T) (hg : Gv wi ε N (xs.map e)) (hn : xs.length ≤ 40000)
    (hs : ∀ (x : α) (A : T → Nat → Prop) (B : Nat → Prop), x ∈ xs → (∀ t, g x = some t → A t N) → (g x = none → B N) → wg (e x) (wipeE ε vs) fun ε2 => wt ε2 N fun b M2 => bIf b (wT ε2 M2 A) (B M2)) (hd : RT (.lst (xs.filterMap g)) N) : wLcT wi wg wt wT vs ε N RT := by
  refine hg _ ⟨by rw [List.length_map]; exact hn, fun k ts M => ts = (xs.take k).filterMap g ∧ M = N, ⟨rfl, rfl⟩, fun k d ts M hx hI => ?_, fun ts M hI => ?_⟩
  · obtain ⟨rfl, rfl⟩ := hI
    rw [List.getElem?_map] at hx
    cases hk : xs[k]? with
    | none => rw [hk] at hx; cases hx
    | some x =>
      rw [hk] at hx
      have ed : e x = d := Option.some.inj hx
      subst ed
      refine hs x (fun t M3 => (xs.take k).filterMap g ++ [t] = (xs.take (k + 1)).filterMap g ∧ M3 = M) (fun M2 => (xs.take k).filterMap g = (xs.take (k + 1)).filterMap g ∧ M2 = M) (List.mem_of_getElem? hk) (fun t ht => ⟨by rw [take_succ_map hk, ht]; rfl, rfl⟩) fun ht => ⟨by rw [take_succ_map hk, ht]; exact (List.append_nil _).symm, rfl⟩
  · obtain ⟨rfl, rfl⟩ := hI
    rw [List.length_map, List.take_of_length_le (Nat.le_refl _)]
    exact hd
theorem lc_f (xs : List α) (e : α → PyData) (g : α → Option PyData) (hg : Gv wi ε N (xs.map e)) (hn : xs.length ≤ 40000)
    (hs : ∀ (x : α) (A : PyData → Nat → Prop) (B : Nat → Prop), x ∈ xs → (∀ t, g x = some t → A t N) → (g x = none → B N) → wg (e x) (wipeE ε vs) fun ε2 => wt ε2 N fun b M2 => bIf b (w ε2 M2 A) (B M2)) (hd : R (.list (xs.filterMap g)) N) : wLc wi wg wt w vs ε N R := by
  refine hg _ ⟨by rw [List.length_map]; exact hn, fun k ts M => ts = (xs.take k).filterMap g ∧ M = N, ⟨rfl, rfl⟩, fun k d ts M hx hI => ?_, fun ts M hI => ?_⟩
  · obtain ⟨rfl, rfl⟩ := hI
    rw [List.getElem?_map] at hx
    cases hk : xs[k]? with
    | none => rw [hk] at hx; cases hx
    | some x =>
      rw [hk] at hx
      have ed : e x = d := Option.some.inj hx
      subst ed
      refine hs x (fun t M3 => (xs.take k).filterMap g ++ [t] = (xs.take (k + 1)).filterMap g ∧ M3 = M) (fun M2 => (xs.take k).filterMap g = (xs.take (k + 1)).filterMap g ∧ M2 = M) (List.mem_of_getElem? hk) (fun t ht => ⟨by rw [take_succ_map hk, ht]; rfl, rfl⟩) fun ht => ⟨by rw [take_succ_map hk, ht]; exact (List.append_nil _).symm, rfl⟩
  · obtain ⟨rfl, rfl⟩ := hI
    rw [List.length_map, List.take_of_length_le (Nat.le_refl _)]
    exact hd
theorem lcT_m (xs : List α) (e : α → PyData) (g : α → T) (hg : Gv wi ε N (xs.map e)) (hn : xs.length ≤ 40000)
    (hs : ∀ (x : α) (A : T → Nat → Prop), x ∈ xs → A (g x) N → wg (e x) (wipeE ε vs) fun ε2 => wT ε2 N A) (hd : RT (.lst (xs.map g)) N) : wLcT wi wg wYes wT vs ε N RT := by
  refine lcT_f xs e (fun x => some (g x)) hg hn (fun x A B hx hA hB => hs x A hx (hA _ rfl)) ?_
  rw [List.filterMap_eq_map']
  exact hd
theorem lc_m (xs : List α) (e : α → PyData) (g : α → PyData) (hg : Gv wi ε N (xs.map e)) (hn : xs.length ≤ 40000)
    (hs : ∀ (x : α) (A : PyData → Nat → Prop), x ∈ xs → A (g x) N → wg (e x) (wipeE ε vs) fun ε2 => w ε2 N A) (hd : R (.list (xs.map g)) N) : wLc wi wg wYes w vs ε N R := by
  refine lc_f xs e (fun x => some (g x)) hg hn (fun x A B hx hA hB => hs x A hx (hA _ rfl)) ?_
  rw [List.filterMap_eq_map']
  exact hd
theorem take_succ_flat {γ : Type} {xs : List α} {k : Nat} {x : α} (h : xs[k]? = some x) (g : α → List γ) : (xs.take (k + 1)).flatMap g = (xs.take k).flatMap g ++ g x := by
  rw [List.take_add_one, h, List.flatMap_append]
  congr 1
  show List.flatMap g [x] = _
  simp
theorem len_pre {γ : Type} {xs : List α} {k : Nat} {x : α} (h : xs[k]? = some x) (g : α → List γ) : ((xs.take k).flatMap g ++ g x).length ≤ (xs.flatMap g).length := by
  rw [← take_succ_flat h g]
  have e : xs.flatMap g = (xs.take (k + 1)).flatMap g ++ (xs.drop (k + 1)).flatMap g := by rw [← List.flatMap_append, List.take_append_drop]
  rw [e, List.length_append]
  omega
/-- [e for x in xs if p for y in ys if q] -/
theorem lcT2_f (xs : List α) (e : α → PyData) (ys : α → List β) (e1 : α → β → PyData) (g : α → β → Option PyData) (p : α → Bool) (hg : Gv wi ε N (xs.map e))
    (hs : ∀ (x : α) (X : Env → List PyData → Nat → Prop) (B : Nat → Prop), x ∈ xs → (p x = true → ∀ ε2, (∀ (y : β) (A : PyData → Nat → Prop) (B : Nat → Prop), y ∈ ys x → (∀ t, g x y = some t → A t N) → (g x y = none → B N) → wg1 (e1 x y) (wipeE ε2 vs1) fun ε3 => wt1 ε3 N fun b1 M5 => bIf b1 (w ε3 M5 A) (B M5)) → X ε2 ((ys x).map (e1 x)) N) → (p x = false → B N) → wg (e x) (wipeE ε vs) fun ε2 => wt ε2 N fun b M2 => bIf b (wi1 ε2 M2 (X ε2)) (B M2))
    (hl : (xs.flatMap fun x => if p x then (ys x).filterMap (g x) else []).length ≤ 100000)
    (hd : RT (.lst ((xs.flatMap fun x => if p x then (ys x).filterMap (g x) else []).map T.sh)) N) : wLcT2 wi wg wt wi1 wg1 wt1 w vs vs1 ε N RT := by
  refine hg _ ⟨fun k ts M => ts = (xs.take k).flatMap (fun x => if p x then (ys x).filterMap (g x) else []) ∧ M = N, ⟨rfl, rfl⟩, fun k d ts M0 hx hI => ?_, fun ts M hI => ?_⟩
  · obtain ⟨rfl, rfl⟩ := hI
    rw [List.getElem?_map] at hx
    cases hk : xs[k]? with
    | none => rw [hk] at hx; cases hx
    | some x =>
      rw [hk] at hx
      have ed : e x = d := Option.some.inj hx
      subst ed
      have hb := len_pre hk (fun x => if p x then (ys x).filterMap (g x) else [])
      refine hs x _ _ (List.mem_of_getElem? hk) (fun hp ε2 body => ?_) fun hp => ?_
      · simp only [hp, if_true] at hb
        rw [List.length_append] at hb
        refine ⟨fun j es M => es = (xs.take k).flatMap (fun x => if p x then (ys x).filterMap (g x) else []) ++ ((ys x).take j).filterMap (g x) ∧ M = M0, ⟨(List.append_nil _).symm, rfl⟩, fun j d1 es1 M4 hy hI1 => ?_, fun es1 M4 hI1 => ?_⟩
        · obtain ⟨rfl, rfl⟩ := hI1
          rw [List.getElem?_map] at hy
          cases hj : (ys x)[j]? with
          | none => rw [hj] at hy; cases hy
          | some y =>
            rw [hj] at hy
            have ed : e1 x y = d1 := Option.some.inj hy
            subst ed
            refine body y _ _ (List.mem_of_getElem? hj) (fun t ht => ⟨?_, ?_, rfl⟩) fun ht => ⟨?_, rfl⟩
            · rw [List.length_append]
              have e2 : (ys x).filterMap (g x) = ((ys x).take j).filterMap (g x) ++ ((ys x).drop j).filterMap (g x) := by rw [← List.filterMap_append, List.take_append_drop]
              rw [e2, List.length_append] at hb
              omega
            · rw [take_succ_map hj, ht, List.append_assoc]; rfl
            · rw [take_succ_map hj, ht]; exact congrArg _ (List.append_nil _).symm
        · obtain ⟨rfl, rfl⟩ := hI1
          refine ⟨?_, rfl⟩
          rw [List.length_map, List.take_of_length_le (Nat.le_refl _), take_succ_flat hk, hp]
          rfl
      · refine ⟨?_, rfl⟩
        rw [take_succ_flat hk, hp]
        exact (List.append_nil _).symm
  · obtain ⟨rfl, rfl⟩ := hI
    rw [List.length_map, List.take_of_length_le (Nat.le_refl _)]
    exact hd
theorem lc2_f (xs : List α) (e : α → PyData) (ys : α → List β) (e1 : α → β → PyData) (g : α → β → Option PyData) (p : α → Bool) (hg : Gv wi ε N (xs.map e))
    (hs : ∀ (x : α) (X : Env → List PyData → Nat → Prop) (B : Nat → Prop), x ∈ xs → (p x = true → ∀ ε2, (∀ (y : β) (A : PyData → Nat → Prop) (B : Nat → Prop), y ∈ ys x → (∀ t, g x y = some t → A t N) → (g x y = none → B N) → wg1 (e1 x y) (wipeE ε2 vs1) fun ε3 => wt1 ε3 N fun b1 M5 => bIf b1 (w ε3 M5 A) (B M5)) → X ε2 ((ys x).map (e1 x)) N) → (p x = false → B N) → wg (e x) (wipeE ε vs) fun ε2 => wt ε2 N fun b M2 => bIf b (wi1 ε2 M2 (X ε2)) (B M2))
    (hl : (xs.flatMap fun x => if p x then (ys x).filterMap (g x) else []).length ≤ 100000)
    (hd : R (.list (xs.flatMap fun x => if p x then (ys x).filterMap (g x) else [])) N) : wLc2 wi wg wt wi1 wg1 wt1 w vs vs1 ε N R := by
  show wLcT2 wi wg wt wi1 wg1 wt1 w vs vs1 ε N fun t N' => R t.data N'
  refine lcT2_f xs e ys e1 g p hg hs hl ?_
  show R (T.lst _).data N
  rw [data_shs]
  exact hd
/-- for x in a typed list -/
theorem for_f (xs : List α) (e : α → PyData) (I : Nat → Env → Nat → Prop) (hg : Gv wi ε N (xs.map e)) (h0 : I 0 ε N) (hs : ∀ k x ε M, xs[k]? = some x → I k ε M → wg (e x) ε fun ε2 => ws (D.loop (I (k + 1))) ε2 M) (hd : ∀ ε M, I xs.length ε M → D.nx ε M) : wFor wi wg ws D ε N := by
  refine hg _ ⟨I, h0, fun k d ε M hx hI => ?_, fun ε M hI => hd ε M (by rw [List.length_map] at hI; exact hI)⟩
  rw [List.getElem?_map] at hx
  cases hk : xs[k]? with
  | none => rw [hk] at hx; cases hx
  | some x =>
    rw [hk] at hx
    have ed : e x = d := Option.some.inj hx
    subst ed
    exact hs k x ε M hk hI
/-- while -/
theorem while_i (I : Nat → Env → Nat → Prop) (m : Nat) (h0 : I m ε N) (hs : ∀ m ε M, I m ε M → wt ε M fun b M1 => bIf b (ws (D.loop fun ε N => ∃ m', m' < m ∧ I m' ε N) ε M1) (D.nx ε M1)) : wWhile wt ws D ε N := ⟨I, ⟨m, h0⟩, fun m ε M hI => hs m ε M hI⟩
end
end Cg

set_option Elab.async false
set_option linter.all false
set_option maxRecDepth 100000
set_option maxHeartbeats 1000000
namespace Cg
open PySem PySem.Spec PyProof.Rows L2 Evl
/-! ### places, pairs and tables as data -/
abbrev Pr := Nat × Nat
def pD (p : Pr) : PyData := .tuple [.int (p.1 : Nat), .int (p.2 : Nat)]
def nD (n : Nat) : PyData := .int (n : Int)
/-- of at most 100 rows of at most 100 -/
def Sz (M : Mat) : Prop := M.length ≤ 100 ∧ ∀ r ∈ M, r.length ≤ 100
theorem Small.sz {M : Mat} (h : Small M) : Sz M := ⟨by have := h.1; omega, fun r hr => by have := h.2 r hr; omega⟩
def askRow (r : List Int) (i : Nat) : List Pr := r.zipIdx.filterMap fun q => if q.1 == 1 then some (i, q.2) else none
def asksN (M : Mat) : List Pr := M.zipIdx.flatMap fun p => askRow p.1 p.2
def cutB (I O : List Nat) (i j : Nat) : Bool := I.contains i || O.contains j
def leftN (I O : List Nat) (M : Mat) : Mat := M.zipIdx.map fun p => p.1.zipIdx.map fun q => if cutB I O p.2 q.2 then 0 else q.1
theorem zipIdx_map_zipIdx {α β : Type} (f : α × Nat → β) (xs : List α) : (xs.zipIdx.map f).zipIdx = xs.zipIdx.map fun p => (f p, p.2) := by
  apply List.ext_getElem
  · simp
  · intro i h1 h2
    simp
theorem ask_left_row (I O : List Nat) (r : List Int) (i : Nat) : askRow (r.zipIdx.map fun q => if cutB I O i q.2 then 0 else q.1) i = (askRow r i).filter fun p => !cutB I O p.1 p.2 := by
  unfold askRow
  rw [zipIdx_map_zipIdx, List.filterMap_map]
  generalize r.zipIdx = l
  induction l with
  | nil => rfl
  | cons q l ih =>
    rw [List.filterMap_cons, List.filterMap_cons]
    cases hq : (q.1 == 1) <;> cases hc : cutB I O i q.2 <;> simp_all
theorem asks_left_eq (I O : List Nat) (M : Mat) : asksN (leftN I O M) = (asksN M).filter fun p => !cutB I O p.1 p.2 := by
  unfold asksN leftN
  rw [zipIdx_map_zipIdx, List.flatMap_map, List.filter_flatMap]
  congr 1
  funext p
  exact ask_left_row I O p.1 p.2
theorem zipIdx_fst {α : Type} {xs : List α} {p : α × Nat} (h : p ∈ xs.zipIdx) : p.1 ∈ xs := by
  obtain ⟨_, hj, he⟩ := List.mem_zipIdx h
  rw [he]
  exact List.getElem_mem _
theorem left_len (I O : List Nat) (M : Mat) : (leftN I O M).length = M.length := by unfold leftN; rw [List.length_map, List.length_zipIdx]
theorem left_row {I O : List Nat} {M : Mat} {r : List Int} (h : r ∈ leftN I O M) : ∃ s ∈ M, r.length = s.length := by
  obtain ⟨p, hp, rfl⟩ := List.mem_map.mp h
  exact ⟨p.1, zipIdx_fst hp, by rw [List.length_map, List.length_zipIdx]⟩
theorem Sz.left {I O : List Nat} {M : Mat} (h : Sz M) : Sz (leftN I O M) := ⟨by rw [left_len]; exact h.1, fun r hr => by
  obtain ⟨s, hs, e⟩ := left_row hr
  rw [e]; exact h.2 s hs⟩
/-- what stands there -/
def cell (M : Mat) (i j : Nat) : Int := (M.getD i []).getD j 0
theorem mem_asks {M : Mat} {p : Pr} : p ∈ asksN M ↔ cell M p.1 p.2 = 1 := by
  unfold asksN askRow cell
  simp only [List.mem_flatMap, List.mem_filterMap, Prod.exists, List.mem_zipIdx_iff_getElem?]
  constructor
  · rintro ⟨r, i, hr, x, j, hx, hq⟩
    split at hq
    · rename_i h1
      have e := Option.some.inj hq
      subst e
      rw [List.getD_eq_getElem?_getD, List.getD_eq_getElem?_getD, hr]
      show (r[j]?).getD 0 = 1
      rw [hx]
      exact eq_of_beq h1
    · cases hq
  · intro h
    rw [List.getD_eq_getElem?_getD, List.getD_eq_getElem?_getD] at h
    cases hr : M[p.1]? with
    | none => rw [hr] at h; simp at h
    | some r =>
      rw [hr] at h
      have h' : (r[p.2]?).getD 0 = 1 := h
      cases hx : r[p.2]? with
      | none => rw [hx] at h'; simp at h'
      | some x =>
        rw [hx] at h'
        have h2 : x = 1 := h'
        exact ⟨r, p.1, hr, x, p.2, hx, by rw [h2]; rfl⟩
/-- rising -/
def lexN (p q : Pr) : Prop := p.1 < q.1 ∨ (p.1 = q.1 ∧ p.2 < q.2)
theorem pw_zipIdx {α : Type} (xs : List α) : xs.zipIdx.Pairwise fun p q => p.2 < q.2 := by
  rw [List.pairwise_iff_getElem]
  intro i j hi hj hij
  simp
  exact hij
theorem asks_lex (M : Mat) : (asksN M).Pairwise lexN := by
  unfold asksN
  rw [List.pairwise_flatMap]
  refine ⟨fun p _ => ?_, ?_⟩
  · unfold askRow
    rw [List.pairwise_filterMap]
    refine (pw_zipIdx p.1).imp fun {a b} hab x hx y hy => ?_
    split at hx
    · split at hy
      · have e1 := Option.some.inj hx
        have e2 := Option.some.inj hy
        subst e1 e2
        exact .inr ⟨rfl, hab⟩
      · cases hy
    · cases hx
  · refine (pw_zipIdx M).imp fun {a b} hab x hx y hy => ?_
    have row : ∀ {r : List Int} {i : Nat} {x : Pr}, x ∈ askRow r i → x.1 = i := fun {r i x} h => by
      obtain ⟨q, _, hq⟩ := List.mem_filterMap.mp h
      split at hq
      · rw [← Option.some.inj hq]
      · cases hq
    exact .inl (by rw [row hx, row hy]; exact hab)
/-! ### taken one by one -/
/-- no place twice -/
def Apart (ps : List Pr) : Prop := ps.Pairwise fun p q => p.1 ≠ q.1 ∧ p.2 ≠ q.2
/-! ### pairs -/
structure Prs (M : Mat) (ps : List Pr) : Prop where
  ask : ∀ p ∈ ps, cell M p.1 p.2 = 1
  rise : (ps.map (·.1)).Pairwise (· < ·)
  once : (ps.map (·.2)).Nodup
theorem Prs.lt {M : Mat} {ps : List Pr} (h : Prs M ps) {p : Pr} (hp : p ∈ ps) : p.1 < M.length ∧ p.2 < (M.getD p.1 []).length := by
  have h1 := h.ask p hp
  unfold cell at h1
  constructor
  · rw [List.getD_eq_getElem?_getD (l := M)] at h1
    cases e : M[p.1]? with
    | none => rw [e] at h1; simp at h1
    | some r => exact (List.getElem?_eq_some_iff.mp e).1
  · rw [List.getD_eq_getElem?_getD] at h1
    cases e : (M.getD p.1 [])[p.2]? with
    | none => rw [e] at h1; simp at h1
    | some r => exact (List.getElem?_eq_some_iff.mp e).1
theorem sub_len {α : Type} [DecidableEq α] : ∀ {xs ys : List α}, xs.Nodup → (∀ x ∈ xs, x ∈ ys) → xs.length ≤ ys.length
  | [], _, _, _ => Nat.zero_le _
  | x :: xs, ys, h, hs => by
    obtain ⟨h1, h2⟩ := List.nodup_cons.mp h
    have hx := hs x (List.mem_cons_self ..)
    have := sub_len (xs := xs) (ys := ys.erase x) h2 fun y hy => (List.mem_erase_of_ne (fun (e : y = x) => h1 (e ▸ hy))).mpr (hs y (List.mem_cons_of_mem _ hy))
    rw [List.length_erase_of_mem hx] at this
    have hp : 0 < ys.length := List.length_pos_of_mem hx
    rw [List.length_cons]
    omega
theorem nodup_len {ns : List Nat} {n : Nat} (h : ns.Nodup) (hn : ∀ x ∈ ns, x < n) : ns.length ≤ n := by
  have := sub_len h (ys := List.range n) fun x hx => List.mem_range.mpr (hn x hx)
  rwa [List.length_range] at this
theorem rise_len {ns : List Nat} {n : Nat} (h : ns.Pairwise (· < ·)) (hn : ∀ x ∈ ns, x < n) : ns.length ≤ n := nodup_len (h.imp fun {a b} hab => Nat.ne_of_lt hab) hn
theorem Prs.len {M : Mat} {ps : List Pr} (h : Prs M ps) : ps.length ≤ M.length := by
  have := rise_len h.rise (n := M.length) fun x hx => by
    obtain ⟨p, hp, rfl⟩ := List.mem_map.mp hx
    exact (h.lt hp).1
  rwa [List.length_map] at this
/-! ### rising -/
theorem contains_nat {ns : List Nat} {k : Nat} : (ns.map fun n : Nat => (n : Int)).contains (k : Int) = ns.contains k := by
  rw [Bool.eq_iff_iff, List.contains_iff_mem, List.contains_iff_mem, List.mem_map]
  exact ⟨fun ⟨a, ha, e⟩ => by
    have e' : a = k := by omega
    rw [← e']; exact ha, fun h => ⟨k, h, rfl⟩⟩
end Cg

set_option Elab.async false
set_option linter.all false
set_option maxRecDepth 100000
set_option maxHeartbeats 1000000
namespace Cg
open PySem PySem.Spec PyProof.Rows L2 Evl
/-! ### one of a new list: [a, b, ..][k] -/
theorem RepL.get {bs : List Addr} {H : Hp} : ∀ {vs : List V} {ts : List T} {A : List Addr}, RepL bs H vs ts A → ∀ {j : Nat} {t : T}, ts[j]? = some t → ∃ v B, vs[j]? = some v ∧ Rep bs H v t B ∧ B.Sublist A
  | _, _, _, .nil, j, t, e => by simp at e
  | _, _, _, .cons (A := A) (B := B) h k, 0, t, e => by
    have e' := Option.some.inj e
    subst e'
    exact ⟨_, A, rfl, h, List.sublist_append_left _ _⟩
  | _, _, _, .cons (A := A) (B := B) h k, j + 1, t, e => by
    obtain ⟨v, C, h1, h2, h3⟩ := RepL.get k (j := j) (t := t) e
    exact ⟨v, C, h1, h2, h3.trans (List.sublist_append_right _ _)⟩
def wPickT (ws : WTs) (we : WE) : WT := fun ε N R => ws ε N fun ts N1 => ts.length ≤ 100000 ∧ we ε N1 fun d N2 => dInt d fun k => ∃ t, L2.atI ts k = some t ∧ R t N2
theorem wPickT_eq {ws : WTs} {we : WE} {ε : Env} {N : Nat} {R : T → Nat → Prop} : wPickT ws we ε N R = ws ε N fun ts N1 => ts.length ≤ 100000 ∧ we ε N1 fun d N2 => dInt d fun k => ∃ t, L2.atI ts k = some t ∧ R t N2 := propext Iff.rfl
end Cg

set_option Elab.async false
set_option linter.all false
set_option maxRecDepth 100000
set_option maxHeartbeats 1000000
namespace Cg
open PySem PySem.Spec PyProof.Rows L2 Evl
/-! ### lists within what is its own, changed in place -/
section
variable {c : Base} {bs F A : List Addr} {σ : L2.St} {H H' : Hp} {ε : Env} {N N' : Nat} {te ta tb : TE} {wt : WT} {wa wb : WE}
/-- a list or a tuple that is its own -/
def mkT (b : Bool) (ts : List T) : T := match b with
  | true => .lst ts
  | false => .tup ts
def atOwnB (o : Option Sl) (k : Bool → List T → Prop) : Prop := match o with
  | some (.is (.lst ts)) => k true ts
  | some (.is (.tup ts)) => k false ts
  | _ => False
theorem atOwnB_lst {ts : List T} {k : Bool → List T → Prop} : atOwnB (some (.is (.lst ts))) k = k true ts := propext Iff.rfl
theorem atOwnB_tup {ts : List T} {k : Bool → List T → Prop} : atOwnB (some (.is (.tup ts))) k = k false ts := propext Iff.rfl
/-- the list at this index -/
def atL (ts : List T) (d : PyData) (k : Nat → List T → Prop) : Prop := match d with
  | .int i => ∃ j us, ixN ts.length i = some j ∧ ts[j]? = some (.lst us) ∧ k j us
  | _ => False
theorem atL_int {ts : List T} {i : Int} {k : Nat → List T → Prop} : atL ts (.int i) k = ∃ j us, ixN ts.length i = some j ∧ ts[j]? = some (.lst us) ∧ k j us := propext Iff.rfl
theorem mkT_t {ts : List T} : mkT true ts = .lst ts := rfl
theorem mkT_f {ts : List T} : mkT false ts = .tup ts := rfl
/-- x[k1].append(e) -/
def wApp2 (i : Nat) (wk : WE) (wt : WT) : WS := fun D ε N => atOwnB ε[i]? fun b ts => wk ε N fun d N1 => atL ts d fun j us => wt ε N1 fun t N2 => us.length ≤ 100000 ∧ D.nx (ε.set i (.is (mkT b (ts.set j (.lst (us ++ [t])))))) N2
theorem wApp2_eq {i : Nat} {wk : WE} {wt : WT} {D : EW} : wApp2 i wk wt D ε N = atOwnB ε[i]? fun b ts => wk ε N fun d N1 => atL ts d fun j us => wt ε N1 fun t N2 => us.length ≤ 100000 ∧ D.nx (ε.set i (.is (mkT b (ts.set j (.lst (us ++ [t])))))) N2 := propext Iff.rfl
/-- x[k1][k] = e -/
def wSet2 (i : Nat) (wk wl : WE) (wt : WT) : WS := fun D ε N => atOwnB ε[i]? fun b ts => wt ε N fun t N1 => wk ε N1 fun d N2 => atL ts d fun j us => wl ε N2 fun f N3 => dInt f fun k => ∃ l, ixN us.length k = some l ∧ D.nx (ε.set i (.is (mkT b (ts.set j (.lst (us.set l t)))))) N3
theorem wSet2_eq {i : Nat} {wk wl : WE} {wt : WT} {D : EW} : wSet2 i wk wl wt D ε N = atOwnB ε[i]? fun b ts => wt ε N fun t N1 => wk ε N1 fun d N2 => atL ts d fun j us => wl ε N2 fun f N3 => dInt f fun k => ∃ l, ixN us.length k = some l ∧ D.nx (ε.set i (.is (mkT b (ts.set j (.lst (us.set l t)))))) N3 := propext Iff.rfl
/-- x[k], y[l] = (d, e), both shared -/
def wSetP (i : Nat) (wk wa : WE) (j : Nat) (wl wb : WE) : WS := fun D ε N => wa ε N fun d N1 => wb ε N1 fun e N2 => atOwn ε[i]? fun ts => wk ε N2 fun f N3 => dInt f fun k => ∃ p, ixN ts.length k = some p ∧ atOwn (ε.set i (.is (.lst (ts.set p (.sh d)))))[j]? fun us => wl (ε.set i (.is (.lst (ts.set p (.sh d))))) N3 fun g N4 => dInt g fun l => ∃ q, ixN us.length l = some q ∧ D.nx ((ε.set i (.is (.lst (ts.set p (.sh d))))).set j (.is (.lst (us.set q (.sh e))))) N4
theorem wSetP_eq {i : Nat} {wk wa : WE} {j : Nat} {wl wb : WE} {D : EW} : wSetP i wk wa j wl wb D ε N = wa ε N fun d N1 => wb ε N1 fun e N2 => atOwn ε[i]? fun ts => wk ε N2 fun f N3 => dInt f fun k => ∃ p, ixN ts.length k = some p ∧ atOwn (ε.set i (.is (.lst (ts.set p (.sh d)))))[j]? fun us => wl (ε.set i (.is (.lst (ts.set p (.sh d))))) N3 fun g N4 => dInt g fun l => ∃ q, ixN us.length l = some q ∧ D.nx ((ε.set i (.is (.lst (ts.set p (.sh d))))).set j (.is (.lst (us.set q (.sh e))))) N4 := propext Iff.rfl
theorem atOwn_some {o : Option Sl} {k : List T → Prop} (h : atOwn o k) : ∃ ts, o = some (.is (.lst ts)) ∧ k ts := by
  unfold atOwn at h
  split at h
  · exact ⟨_, rfl, h⟩
  · exact h.elim
/-- x += e, two ints -/
def wAug (i : Nat) (we : WE) : WS := fun D ε N => atSh ε[i]? fun d => dInt d fun x => we ε N fun e N1 => dInt e fun y => D.nx (ε.set i (.is (.sh (.int (x + y))))) N1
theorem wAug_eq {i : Nat} {we : WE} {D : EW} : wAug i we D ε N = atSh ε[i]? fun d => dInt d fun x => we ε N fun e N1 => dInt e fun y => D.nx (ε.set i (.is (.sh (.int (x + y))))) N1 := propext Iff.rfl
theorem atIs_some {o : Option Sl} {k : T → Prop} (h : atIs o k) : ∃ t, o = some (.is t) ∧ k t := by
  unfold atIs at h
  split at h
  · exact ⟨_, rfl, h⟩
  · exact h.elim
/-- return (x, y), both its own -/
def wRetV2 (i j : Nat) : WS := fun D ε N => atIs ε[i]? fun t => atIs ε[j]? fun u => D.rt (.tup [t, u]) N
theorem wRetV2_eq {i j : Nat} {D : EW} : wRetV2 i j D ε N = atIs ε[i]? fun t => atIs ε[j]? fun u => D.rt (.tup [t, u]) N := propext Iff.rfl
end
/-! ### sum of a list or a tuple of ints -/
section
variable {prog : Program} {w : World} {A : Around} {E : Value → Shared → Prop} {s : Shared} {l : Addr} {its : List Value} {ns : List Int} {Q : Value → Shared → Prop}
theorem sum_tup (hh : A.handled = none) (hl : s.heap.IsTuple l its.toArray) (hi : IntsAre its ns)
    (h : ∀ h' tk t', (∀ b o, s.heap.get? b = some o → h'.get? b = some o) → Q (.int ns.sum t') { s with heap := h', toks := tk }) : wpAny (model prog w) A (call (.builtin "sum") [.ref l]) Q E s := by
  obtain ⟨xs, e⟩ := hi.allInts.items
  have hn : numsOf (intItems xs).toList = ns := by rw [← e]; exact hi.numsOf
  rw [nums_intItems] at hn
  rw [e] at hl
  have hlt : l < s.heap.objs.size := by obtain ⟨_, e, _⟩ := hl; exact Heap.lt_size e
  refine call_sum_walkG (wpAny_pyIter_tuple hl ?_)
  refine ⟨_, _, _, _, _, _, numAt xs, rfl, Walks.tuple (A := A.in1) hh _ l (Nat.ne_of_lt hlt) (intItems xs), ⟨⟨_, Heap.get?_push_size _ rfl, rfl, rfl⟩, hl.push _⟩, (fun b hb => ?_), (fun _ _ => intItems_at), fun h' tk t' hk => ?_⟩
  · show b < (s.heap.push _).objs.size
    rw [Heap.size_push]
    rcases List.mem_cons.mp hb with rfl | hb
    · exact Nat.lt_succ_self _
    · rcases List.mem_cons.mp hb with rfl | hb
      · exact Nat.lt_succ_of_lt hlt
      · cases hb
  · have := h h' tk t' (fun b o e => hk b o (fun hb => absurd (Heap.lt_size e) ((List.mem_singleton.mp hb) ▸ Nat.lt_irrefl _)) (Heap.get?_push_of_some _ e))
    have es : preSum (numAt xs) (intItems xs).size = ns.sum := by
      rw [preSum_eq, List.take_of_length_le (by simp [intItems]), hn]
    rw [es]
    exact this
end
def rSumS (K : PySem.W.Frag) : List V → Hp → VK → Prop := fun vs H Q => ∃ (a : Addr) (ns : List Int), vs = [V.ref a] ∧ (SqL K H a (ns.map V.int) ∨ SqT K H a (ns.map V.int)) ∧ Q (.int ns.sum) H
theorem cr_sumS {X : Cx} (hc : X.calm = true) : CallR X (.builtin "sum") (rSumS X.K) := by
  intro pins s σ H vs us Q I r h
  obtain ⟨a, ns, rfl, hs, q⟩ := h
  rcases hs with hs | hs
  · exact cr_sum hc pins s σ H _ us Q I r ⟨a, ns, rfl, hs, q⟩
  · obtain ⟨its, rv, hl, _⟩ := I.tuple hs
    rw [Vals.ref1 r]
    exact sum_tup (I.ok.hd hc) hl rv.ints fun h' tk t' hk => ⟨.int _, H, I.kept hk, ⟨_, rfl⟩, q⟩
theorem sumSK {X : Cx} (K : PySem.W.Frag) (hK : X.K = K := by rfl) (hc : X.calm = true := by rfl) : CallR X (.builtin "sum") (rSumS K) := by subst hK; exact cr_sumS hc
def oSumS : OC
  | [d], S => match seqOf d with
    | some ds => match intsOf ds with
      | some ns => S (.int ns.sum)
      | none => False
    | none => False
  | _, _ => False
theorem cb_sumS {K : PySem.W.Frag} : CbD (rSumS K) oSumS := fun {hs H xs ds S Q} l hx w q => by
  match ds, w with
  | [d], w =>
    obtain ⟨v, rfl, hv⟩ := dq1 hx
    have w' : (match seqOf d with | some ds => (match intsOf ds with | some ns => S (.int ns.sum) | none => False) | none => False) := w
    split at w'
    · rename_i ds e
      split at w'
      · rename_i ns e2
        obtain ⟨a, ys, rfl, hsq, hy⟩ := hv.seqOf (K := K) e
        have e3 := ints_of hy e2
        subst e3
        exact ⟨a, ns, rfl, hsq hid_same, q _ _ H w' (Same.refl _) (.int _)⟩
      · exact w'.elim
    · exact w'.elim
theorem oSumS_list {ns : List Int} {S : PyData → Prop} : oSumS [.list (ns.map PyData.int)] S = S (.int ns.sum) := by
  show (match intsOf (ns.map PyData.int) with | some ns => S (.int ns.sum) | none => False) = _
  rw [intsOf_map]
theorem oSumS_tup {ns : List Int} {S : PyData → Prop} : oSumS [.tuple (ns.map PyData.int)] S = S (.int ns.sum) := by
  show (match intsOf (ns.map PyData.int) with | some ns => S (.int ns.sum) | none => False) = _
  rw [intsOf_map]
theorem oSumS_seq {kd : Bool} {ns : List Int} {S : PyData → Prop} : oSumS [seqD kd (ns.map PyData.int)] S = S (.int ns.sum) := by
  cases kd
  · exact oSumS_tup
  · exact oSumS_list
end Cg

set_option Elab.async false
set_option linter.all false
set_option maxRecDepth 100000
set_option maxHeartbeats 1000000
namespace Cg
open PySem PySem.Spec PyProof.Rows L2 Evl
section
variable {c : Base} {bs F A : List Addr} {σ : L2.St} {H H' : Hp} {ε : Env} {N N' : Nat} {te ta tb tk : TE} {wt : WT} {we wa wb wk : WE}
/-- x.append(y.pop(k)), what is popped being shared -/
def wAppPop (i j : Nat) (wk : WE) : WS := fun D ε N => atOwn ε[i]? fun ts => atOwn ε[j]? fun us => wk ε N fun f N1 => dInt f fun k => (0 ≤ k ∧ k < us.length ∧ k ≤ 1000000 ∧ ts.length ≤ 100000) ∧ ∃ d, us[k.toNat]? = some (.sh d) ∧ D.nx ((ε.set j (.is (.lst (us.eraseIdx k.toNat)))).set i (.is (.lst (ts ++ [.sh d])))) N1
theorem wAppPop_eq {i j : Nat} {D : EW} : wAppPop i j wk D ε N = atOwn ε[i]? fun ts => atOwn ε[j]? fun us => wk ε N fun f N1 => dInt f fun k => (0 ≤ k ∧ k < us.length ∧ k ≤ 1000000 ∧ ts.length ≤ 100000) ∧ ∃ d, us[k.toNat]? = some (.sh d) ∧ D.nx ((ε.set j (.is (.lst (us.eraseIdx k.toNat)))).set i (.is (.lst (ts ++ [.sh d])))) N1 := propext Iff.rfl
/-- x.append((e, y.pop(k))) -/
def wAppPopT (i j : Nat) (we wk : WE) : WS := fun D ε N => atOwn ε[i]? fun ts => we ε N fun e N1 => atOwn ε[j]? fun us => wk ε N1 fun f N2 => dInt f fun k => (0 ≤ k ∧ k < us.length ∧ k ≤ 1000000 ∧ ts.length ≤ 100000) ∧ ∃ d, us[k.toNat]? = some (.sh d) ∧ D.nx ((ε.set j (.is (.lst (us.eraseIdx k.toNat)))).set i (.is (.lst (ts ++ [.sh (.tuple [e, d])])))) N2
theorem wAppPopT_eq {i j : Nat} {D : EW} : wAppPopT i j we wk D ε N = atOwn ε[i]? fun ts => we ε N fun e N1 => atOwn ε[j]? fun us => wk ε N1 fun f N2 => dInt f fun k => (0 ≤ k ∧ k < us.length ∧ k ≤ 1000000 ∧ ts.length ≤ 100000) ∧ ∃ d, us[k.toNat]? = some (.sh d) ∧ D.nx ((ε.set j (.is (.lst (us.eraseIdx k.toNat)))).set i (.is (.lst (ts ++ [.sh (.tuple [e, d])])))) N2 := propext Iff.rfl
/-- x[k].reverse() -/
def wRev2 (i : Nat) (wk : WE) : WS := fun D ε N => atOwnB ε[i]? fun b ts => wk ε N fun d N1 => atL ts d fun j us => D.nx (ε.set i (.is (mkT b (ts.set j (.lst us.reverse))))) N1
theorem wRev2_eq {i : Nat} {D : EW} : wRev2 i wk D ε N = atOwnB ε[i]? fun b ts => wk ε N fun d N1 => atL ts d fun j us => D.nx (ε.set i (.is (mkT b (ts.set j (.lst us.reverse))))) N1 := propext Iff.rfl
end
/-! ### xs.index(x), texts -/
def oIndexS : PyData → List PyData → (PyData → Prop) → Prop := fun d es S => match d, es with
  | .list ds, [.str x] => ∃ ss : List Str, ds = ss.map PyData.str ∧ ∃ j, ss[j]? = some x ∧ (∀ m, m < j → ss[m]? ≠ some x) ∧ S (.int (j : Nat))
  | _, _ => False
theorem oIndexS_is {ds : List PyData} {x : Str} {S : PyData → Prop} : oIndexS (.list ds) [.str x] S = ∃ ss : List Str, ds = ss.map PyData.str ∧ ∃ j, ss[j]? = some x ∧ (∀ m, m < j → ss[m]? ≠ some x) ∧ S (.int (j : Nat)) := propext Iff.rfl
theorem wBmL_eq {o : PyData → List PyData → (PyData → Prop) → Prop} {wa : WE} {was : WA} {ε : Env} {N : Nat} {R : PyData → Nat → Prop} : wBmL o wa was ε N R = wa ε N fun d N1 => isList d = true ∧ was ε N1 fun ds N2 => o d ds fun f => R f N2 := propext Iff.rfl
/-! ### x is True, x is not False -/
section
variable {M : Model} {A : Around} {Q : Value → Shared → Prop} {E : Value → Shared → Prop} {s : Shared}
end
def oIsB (neg : Bool) : O2 := fun d e S => match d, e with
  | .bool a, .bool b => S (.bool (if neg then !(a == b) else (a == b)))
  | _, _ => False
theorem oIsB_is {neg a b : Bool} {S : PyData → Prop} : oIsB neg (.bool a) (.bool b) S = S (.bool (if neg then !(a == b) else (a == b))) := propext Iff.rfl
/-! ### four at once -/
/-! ### return [x, e, ..][k], x its own -/
def wRetPick (i : Nat) (ws : WTs) (we : WE) : WS := fun D ε N => atIs ε[i]? fun t0 => ws ε N fun ts N1 => ts.length ≤ 99999 ∧ we ε N1 fun d N2 => dInt d fun k => ∃ t, L2.atI (t0 :: ts) k = some t ∧ D.rt t N2
theorem wRetPick_eq {i : Nat} {ws : WTs} {we : WE} {D : EW} {ε : Env} {N : Nat} : wRetPick i ws we D ε N = atIs ε[i]? fun t0 => ws ε N fun ts N1 => ts.length ≤ 99999 ∧ we ε N1 fun d N2 => dInt d fun k => ∃ t, L2.atI (t0 :: ts) k = some t ∧ D.rt t N2 := propext Iff.rfl
end Cg

set_option Elab.async false
set_option linter.all false
set_option maxRecDepth 100000
set_option maxHeartbeats 1000000
namespace Cg
open PySem PySem.Spec PyProof.Rows L2 Evl
/-! ### a builtin's method within a comprehension: K is named -/
section
variable {X : Cx} {o e : Expr} {es : List Expr} {to : TE} {t : TA} {name : Str} {apos cpos : Pos} {T id : String} {r : V → List V → Hp → VK → Prop}
end
theorem oCount_list {ns : List Int} {k : Int} {S : PyData → Prop} : oCount (.list (ns.map PyData.int)) [.int k] S = S (.int (ns.count k : Nat)) := by
  show (match intsOf (ns.map PyData.int) with | some ns => S (.int (ns.count k : Nat)) | none => False) = _
  rw [intsOf_map]
/-! ### three walked at once -/
/-! ### sorted, tuples of ints of one length -/
end Cg

set_option Elab.async false
set_option linter.all false
set_option maxRecDepth 100000
set_option maxHeartbeats 1000000
namespace Cg
open PySem PySem.Spec PyProof.Rows L2 Evl
/-! ### a law with one box: what stands behind the box, by value -/
end Cg

set_option Elab.async false
set_option linter.all false
set_option maxRecDepth 100000
set_option maxHeartbeats 1000000
namespace Cg
open PySem PySem.Spec PyProof.Rows L2 Evl
/-! ### dicts of its own: a slot that holds one -/
section
variable {c : Base} {bs F : List Addr} {σ : L2.St} {H : Hp} {ε : Env} {N : Nat}
theorem Rel.dic {i : Nat} {kvs : List (Key × V)} (r : Rel c bs F σ H ε N) (hl : ε[i]? = some (.dic kvs)) : ∃ a, σ[i]? = some (some (.ref a)) ∧ H a = some (.dK kvs) ∧ a ∈ bs ∧ a ∉ c.b ∧ a ∈ F ∧
    ∀ kvs', Rel c bs F σ (upd H a (.dK kvs')) (ε.set i (.dic kvs')) N := by
  obtain ⟨y, A, F1, F2, q1, q2, rfl, q4⟩ := r.env.at hl
  cases q2 with
  | dic e =>
    rename_i a
    have ain : a ∈ F1 ++ ([a] ++ F2) := List.mem_append_right _ (List.mem_append_left _ (List.mem_singleton.mpr rfl))
    have abs := r.sub a ain
    refine ⟨a, q1, e, abs, r.fb a ain, ain, fun kvs' => ?_⟩
    have aout : ∀ x ∈ F1 ++ F2, x ≠ a := fun x hx z => by
      subst z
      obtain ⟨_, p2, p3⟩ := List.nodup_append.mp r.nd
      rcases List.mem_append.mp hx with h | h
      · exact p3 x h x (List.mem_append_left _ (List.mem_singleton.mpr rfl)) rfl
      · exact (List.nodup_append.mp p2).2.2 x (List.mem_singleton.mpr rfl) x h rfl
    have kk : Keep bs H (upd H a (.dK kvs')) := (Keep.refl _ _).put abs
    have env := q4 (cs := bs) (H' := upd H a (.dK kvs')) (y := some (.ref a)) (m := .dic kvs') r.nt kk (fun x hx o e => by rw [upd_ne (aout x hx)]; exact e) (.dic upd_same)
    rw [set_same q1] at env
    refine ⟨env, r.nd, r.sub, r.off, r.nb, r.up, r.bb, r.offb, fun x hx => ?_, fun x hx xs z => ?_, fun x hx => ?_, fun x o e => ?_, r.vis.trans kk⟩
    · by_cases hxa : x = a
      · subst hxa; rw [upd_same]; exact fun z => nomatch z
      · rw [upd_ne hxa]; exact r.live x hx
    · by_cases hxa : x = a
      · subst hxa; rw [upd_same] at z; cases z
      · rw [upd_ne hxa] at z; exact r.nt x hx xs z
    · exact (r.box x hx).put (fun z => r.fb a ain (z ▸ hx))
    · rw [upd_ne (fun (z : x = a) => by rw [z, r.off a ain] at e; cases e)]
      exact r.pin x o e
end
def atDic (o : Option Sl) (k : List (Key × V) → Prop) : Prop := match o with
  | some (.dic kvs) => k kvs
  | _ => False
theorem atDic_is {kvs : List (Key × V)} {k : List (Key × V) → Prop} : atDic (some (.dic kvs)) k = k kvs := propext Iff.rfl
/-- d[e] = True, e an int -/
def wDPut (i : Nat) (we : WE) : WS := fun D ε N => atDic ε[i]? fun kvs => we ε N fun d N' => dInt d fun k => kvs.length ≤ 100000 ∧ D.nx (ε.set i (.dic (putK kvs (.inl k) (.bl true)))) N'
/-- list(d), keys that are ints -/
def intKeys : List (Key × V) → Option (List Int)
  | [] => some []
  | (.inl k, _) :: l => (intKeys l).map (k :: ·)
  | _ => none
def wDList (i : Nat) : WT := fun ε N R => atDic ε[i]? fun kvs => ∃ ks, intKeys kvs = some ks ∧ R (.lst (ks.map fun k => .sh (.int k))) N
section
variable {c : Base} {bs F : List Addr} {σ : L2.St} {H : Hp} {ε : Env} {N : Nat}
end
/-- d = {0: True} -/
def wDNew (i : Nat) (k : Int) : WS := fun D ε N => D.nx (ε.set i (.dic [(.inl k, .bl true)])) N
theorem wDPut_eq {i : Nat} {we : WE} {D : EW} {ε : Env} {N : Nat} : wDPut i we D ε N = atDic ε[i]? fun kvs => we ε N fun d N' => dInt d fun k => kvs.length ≤ 100000 ∧ D.nx (ε.set i (.dic (putK kvs (.inl k) (.bl true)))) N' := propext Iff.rfl
theorem wDList_eq {i : Nat} {ε : Env} {N : Nat} {R : T → Nat → Prop} : wDList i ε N R = atDic ε[i]? fun kvs => ∃ ks, intKeys kvs = some ks ∧ R (.lst (ks.map fun k => .sh (.int k))) N := propext Iff.rfl
theorem wDNew_eq {i : Nat} {k : Int} {D : EW} {ε : Env} {N : Nat} : wDNew i k D ε N = D.nx (ε.set i (.dic [(.inl k, .bl true)])) N := propext Iff.rfl
/-! ### bits, the greatest of a list -/
end Cg

set_option Elab.async false
set_option linter.all false
set_option maxRecDepth 100000
set_option maxHeartbeats 1000000
namespace Cg
open PySem PySem.Spec PyProof.Rows L2 Evl
/-! ### dicts of ints to ints, by value -/
def valI (kvs : List (Int × Int)) (k : Int) : Option Int := (kvs.find? fun p => decide (p.1 = k)).map (·.2)
def putI (kvs : List (Int × Int)) (k v : Int) : List (Int × Int) :=
  if (kvs.any fun p => decide (p.1 = k)) = true then kvs.map (fun p => if p.1 = k then (p.1, v) else p) else kvs ++ [(k, v)]
theorem kdI_inj : ∀ {a b : List (Int × Int)}, a.map kdI = b.map kdI → a = b
  | [], [], _ => rfl
  | [], _ :: _, h => nomatch h
  | _ :: _, [], h => nomatch h
  | (x, y) :: a, (z, u) :: b, h => by
    rw [List.map_cons, List.map_cons] at h
    injection h with h1 h2
    have h3 : (PyData.int x, PyData.int y) = (PyData.int z, PyData.int u) := h1
    injection h3 with h4 h5
    injection h4 with h4
    injection h5 with h5
    rw [kdI_inj h2, h4, h5]
/-- a slot holds that dict: its own, shared, or walked -/
def Dic (o : Option Sl) (kvs : List (Int × Int)) : Prop := o = some (.is (.dic kvs)) ∨ o = some (.is (.sh (.dict (kvs.map kdI)))) ∨ o = some (.dcF kvs)
def atD (o : Option Sl) (k : List (Int × Int) → Prop) : Prop := ∃ kvs, Dic o kvs ∧ k kvs
theorem atD_own {kvs : List (Int × Int)} {k : List (Int × Int) → Prop} : atD (some (.is (.dic kvs))) k = k kvs := propext ⟨fun ⟨kvs', h, q⟩ => by
  rcases h with h | h | h <;> first | (cases h; exact q) | (cases h; done), fun h => ⟨kvs, .inl rfl, h⟩⟩
theorem atD_frz {kvs : List (Int × Int)} {k : List (Int × Int) → Prop} : atD (some (.dcF kvs)) k = k kvs := propext ⟨fun ⟨kvs', h, q⟩ => by
  rcases h with h | h | h <;> first | (cases h; exact q) | (cases h; done), fun h => ⟨kvs, .inr (.inr rfl), h⟩⟩
theorem atD_sh {kvs : List (Int × Int)} {k : List (Int × Int) → Prop} : atD (some (.is (.sh (.dict (kvs.map kdI))))) k = k kvs := by
  refine propext ⟨fun h => ?_, fun h => ⟨kvs, .inr (.inl rfl), h⟩⟩
  obtain ⟨kvs', h, q⟩ := h
  rcases h with h | h | h
  · cases h
  · injection h with h
    injection h with h
    injection h with h
    injection h with h
    rw [kdI_inj h]
    exact q
  · cases h
section
variable {ta tb te tk tv : TE} {wa wb we wk wv : WE} {wt : WT} {c : Base} {bs F A B : List Addr} {σ : L2.St} {H H1 : Hp} {ε : Env} {N N1 : Nat} {v : V} {i : Nat}
/-- d[e] -/
def wDGet (i : Nat) (we : WE) : WE := fun ε N R => atD ε[i]? fun kvs => we ε N fun d N1 => dInt d fun k => ∃ v, valI kvs k = some v ∧ R (.int v) N1
/-- e in d, e not in d -/
def wDIn (i : Nat) (we : WE) : WE := fun ε N R => atD ε[i]? fun kvs => we ε N fun d N1 => dInt d fun k => R (.bool (valI kvs k).isSome) N1
def wDNotIn (i : Nat) (we : WE) : WE := fun ε N R => atD ε[i]? fun kvs => we ε N fun d N1 => dInt d fun k => R (.bool (!(valI kvs k).isSome)) N1
def oInt? : Option Int → PyData
  | some v => .int v
  | none => .none
/-- d.get(e) -/
def wDGet1 (i : Nat) (we : WE) : WE := fun ε N R => atD ε[i]? fun kvs => we ε N fun d N1 => dInt d fun k => R (oInt? (valI kvs k)) N1
/-- {} -/
def wD0 : WT := fun ε N R => R (.dic []) N
theorem Nw.dic {p : Addr} {kvs : List (Int × Int)} (o : Out c H H1 N1) (np : H1 p = none) : Nw bs [p] H (upd H1 p (.dK (kvs.map kvI))) (.ref p) (.dic kvs) :=
  ⟨.dic upd_same, List.pairwise_singleton _ _, fun a ha => by rw [List.mem_singleton.mp ha]; exact out_none o np⟩
/-- list(d), sorted(d) -/
def keysT (ks : List Int) : List T := ks.map fun k => T.sh (.int k)
def wDKeys (i : Nat) : WT := fun ε N R => atD ε[i]? fun kvs => R (.lst (keysT (kvs.map (·.1)))) N
def wDSort (i : Nat) : WT := fun ε N R => atD ε[i]? fun kvs => kvs.length < 64 ∧ ∀ ys : List Int, ys.Perm (kvs.map (·.1)) → ys.Pairwise (· ≤ ·) → R (.lst (keysT ys)) N
def atDO (o : Option Sl) (k : List (Int × Int) → Prop) : Prop := match o with
  | some (.is (.dic kvs)) => k kvs
  | _ => False
theorem atDO_is {kvs : List (Int × Int)} {k : List (Int × Int) → Prop} : atDO (some (.is (.dic kvs))) k = k kvs := propext Iff.rfl
/-- d[e] = f -/
def wDSet (i : Nat) (wk wv : WE) : WS := fun D ε N => atDO ε[i]? fun kvs => wv ε N fun d N1 => dInt d fun v => wk ε N1 fun e N2 => dInt e fun k => kvs.length ≤ 100000 ∧ D.nx (ε.set i (.is (.dic (putI kvs k v)))) N2
/-! ### a dict walked: it's locked meanwhile -/
/-- something new and clean, told of a dict that is walked -/
def wLk (i : Nat) (wt : WT) : WT := fun ε N R => atDO ε[i]? fun kvs => wt (ε.set i (.dcF kvs)) N fun t N' => t.clean = true ∧ R t N'
def atF (o : Option Sl) (k : List (Int × Int) → Prop) : Prop := match o with
  | some (.dcF kvs) => k kvs
  | _ => False
theorem atF_is {kvs : List (Int × Int)} {k : List (Int × Int) → Prop} : atF (some (.dcF kvs)) k = k kvs := propext Iff.rfl
/-- for k in d; for k, v in d.items() -/
def wKeys (i : Nat) : WI := fun ε N R => atF ε[i]? fun kvs => R (kvs.map fun p => .int p.1) N
def wItems (i : Nat) : WI := fun ε N R => atF ε[i]? fun kvs => R (kvs.map fun p => .tuple [.int p.1, .int p.2]) N
section
variable {D : EW} {R : PyData → Nat → Prop} {RT : T → Nat → Prop} {RI : List PyData → Nat → Prop}
theorem wDGet_eq : wDGet i we ε N R = atD ε[i]? fun kvs => we ε N fun d N1 => dInt d fun k => ∃ v, valI kvs k = some v ∧ R (.int v) N1 := propext Iff.rfl
theorem wDIn_eq : wDIn i we ε N R = atD ε[i]? fun kvs => we ε N fun d N1 => dInt d fun k => R (.bool (valI kvs k).isSome) N1 := propext Iff.rfl
theorem wDNotIn_eq : wDNotIn i we ε N R = atD ε[i]? fun kvs => we ε N fun d N1 => dInt d fun k => R (.bool (!(valI kvs k).isSome)) N1 := propext Iff.rfl
theorem wDGet1_eq : wDGet1 i we ε N R = atD ε[i]? fun kvs => we ε N fun d N1 => dInt d fun k => R (oInt? (valI kvs k)) N1 := propext Iff.rfl
theorem wD0_eq : wD0 ε N RT = RT (.dic []) N := propext Iff.rfl
theorem wDKeys_eq : wDKeys i ε N RT = atD ε[i]? fun kvs => RT (.lst (keysT (kvs.map (·.1)))) N := propext Iff.rfl
theorem wDSort_eq : wDSort i ε N RT = atD ε[i]? fun kvs => kvs.length < 64 ∧ ∀ ys : List Int, ys.Perm (kvs.map (·.1)) → ys.Pairwise (· ≤ ·) → RT (.lst (keysT ys)) N := propext Iff.rfl
theorem wDSet_eq : wDSet i wk wv D ε N = atDO ε[i]? fun kvs => wv ε N fun d N1 => dInt d fun v => wk ε N1 fun e N2 => dInt e fun k => kvs.length ≤ 100000 ∧ D.nx (ε.set i (.is (.dic (putI kvs k v)))) N2 := propext Iff.rfl
theorem wLk_eq : wLk i wt ε N RT = atDO ε[i]? fun kvs => wt (ε.set i (.dcF kvs)) N fun t N' => t.clean = true ∧ RT t N' := propext Iff.rfl
theorem wKeys_eq : wKeys i ε N RI = atF ε[i]? fun kvs => RI (kvs.map fun p => .int p.1) N := propext Iff.rfl
theorem wItems_eq : wItems i ε N RI = atF ε[i]? fun kvs => RI (kvs.map fun p => .tuple [.int p.1, .int p.2]) N := propext Iff.rfl
end
/-! ### statements: what is walked told to a name; y = x.pop(); a condition's two ends -/
def wPop0 (i : Nat) (wg : WG) : WS := fun D => onOwn i fun ts ε N => 0 < ts.length ∧ ∃ d, ts[ts.length - 1]? = some (.sh d) ∧ wg d (ε.set i (.is (.lst ts.dropLast))) fun ε' => D.nx ε' N
/-- x = x -/
def wSelf (i : Nat) : WS := fun D ε N => atIs ε[i]? fun _ => D.nx ε N
theorem wPop0_eq {wg : WG} {D : EW} : wPop0 i wg D ε N = atOwn ε[i]? fun ts => 0 < ts.length ∧ ∃ d, ts[ts.length - 1]? = some (.sh d) ∧ wg d (ε.set i (.is (.lst ts.dropLast))) fun ε' => D.nx ε' N := onOwn_eq
theorem wSelf_eq {D : EW} : wSelf i D ε N = atIs ε[i]? fun _ => D.nx ε N := propext Iff.rfl
end
end Cg

set_option Elab.async false
set_option linter.all false
set_option maxRecDepth 100000
set_option maxHeartbeats 1000000
namespace Cg
open PySem PySem.Spec PyProof.Rows L2 Evl
/-! ### tables of pairs of numbers: keys and what stands at them -/
def cN (p : Pr) : Int × Int := ((p.1 : Int), (p.2 : Int))
def Ks (L : List Pr) : List Nat := L.map (·.1)
def Vs (L : List Pr) : List Nat := L.map (·.2)
theorem mem_ks {L : List Pr} {k : Nat} : k ∈ Ks L ↔ ∃ v, (k, v) ∈ L := by
  unfold Ks
  rw [List.mem_map]
  exact ⟨fun ⟨p, h, e⟩ => ⟨p.2, by rw [← e]; exact h⟩, fun ⟨v, h⟩ => ⟨_, h, rfl⟩⟩
theorem mem_vs {L : List Pr} {v : Nat} : v ∈ Vs L ↔ ∃ k, (k, v) ∈ L := by
  unfold Vs
  rw [List.mem_map]
  exact ⟨fun ⟨p, h, e⟩ => ⟨p.1, by rw [← e]; exact h⟩, fun ⟨v, h⟩ => ⟨_, h, rfl⟩⟩
theorem key_fun {L : List Pr} (hn : (Ks L).Nodup) {k v u : Nat} (h1 : (k, v) ∈ L) (h2 : (k, u) ∈ L) : v = u := by
  induction L with
  | nil => cases h1
  | cons p L ih =>
    have hn' : (p.1 :: Ks L).Nodup := hn
    obtain ⟨n1, n2⟩ := List.nodup_cons.mp hn'
    rcases List.mem_cons.mp h1 with e1 | h1'
    · rcases List.mem_cons.mp h2 with e2 | h2'
      · rw [← e1] at e2; exact (congrArg Prod.snd e2).symm
      · exact absurd (mem_ks.mpr ⟨u, h2'⟩) (by rw [← e1] at n1; exact n1)
    · rcases List.mem_cons.mp h2 with e2 | h2'
      · exact absurd (mem_ks.mpr ⟨v, h1'⟩) (by rw [← e2] at n1; exact n1)
      · exact ih n2 h1' h2'
theorem val_fun {L : List Pr} (hn : (Vs L).Nodup) {k j v : Nat} (h1 : (k, v) ∈ L) (h2 : (j, v) ∈ L) : k = j := by
  induction L with
  | nil => cases h1
  | cons p L ih =>
    have hn' : (p.2 :: Vs L).Nodup := hn
    obtain ⟨n1, n2⟩ := List.nodup_cons.mp hn'
    rcases List.mem_cons.mp h1 with e1 | h1'
    · rcases List.mem_cons.mp h2 with e2 | h2'
      · rw [← e1] at e2; exact (congrArg Prod.fst e2).symm
      · exact absurd (mem_vs.mpr ⟨j, h2'⟩) (by rw [← e1] at n1; exact n1)
    · rcases List.mem_cons.mp h2 with e2 | h2'
      · exact absurd (mem_vs.mpr ⟨k, h1'⟩) (by rw [← e2] at n1; exact n1)
      · exact ih n2 h1' h2'
/-! ### covers -/
theorem apart_iff {P : List Pr} : Apart P ↔ (Ks P).Nodup ∧ (Vs P).Nodup := by
  unfold Apart Ks Vs List.Nodup
  rw [List.pairwise_map, List.pairwise_map]
  exact ⟨fun h => ⟨h.imp fun h => h.1, h.imp fun h => h.2⟩, fun h => h.1.and h.2⟩
def Cov (M : Mat) (n : Nat) (X Y : List Nat) : Prop := ∀ i j, i < n → cell M i j = 1 → i ∈ X ∨ j ∈ Y
/-! ### ways: each outlet by an inlet that asks for it, one that is free or that comes of an outlet further ahead -/
def Way (M : Mat) (P : List Pr) (S : Nat → Prop) (L : List Pr) (ρ : Nat → Nat) : Prop := ∀ p ∈ L, cell M p.2 p.1 = 1 ∧ (S p.2 ∨ ∃ o, (p.2, o) ∈ P ∧ o ∈ Ks L ∧ ρ o < ρ p.1)
/-! pairs taken over, inlets for keys -/
structure Aug (M : Mat) (P L : List Pr) (ρ : Nat → Nat) (D : List Pr) (o : Nat) : Prop where
  ks : (Ks D).Nodup
  vs : (Vs D).Nodup
  ask : ∀ p ∈ D, cell M p.1 p.2 = 1
  inL : o ∈ Ks L
  out : o ∉ Vs D
  keys : ∀ i, i ∈ Ks D ↔ i ∈ Ks P
  vals : ∀ j, j ∈ Vs P → j ∈ Vs D ∨ j = o
  old : ∀ p ∈ P, p ∈ D ∨ ρ o ≤ ρ p.2
  len : D.length = P.length
structure Grown (M : Mat) (P D : List Pr) : Prop where
  ks : (Ks D).Nodup
  vs : (Vs D).Nodup
  ask : ∀ p ∈ D, cell M p.1 p.2 = 1
  keys : ∀ i, i ∈ Ks P → i ∈ Ks D
  vals : ∀ j, j ∈ Vs P → j ∈ Vs D
  len : D.length = P.length + 1
/-! the cover of what is reached -/
structure Shut (M : Mat) (n : Nat) (P L : List Pr) : Prop where
  ks : (Ks L).Nodup
  free : ∀ i j, i < n → i ∉ Ks P → cell M i j = 1 → j ∈ Ks L
  back : ∀ i o j, (i, o) ∈ P → o ∈ Ks L → cell M i j = 1 → j ∈ Ks L
/-! ### seats: outlets for keys -/
/-- E: who sits where ahead of the change; o is to be given up, what stands at it is no more its own -/
structure Sea (M : Mat) (E0 L : List Pr) (ρ : Nat → Nat) (E : List Pr) (o : Nat) : Prop where
  ks : (Ks E).Nodup
  inj : ∀ j1 j2 i, (j1, i) ∈ E → (j2, i) ∈ E → j1 ≠ o → j2 ≠ o → j1 = j2
  ask : ∀ p ∈ E, cell M p.2 p.1 = 1
  inL : o ∈ Ks L
  stale : ∀ i, (o, i) ∈ E → (o, i) ∈ E0
  ins : ∀ i, (∃ j, j ≠ o ∧ (j, i) ∈ E) ↔ i ∈ Vs E0
  old : ∀ p ∈ E0, (p ∈ E ∧ p.1 ≠ o) ∨ ρ o ≤ ρ p.1
  len : (E.length = E0.length ∧ o ∉ Ks E) ∨ (E.length = E0.length + 1 ∧ o ∈ Ks E)
/-- who sits where, rightly: seats below n -/
structure Seat (M : Mat) (n : Nat) (E : List Pr) : Prop where
  ks : (Ks E).Nodup
  vs : (Vs E).Nodup
  ask : ∀ p ∈ E, p.2 < n ∧ cell M p.2 p.1 = 1
/-- seats, and a cover of no more places of the inlets below k -/
structure Best (M : Mat) (k : Nat) (E : List Pr) : Prop where
  seat : Seat M k E
  cov : ∃ X Y, Cov M k X Y ∧ X.length + Y.length ≤ E.length
/-! ### readings of such tables -/
/-! ### going forth and back, turn by turn -/
def Come (P : List Pr) (S : Nat → Prop) (L : List Pr) (i : Nat) : Prop := S i ∨ ∃ o, (i, o) ∈ P ∧ o ∈ Ks L
theorem ks_app {L : List Pr} {o i x : Nat} : x ∈ Ks (L ++ [(o, i)]) ↔ x ∈ Ks L ∨ x = o := by
  unfold Ks
  rw [List.map_append, List.mem_append]
  exact ⟨fun h => h.imp id fun h => List.mem_singleton.mp h, fun h => h.imp id fun h => List.mem_singleton.mpr h⟩
theorem Come.more {P : List Pr} {S : Nat → Prop} {L : List Pr} {o i x : Nat} (h : Come P S L x) : Come P S (L ++ [(o, i)]) x := h.imp id fun ⟨y, a, b⟩ => ⟨y, a, ks_app.mpr (.inl b)⟩
structure Mid (M : Mat) (n : Nat) (P : List Pr) (S : Nat → Prop) (t : Nat) (C : List Nat) (L : List Pr) : Prop where
  ks : (Ks L).Nodup
  way : ∃ ρ, Way M P S L ρ ∧ ∀ o ∈ Ks L, ρ o < t
  com : ∀ i ∈ C, i < n ∧ Come P S L i
  clo : ∀ i j, i < n → Come P S L i → cell M i j = 1 → i ∈ C ∨ j ∈ Ks L
structure Row (M : Mat) (n : Nat) (P : List Pr) (S : Nat → Prop) (t i : Nat) (Z : Nat → Prop) (C : List Nat) (L : List Pr) : Prop where
  ks : (Ks L).Nodup
  way : ∃ ρ, Way M P S L ρ ∧ (∀ o ∈ Ks L, ρ o ≤ t) ∧ (S i ∨ ∃ o, (i, o) ∈ P ∧ o ∈ Ks L ∧ ρ o < t)
  lt : i < n
  com : ∀ i ∈ C, i < n ∧ Come P S L i
  clo : ∀ x j, x < n → Come P S L x → cell M x j = 1 → x ∈ C ∨ (x = i ∧ Z j) ∨ j ∈ Ks L
section
variable {M : Mat} {n : Nat} {P : List Pr} {S : Nat → Prop} {t i : Nat} {Z Z' : Nat → Prop} {C C' : List Nat} {L : List Pr}
theorem Mid.row (m : Mid M n P S t C L) (hi : i ∈ C) (h1 : ∀ x ∈ C, x ∈ C' ∨ x = i) (h2 : ∀ x ∈ C', x ∈ C) (hz : ∀ j, cell M i j = 1 → Z j) : Row M n P S t i Z C' L := by
  obtain ⟨ρ, w, b⟩ := m.way
  obtain ⟨l, c⟩ := m.com i hi
  refine ⟨m.ks, ⟨ρ, w, fun o ho => Nat.le_of_lt (b o ho), c.imp id fun ⟨o, x, y⟩ => ⟨o, x, y, b o y⟩⟩, l, fun x hx => m.com x (h2 x hx), fun x j hx hc ha => ?_⟩
  rcases m.clo x j hx hc ha with h | h
  · rcases h1 x h with h | h
    · exact .inl h
    · exact .inr (.inl ⟨h, hz j (h ▸ ha)⟩)
  · exact .inr (.inr h)
theorem Row.skip (r : Row M n P S t i Z C L) (h : ∀ j, Z j → cell M i j = 1 → Z' j ∨ j ∈ Ks L) : Row M n P S t i Z' C L := by
  refine ⟨r.ks, r.way, r.lt, r.com, fun x j hx hc ha => ?_⟩
  rcases r.clo x j hx hc ha with h1 | ⟨h1, h2⟩ | h1
  · exact .inl h1
  · rcases h j h2 (h1 ▸ ha) with h3 | h3
    · exact .inr (.inl ⟨h1, h3⟩)
    · exact .inr (.inr h3)
  · exact .inr (.inr h1)
theorem Row.mid (r : Row M n P S t i Z C L) (h : ∀ j, Z j → cell M i j ≠ 1) : Mid M n P S (t + 1) C L := by
  obtain ⟨ρ, w, b, c⟩ := r.way
  refine ⟨r.ks, ⟨ρ, w, fun o ho => Nat.lt_succ_of_le (b o ho)⟩, r.com, fun x j hx hc hj => ?_⟩
  rcases r.clo x j hx hc hj with h1 | ⟨h1, h2⟩ | h1
  · exact .inl h1
  · exact absurd (h1 ▸ hj) (h j h2)
  · exact .inr h1
theorem Mid.next (m : Mid M n P S t C L) : Mid M n P S (t + 1) C L := by
  obtain ⟨ρ, w, b⟩ := m.way
  exact ⟨m.ks, ⟨ρ, w, fun o ho => Nat.lt_succ_of_lt (b o ho)⟩, m.com, m.clo⟩
theorem Mid.first (hC : ∀ i, i ∈ C ↔ i < n ∧ S i) : Mid M n P S 0 C [] :=
  ⟨List.nodup_nil, ⟨fun _ => 0, (fun _ z => nomatch z), fun _ z => nomatch z⟩, fun i hi => ⟨((hC i).mp hi).1, .inl ((hC i).mp hi).2⟩, fun i j hi hc _ => .inl ((hC i).mpr ⟨hi, hc.resolve_right fun ⟨_, _, z⟩ => nomatch z⟩)⟩
/-- those that came, each once -/
structure Que (n : Nat) (P : List Pr) (S : Nat → Prop) (t : Nat) (U C : List Nat) (L : List Pr) : Prop where
  nd : (U ++ C).Nodup
  com : ∀ i ∈ U ++ C, i < n ∧ Come P S L i
  len : C = [] ∨ U.length = t
theorem Que.push {U : List Nat} {o x y : Nat} (q : Que n P S t U C L) (hk : (Ks P).Nodup) (hS : ∀ i, S i → i ∉ Ks P) (ho : o ∉ Ks L) (hx : x < n) (hp : (x, o) ∈ P) (hl : U.length = t) : Que n P S t U (C ++ [x]) (L ++ [(o, y)]) := by
  have nx : x ∉ U ++ C := fun z => by
    rcases (q.com x z).2 with h | ⟨o', h1, h2⟩
    · exact hS x h (mem_ks.mpr ⟨o, hp⟩)
    · exact ho (key_fun hk h1 hp ▸ h2)
  refine ⟨?_, fun i hi => ?_, .inr hl⟩
  · rw [← List.append_assoc]
    refine List.nodup_append.mpr ⟨q.nd, List.pairwise_singleton _ _, fun a ha b hb e => nx ?_⟩
    rw [← List.mem_singleton.mp hb, ← e]
    exact ha
  · rw [← List.append_assoc] at hi
    rcases List.mem_append.mp hi with h | h
    · exact ⟨(q.com i h).1, (q.com i h).2.more⟩
    · rw [List.mem_singleton.mp h]
      exact ⟨hx, .inr ⟨o, hp, ks_app.mpr (.inr rfl)⟩⟩
theorem Que.full {U : List Nat} (q : Que n P S n U C L) : C = [] := by
  rcases q.len with h | h
  · exact h
  · have := nodup_len q.nd fun x hx => (q.com x hx).1
    rw [List.length_append] at this
    exact List.length_eq_zero_iff.mp (by omega)
end
theorem in_nats_t {kd : Bool} {k : Nat} {ns : List Nat} {S : PyData → Prop} : oIn true (.int (k : Int)) (seqD kd (ns.map nD)) S = S (.bool (!ns.contains k)) := by
  have e : ns.map nD = (ns.map fun n : Nat => (n : Int)).map PyData.int := by rw [List.map_map]; rfl
  rw [e, oIn_seq, contains_nat]
  rfl
theorem in_nats_f {kd : Bool} {k : Nat} {ns : List Nat} {S : PyData → Prop} : oIn false (.int (k : Int)) (seqD kd (ns.map nD)) S = S (.bool (ns.contains k)) := by
  have e : ns.map nD = (ns.map fun n : Nat => (n : Int)).map PyData.int := by rw [List.map_map]; rfl
  rw [e, oIn_seq, contains_nat]
  rfl
theorem cell_lt {M : Mat} {i j : Nat} (h : cell M i j = 1) : i < M.length ∧ j < (M.getD i []).length := by
  unfold cell at h
  constructor
  · refine Classical.byContradiction fun z => ?_
    rw [List.getD_eq_getElem?_getD (l := M), List.getElem?_eq_none (by omega)] at h
    simp at h
  · refine Classical.byContradiction fun z => ?_
    rw [List.getD_eq_getElem?_getD (i := j), List.getElem?_eq_none (by omega)] at h
    simp at h
end Cg

set_option Elab.async false
set_option linter.all false
set_option maxRecDepth 100000
set_option maxHeartbeats 1000000
namespace Cg
open PySem PySem.Spec PyProof.Rows L2 Evl
/-! ### the same, step by step: what is told is one and the same each time -/
def lexB (p q : Pr) : Bool := decide (p.1 < q.1) || (decide (p.1 = q.1) && decide (p.2 ≤ q.2))
def sortF (D : List Pr) : List Pr := D.mergeSort lexB
theorem lexB_iff {p q : Pr} : lexB p q = true ↔ p.1 < q.1 ∨ (p.1 = q.1 ∧ p.2 ≤ q.2) := by
  unfold lexB
  rw [Bool.or_eq_true, Bool.and_eq_true, decide_eq_true_eq, decide_eq_true_eq, decide_eq_true_eq]
theorem ks_perm {A B : List Pr} (h : A.Perm B) : (Ks A).Perm (Ks B) := List.Perm.map _ h
theorem sort_perm (D : List Pr) : (sortF D).Perm D := List.mergeSort_perm _ _
theorem sort_rise {D : List Pr} (h : (Ks D).Nodup) : (sortF D).Pairwise fun p q => p.1 < q.1 := by
  have h1 : (sortF D).Pairwise fun p q => lexB p q = true := List.pairwise_mergeSort (le := lexB) (fun a b c h1 h2 => by
    rw [lexB_iff] at *
    omega) (fun a b => by
    rw [Bool.or_eq_true, lexB_iff, lexB_iff]
    omega) D
  have h2 : (sortF D).Pairwise fun p q => p.1 ≠ q.1 := by
    have : (Ks (sortF D)).Nodup := (List.Perm.nodup_iff (ks_perm (sort_perm D))).mpr h
    exact List.pairwise_map.mp this
  exact (h1.and h2).imp fun {p q} hpq => by
    have := lexB_iff.mp hpq.1
    have := hpq.2
    omega
theorem rise_uniq : ∀ {ps qs : List Pr}, ps.Pairwise (fun p q => p.1 < q.1) → qs.Pairwise (fun p q => p.1 < q.1) → ps.Perm qs → ps = qs
  | [], qs, _, _, h => h.nil_eq
  | p :: ps, [], _, _, h => absurd h.length_eq (by simp)
  | p :: ps, q :: qs, h1, h2, h => by
    obtain ⟨a1, a2⟩ := List.pairwise_cons.mp h1
    obtain ⟨b1, b2⟩ := List.pairwise_cons.mp h2
    have e : p = q := by
      rcases List.mem_cons.mp (h.mem_iff.mp (List.mem_cons_self ..)) with e | e
      · exact e
      · rcases List.mem_cons.mp (h.mem_iff.mpr (List.mem_cons_self ..)) with e2 | e2
        · exact e2.symm
        · have := b1 p e
          have := a1 q e2
          omega
    subst e
    rw [rise_uniq a2 b2 ((List.perm_cons p).mp h)]
/-- a row of pairs, sorted -/
theorem sorted_is {D : List Pr} {qs : List (Int × Int)} (h : (Ks D).Nodup) (hp : qs.Perm (D.map cN)) (hs : qs.Pairwise lexP) : qs = (sortF D).map cN := by
  have e : ∀ q ∈ qs, cN (q.1.toNat, q.2.toNat) = q := fun q hq => by
    obtain ⟨p, _, rfl⟩ := List.mem_map.mp (hp.mem_iff.mp hq)
    rfl
  have eq : qs = (qs.map fun q => (q.1.toNat, q.2.toNat)).map cN := by
    rw [List.map_map]
    exact (List.map_id qs).symm.trans (List.map_congr_left fun q hq => (e q hq).symm)
  have pf : (qs.map fun q : Int × Int => (q.1.toNat, q.2.toNat)).Perm D := by
    have := hp.map fun q : Int × Int => (q.1.toNat, q.2.toNat)
    rw [List.map_map] at this
    exact this.trans (.of_eq ((List.map_congr_left fun p _ => rfl).trans (List.map_id _)))
  generalize (qs.map fun q : Int × Int => (q.1.toNat, q.2.toNat)) = ps at eq pf
  rw [eq] at hs
  have nd : ps.Pairwise fun p q => p.1 ≠ q.1 := List.pairwise_map.mp ((List.Perm.nodup_iff (ks_perm pf)).mpr h)
  have hr : ps.Pairwise fun p q => p.1 < q.1 := ((List.pairwise_map.mp hs).and nd).imp fun {a b} hab => by
    rcases hab.1 with h | h
    · have : ((a.1 : Int) < (b.1 : Int)) := h
      omega
    · have : ((a.1 : Int) = (b.1 : Int)) := h.1
      exact absurd (by omega) hab.2
  rw [eq, rise_uniq hr (sort_rise h) (pf.trans (sort_perm D).symm)]
theorem dataP (ps : List Pr) : (T.lst (ps.map fun p => T.sh (pD p))).data = .list (ps.map pD) := by
  show PyData.list (T.datas _) = _
  rw [datas_map, List.map_map]
  rfl
theorem sortP_is {D : List Pr} {S : List PyData → Prop} (h : (Ks D).Nodup) (hS : S ((sortF D).map pD)) : oSortP [.list (D.map pD)] S := by
  refine ⟨D.map cN, by rw [List.map_map]; rfl, fun qs hp hs => ?_⟩
  rw [sorted_is h hp hs, List.map_map]
  exact hS
theorem tab_data (M : Mat) : (T.lst (M.map fun r => .lst (r.map fun x => .sh (.int x)))).data = tabD true true M := by
  show PyData.list (T.datas _) = _
  rw [datas_map, List.map_map]
  unfold tabD
  show PyData.list _ = PyData.list _
  congr 1
  refine List.map_congr_left fun r _ => ?_
  show PyData.list (T.datas _) = _
  rw [datas_map, List.map_map]
  rfl
theorem wLenSet_eq {we : WE} {ε : Env} {N : Nat} {R : PyData → Nat → Prop} : wLenSet we ε N R = we ε N fun d N1 => dList d fun ds => ∃ ns, intsOf ds = some ns ∧ ns.length ≤ 4000 ∧ R (.int (dedN ns : Nat)) N1 := propext Iff.rfl
end Cg

set_option Elab.async false
set_option linter.all false
set_option maxRecDepth 100000
set_option maxHeartbeats 1000000
namespace Cg
open PySem PySem.Spec PyProof.Rows L2 Evl
/-! ### x = y, both their own: y is no more -/
def wMove (i j : Nat) : WS := fun D ε N => atIs ε[j]? fun t => D.nx ((ε.set j .no).set i (.is t)) N
theorem wMove_eq {i j : Nat} {D : EW} {ε : Env} {N : Nat} : wMove i j D ε N = atIs ε[j]? fun t => D.nx ((ε.set j .no).set i (.is t)) N := propext Iff.rfl
/-- return (x, e), x its own, e new -/
def wRetVT (i : Nat) (wt : WT) : WS := fun D ε N => atIs ε[i]? fun t => wt ε N fun u N' => D.rt (.tup [t, u]) N'
theorem wRetVT_eq {i : Nat} {wt : WT} {D : EW} {ε : Env} {N : Nat} : wRetVT i wt D ε N = atIs ε[i]? fun t => wt ε N fun u N' => D.rt (.tup [t, u]) N' := propext Iff.rfl
/-- what is never reached -/
def wNever : WS := fun _ _ _ => False
theorem sim_never : SimS tNever wNever := fun _ w _ => w.elim
end Cg

set_option Elab.async false
set_option linter.all false
set_option maxRecDepth 100000
set_option maxHeartbeats 1000000
namespace Cg
open PySem PySem.Spec PyProof.Rows L2 Evl
section
variable {X : Cx}
/-! xs.count(d), data of any depth -/
end
/-! min(xs), a list of ints -/
/-! if not f(box, x.pop(k)): .. -/
end Cg

set_option Elab.async false
set_option linter.all false
set_option maxRecDepth 100000
set_option maxHeartbeats 1000000
namespace Cg
open PySem PySem.Spec PyProof.Rows L2 Evl
/-! ### sums over places -/
def sm (n : Nat) (g : Nat → Int) : Int := ((List.range n).map g).sum
theorem sm_zero (g : Nat → Int) : sm 0 g = 0 := rfl
theorem sm_succ (n : Nat) (g : Nat → Int) : sm (n + 1) g = sm n g + g n := by
  unfold sm
  rw [List.range_succ, List.map_append, List.sum_append]
  simp
theorem sm_cg {n : Nat} {g h : Nat → Int} (e : ∀ i, i < n → g i = h i) : sm n g = sm n h := by
  unfold sm
  rw [List.map_congr_left fun i hi => e i (List.mem_range.mp hi)]
theorem sm_add (n : Nat) (g h : Nat → Int) : sm n (fun i => g i + h i) = sm n g + sm n h := by
  induction n with
  | zero => rfl
  | succ n ih => rw [sm_succ, sm_succ, sm_succ, ih]; omega
theorem sm_sub (n : Nat) (g h : Nat → Int) : sm n (fun i => g i - h i) = sm n g - sm n h := by
  induction n with
  | zero => rfl
  | succ n ih => rw [sm_succ, sm_succ, sm_succ, ih]; omega
theorem sm_const (n : Nat) (c : Int) : sm n (fun _ => c) = n * c := by
  induction n with
  | zero => rw [sm_zero]; simp
  | succ n ih => rw [sm_succ, ih, Int.natCast_add, Int.add_mul]; simp
theorem sm_mul (n : Nat) (g : Nat → Int) (c : Int) : sm n (fun i => g i * c) = sm n g * c := by
  induction n with
  | zero => rw [sm_zero, sm_zero]; simp
  | succ n ih => rw [sm_succ, sm_succ, ih, Int.add_mul]
theorem sm_le {n : Nat} {g h : Nat → Int} (e : ∀ i, i < n → g i ≤ h i) : sm n g ≤ sm n h := by
  induction n with
  | zero => exact Int.le_refl _
  | succ n ih =>
    rw [sm_succ, sm_succ]
    have := ih fun i hi => e i (by omega)
    have := e n (by omega)
    omega
theorem sm_nn {n : Nat} {g : Nat → Int} (e : ∀ i, i < n → 0 ≤ g i) : 0 ≤ sm n g := by
  have := sm_le (n := n) (g := fun _ => 0) (h := g) e
  rw [sm_const] at this
  omega
theorem sm_all0 {n : Nat} {g : Nat → Int} (e : ∀ i, i < n → 0 ≤ g i) (z : sm n g = 0) : ∀ i, i < n → g i = 0 := by
  induction n with
  | zero => intro i hi; omega
  | succ n ih =>
    rw [sm_succ] at z
    have h1 := sm_nn (n := n) (g := g) fun i hi => e i (by omega)
    have h2 := e n (by omega)
    intro i hi
    by_cases hn : i = n
    · subst hn; omega
    · exact ih (fun i hi => e i (by omega)) (by omega) i (by omega)
theorem sm_swap (n m : Nat) (g : Nat → Nat → Int) : sm n (fun i => sm m fun j => g i j) = sm m fun j => sm n fun i => g i j := by
  induction n with
  | zero => rw [sm_zero]; rw [sm_cg (n := m) (h := fun _ => 0) fun j _ => sm_zero _, sm_const]; simp
  | succ n ih =>
    rw [sm_succ, ih, ← sm_add]
    exact sm_cg fun j _ => (sm_succ _ _).symm
/-- one place alone -/
theorem sm_one {n k : Nat} (c : Int) (h : k < n) : sm n (fun i => if i = k then c else 0) = c := by
  induction n with
  | zero => omega
  | succ n ih =>
    rw [sm_succ]
    by_cases e : n = k
    · subst e
      rw [if_pos rfl, sm_cg (h := fun _ => 0) fun i hi => if_neg (by omega), sm_const]
      simp
    · rw [if_neg e, ih (by omega)]
      simp
/-- how many of these are below n -/
theorem sm_mem (n : Nat) (X : List Nat) : sm n (fun i => if i ∈ X then 1 else 0) ≤ X.length := by
  have e : sm n (fun i => if i ∈ X then 1 else 0) = (((List.range n).filter fun i => decide (i ∈ X)).length : Nat) := by
    induction n with
    | zero => rfl
    | succ n ih =>
      rw [sm_succ, ih, List.range_succ, List.filter_append, List.length_append]
      by_cases h : n ∈ X
      · rw [if_pos h, List.filter_cons_of_pos (by simpa using h)]; rfl
      · rw [if_neg h, List.filter_cons_of_neg (by simpa using h)]; rfl
  rw [e]
  have := sub_len (List.Pairwise.filter (fun i => decide (i ∈ X)) (List.nodup_range (n := n))) (ys := X) fun x hx => by simpa using (List.mem_filter.mp hx).2
  omega
/-! ### numbers whose rows and columns all give b -/
structure Reg (n : Nat) (b : Int) (f : Nat → Nat → Int) : Prop where
  nn : ∀ i j, i < n → j < n → 0 ≤ f i j
  row : ∀ i, i < n → sm n (f i) = b
  col : ∀ j, j < n → sm n (fun i => f i j) = b
theorem Reg.cov {n : Nat} {b : Int} {f : Nat → Nat → Int} (h : Reg n b f) (hb : 0 < b) {X Y : List Nat} (c : ∀ i j, i < n → j < n → 0 < f i j → i ∈ X ∨ j ∈ Y) : n ≤ X.length + Y.length := by
  have h1 : sm n (fun i => sm n fun j => f i j) = n * b := by
    rw [← sm_const]
    exact sm_cg fun i hi => h.row i hi
  have h2 : sm n (fun i => sm n fun j => f i j) ≤ sm n (fun i => sm n fun j => (if i ∈ X then 1 else 0) * f i j + (if j ∈ Y then 1 else 0) * f i j) := by
    refine sm_le fun i hi => sm_le fun j hj => ?_
    have h0 := h.nn i j hi hj
    by_cases hx : i ∈ X
    · rw [if_pos hx]
      split <;> omega
    · rw [if_neg hx]
      by_cases hy : j ∈ Y
      · rw [if_pos hy]; omega
      · rw [if_neg hy]
        have : ¬ 0 < f i j := fun z => (c i j hi hj z).elim hx hy
        omega
  have h3 : sm n (fun i => sm n fun j => (if i ∈ X then 1 else 0) * f i j + (if j ∈ Y then 1 else 0) * f i j) = sm n (fun i => if i ∈ X then 1 else 0) * b + sm n (fun j => if j ∈ Y then 1 else 0) * b := by
    rw [sm_cg (h := fun i => (if i ∈ X then 1 else 0) * b + sm n fun j => (if j ∈ Y then 1 else 0) * f i j) (fun i hi => by
      rw [sm_add, ← h.row i hi]
      congr 1
      rw [sm_cg (h := fun j => f i j * (if i ∈ X then 1 else 0)) (fun j _ => Int.mul_comm _ _), sm_mul, Int.mul_comm]), sm_add, sm_mul, sm_swap]
    congr 1
    rw [← sm_mul]
    refine sm_cg fun j hj => ?_
    rw [sm_cg (h := fun i => f i j * (if j ∈ Y then 1 else 0)) (fun i _ => Int.mul_comm _ _), sm_mul, h.col j hj, Int.mul_comm]
  have h4 := sm_mem n X
  have h5 := sm_mem n Y
  rw [h1, h3, ← Int.add_mul] at h2
  have h6 := Int.le_of_mul_le_mul_right h2 hb
  omega
/-- pairs that take each place once -/
theorem Reg.less {n : Nat} {b : Int} {f : Nat → Nat → Int} (h : Reg n b f) {P : List Pr} (ha : Apart P) (hl : n ≤ P.length) (hp : ∀ p ∈ P, p.1 < n ∧ p.2 < n ∧ 0 < f p.1 p.2) : Reg n (b - 1) fun i j => f i j - if (i, j) ∈ P then 1 else 0 := by
  obtain ⟨a1, a2⟩ := apart_iff.mp ha
  have full : ∀ {ns : List Nat}, ns.Nodup → (∀ x ∈ ns, x < n) → n ≤ ns.length → ∀ i, i < n → i ∈ ns := fun {ns} nd lt ln i hi => by
    refine Classical.byContradiction fun hc => ?_
    have := nodup_len (List.nodup_cons.mpr ⟨hc, nd⟩) (n := n) fun x hx => by
      rcases List.mem_cons.mp hx with rfl | hx
      · exact hi
      · exact lt x hx
    rw [List.length_cons] at this
    omega
  have k1 : ∀ i, i < n → i ∈ Ks P := full a1 (fun x hx => by
    obtain ⟨y, hy⟩ := mem_ks.mp hx
    exact (hp _ hy).1) (by unfold Ks; rw [List.length_map]; exact hl)
  have k2 : ∀ j, j < n → j ∈ Vs P := full a2 (fun x hx => by
    obtain ⟨p, hy, rfl⟩ := List.mem_map.mp hx
    exact (hp _ hy).2.1) (by unfold Vs; rw [List.length_map]; exact hl)
  refine ⟨fun i j hi hj => ?_, fun i hi => ?_, fun j hj => ?_⟩
  · show 0 ≤ f i j - _
    by_cases hm : (i, j) ∈ P
    · rw [if_pos hm]
      have : 0 < f i j := (hp _ hm).2.2
      omega
    · rw [if_neg hm]
      have := h.nn i j hi hj
      omega
  · rw [sm_sub, h.row i hi]
    obtain ⟨y, hy⟩ := mem_ks.mp (k1 i hi)
    rw [sm_cg (h := fun j => if j = y then 1 else 0) (fun j _ => by
      by_cases e : j = y
      · subst e; rw [if_pos hy, if_pos rfl]
      · rw [if_neg e, if_neg fun z => e (key_fun a1 z hy)]), sm_one _ (hp _ hy).2.1]
  · rw [sm_sub, h.col j hj]
    obtain ⟨p, hy, rfl⟩ := List.mem_map.mp (k2 j hj)
    rw [sm_cg (h := fun i => if i = p.1 then 1 else 0) (fun i _ => by
      by_cases e : i = p.1
      · subst e; rw [if_pos hy, if_pos rfl]
      · rw [if_neg e, if_neg fun z => e (val_fun a2 z (show (p.1, p.2) ∈ P from hy))]), sm_one _ (hp _ hy).1]
theorem Reg.zero {n : Nat} {f : Nat → Nat → Int} (h : Reg n 0 f) : ∀ i j, i < n → j < n → f i j = 0 := fun i j hi hj => sm_all0 (fun j hj => h.nn i j hi hj) (h.row i hi) j hj
end Cg

set_option Elab.async false
set_option linter.all false
set_option maxRecDepth 100000
set_option maxHeartbeats 1000000
namespace Cg
open PySem PySem.Spec PyProof.Rows L2 Evl
/-! ### a law that walks over boxes: what stands behind the box, by value -/
end Cg

set_option Elab.async false
set_option linter.all false
set_option maxRecDepth 100000
set_option maxHeartbeats 1000000
namespace Cg
open PySem PySem.Spec PyProof.Rows L2 Evl
/-! ### the parts of what is its own -/
def T.kids : T → List T
  | .lst ts => ts
  | .tup ts => ts
  | .ins _ _ _ ts => ts
  | .rc _ _ ts => ts
  | .lsa _ ts => ts
  | _ => []
def T.rekid : T → List T → T
  | .lst _, ts => .lst ts
  | .tup _, ts => .tup ts
  | .ins a C ns _, ts => .ins a C ns ts
  | .rc a ns _, ts => .rc a ns ts
  | .lsa a _, ts => .lsa a ts
  | t, _ => t
def atP : List Nat → T → Option T
  | [], t => some t
  | k :: π, t => match t.kids[k]? with
    | some u => atP π u
    | none => none
def putP : List Nat → T → T → T
  | [], _, s => s
  | k :: π, t, s => match t.kids[k]? with
    | some u => t.rekid (t.kids.set k (putP π u s))
    | none => t
/-- the values that stand in it -/
def Kd (H : Hp) (v : V) (vs : List V) : Prop := ∃ a, v = .ref a ∧ (H a = some (.lst vs) ∨ H a = some (.tup vs) ∨ (∃ (C dx : Addr) (ns : List Str), H a = some (.ins C dx (ns.zip vs)) ∧ ns.length = vs.length) ∨ ∃ ns : List Str, H a = some (.dK (kz ns vs)) ∧ ns.length = vs.length)
theorem zip_inj {α β : Type} : ∀ {ns ms : List α} {vs us : List β}, ns.length = vs.length → ms.length = us.length → ns.zip vs = ms.zip us → ns = ms ∧ vs = us
  | [], [], [], [], _, _, _ => ⟨rfl, rfl⟩
  | [], _ :: _, [], _ :: _, _, _, h => by cases h
  | _ :: _, [], _ :: _, [], _, _, h => by cases h
  | n :: ns, m :: ms, v :: vs, u :: us, h1, h2, h => by
    rw [List.zip_cons_cons, List.zip_cons_cons] at h
    injection h with h3 h4
    injection h3 with h5 h6
    obtain ⟨h7, h8⟩ := zip_inj (by simpa using h1) (by simpa using h2) h4
    rw [h5, h6, h7, h8]
    exact ⟨rfl, rfl⟩
theorem map_inj {α β : Type} {f : α → β} (hf : ∀ {x y}, f x = f y → x = y) : ∀ {xs ys : List α}, xs.map f = ys.map f → xs = ys
  | [], [], _ => rfl
  | [], _ :: _, h => by cases h
  | _ :: _, [], h => by cases h
  | x :: xs, y :: ys, h => by
    rw [List.map_cons, List.map_cons] at h
    injection h with h1 h2
    rw [hf h1, map_inj hf h2]
theorem kz_inj {ns ms : List Str} {vs us : List V} (h1 : ns.length = vs.length) (h2 : ms.length = us.length) (h : kz ns vs = kz ms us) : ns = ms ∧ vs = us := by
  refine zip_inj h1 h2 (map_inj (fun {x y} z => ?_) h)
  obtain ⟨x1, x2⟩ := x
  obtain ⟨y1, y2⟩ := y
  injection z with z1 z2
  injection z1 with z1
  have z1 : x1 = y1 := z1
  have z2 : x2 = y2 := z2
  rw [z1, z2]
theorem Kd.fn {H : Hp} {v : V} {vs us : List V} (h : Kd H v vs) (k : Kd H v us) : vs = us := by
  obtain ⟨a, rfl, h⟩ := h
  obtain ⟨a', e, k⟩ := k
  cases e
  rcases h with h | h | ⟨C, dx, ns, h, l⟩ | ⟨ns, h, l⟩ <;> rcases k with k | k | ⟨C', dx', ns', k, l'⟩ | ⟨ns', k, l'⟩ <;> rw [h] at k <;> have k := Option.some.inj k <;> first | (cases k; done) | skip
  · injection k
  · injection k
  · injection k with _ _ k
    exact (zip_inj l l' k).2
  · injection k with k
    exact (kz_inj l l' k).2
/-- along the path from v stands u -/
def VAt (H : Hp) : V → List Nat → V → Prop
  | v, [], u => v = u
  | v, k :: π, u => ∃ vs w, Kd H v vs ∧ vs[k]? = some w ∧ VAt H w π u
theorem VAt.fn {H : Hp} : ∀ {π : List Nat} {v u w : V}, VAt H v π u → VAt H v π w → u = w
  | [], _, _, _, h, k => h.symm.trans k
  | _ :: π, _, _, _, ⟨vs, x, h1, h2, h3⟩, ⟨us, y, k1, k2, k3⟩ => by
    have e := h1.fn k1
    subst e
    have e2 := Option.some.inj (h2.symm.trans k2)
    subst e2
    exact h3.fn k3
theorem VAt.snoc {H : Hp} {vs : List V} {k : Nat} {u w : V} : ∀ {π : List Nat} {v : V}, VAt H v π u → Kd H u vs → vs[k]? = some w → VAt H v (π ++ [k]) w
  | [], v, h, hk, hw => by
    have h' : v = u := h
    subst h'
    exact ⟨vs, w, hk, hw, rfl⟩
  | j :: π, v, ⟨us, x, h1, h2, h3⟩, hk, hw => ⟨us, x, h1, h2, h3.snoc hk hw⟩
theorem atP_snoc {k : Nat} {x : T} : ∀ {π : List Nat} {t s : T}, atP π t = some s → s.kids[k]? = some x → atP (π ++ [k]) t = some x
  | [], t, s, h, hk => by
    have h' : t = s := Option.some.inj h
    subst h'
    show (match t.kids[k]? with | some u => atP [] u | none => none) = some x
    rw [hk]
    rfl
  | j :: π, t, s, h, hk => by
    have h' : (match t.kids[j]? with | some u => atP π u | none => none) = some s := h
    show (match t.kids[j]? with | some u => atP (π ++ [k]) u | none => none) = some x
    split at h'
    · exact atP_snoc h' hk
    · cases h'
section
variable {bs cs : List Addr} {H H' : Hp}
/-- a node and its parts -/
theorem Rep.kids {v : V} {t u : T} {k : Nat} {A : List Addr} (h : Rep bs H v t A) (hk : t.kids[k]? = some u) : ∃ vs A0 A1, A = A0 ++ A1 ∧ Kd H v vs ∧ RepL bs H vs t.kids A1 ∧
    ∀ {cs : List Addr} {H' : Hp} {ts : List T} {B : List Addr}, NoTup bs H → Same (hid bs H) (hid cs H') → (∀ a ∈ A0, ∀ o, H a = some o → H' a = some o) → RepL cs H' vs ts B → Rep cs H' v (t.rekid ts) (A0 ++ B) ∧ Kd H' v vs := by
  cases h with
  | sh h => cases hk
  | lst e h =>
    rename_i a vs ts A
    exact ⟨vs, [a], A, rfl, ⟨a, rfl, .inl e⟩, h, fun {cs H' ts B} _ _ k2 r => ⟨.lst (k2 a (List.mem_singleton.mpr rfl) _ e) r, ⟨a, rfl, .inl (k2 a (List.mem_singleton.mpr rfl) _ e)⟩⟩⟩
  | tup e h =>
    rename_i a vs ts
    exact ⟨vs, [], A, rfl, ⟨a, rfl, .inr (.inl e)⟩, h, fun {cs H' ts B} hn k1 _ r => have e' := (hid_some (k1 _ _ (by rw [hid_out (fun z => hn _ z _ e)]; exact e))).2; ⟨.tup e' r, ⟨a, rfl, .inr (.inl e')⟩⟩⟩
  | dic e => cases hk
  | ins e e2 l h =>
    rename_i a C dx ns vs ts A
    exact ⟨vs, [a, dx], A, rfl, ⟨a, rfl, .inr (.inr (.inl ⟨C, dx, ns, e, l⟩))⟩, h, fun {cs H' ts B} _ _ k2 r => ⟨.ins (k2 a (List.mem_cons_self ..) _ e) (k2 dx (List.mem_cons_of_mem _ (List.mem_cons_self ..)) _ e2) l r, ⟨a, rfl, .inr (.inr (.inl ⟨C, dx, ns, k2 a (List.mem_cons_self ..) _ e, l⟩))⟩⟩⟩
  | lsa e h =>
    rename_i a vs ts A
    exact ⟨vs, [a], A, rfl, ⟨a, rfl, .inl e⟩, h, fun {cs H' ts B} _ _ k2 r => ⟨.lsa (k2 a (List.mem_singleton.mpr rfl) _ e) r, ⟨a, rfl, .inl (k2 a (List.mem_singleton.mpr rfl) _ e)⟩⟩⟩
  | rc e l h =>
    rename_i a ns vs ts A
    exact ⟨vs, [a], A, rfl, ⟨a, rfl, .inr (.inr (.inr ⟨ns, e, l⟩))⟩, h, fun {cs H' ts B} _ _ k2 r => ⟨.rc (k2 a (List.mem_singleton.mpr rfl) _ e) l r, ⟨a, rfl, .inr (.inr (.inr ⟨ns, k2 a (List.mem_singleton.mpr rfl) _ e, l⟩))⟩⟩⟩
/-- the part k of a row, put back otherwise -/
theorem RepL.part : ∀ {vs : List V} {ts : List T} {A : List Addr}, RepL bs H vs ts A → ∀ {k : Nat} {t : T}, ts[k]? = some t → ∃ v A1 Av A2, vs[k]? = some v ∧ Rep bs H v t Av ∧ A = A1 ++ (Av ++ A2) ∧
    ∀ {cs : List Addr} {H' : Hp} {t' : T} {B : List Addr}, NoTup bs H → Same (hid bs H) (hid cs H') → (∀ a ∈ A1 ++ A2, ∀ o, H a = some o → H' a = some o) → Rep cs H' v t' B → RepL cs H' vs (ts.set k t') (A1 ++ (B ++ A2))
  | _, _, _, .nil, k, t, e => by cases e
  | _, _, _, .cons (v := v) (A := A) (B := B) h q, 0, t, e => by
    have e' := Option.some.inj e
    subst e'
    exact ⟨v, [], A, B, rfl, h, rfl, fun {cs H' t' B'} hn k1 k2 r => RepL.cons (A := B') (B := B) r (q.chg hn k1 k2)⟩
  | _, _, _, .cons (v := v) (A := A) (B := B) h q, k + 1, t, e => by
    obtain ⟨v2, A1, Av, A2, p1, p2, p3, p5⟩ := q.part (k := k) (t := t) e
    refine ⟨v2, A ++ A1, Av, A2, p1, p2, by rw [p3, List.append_assoc], fun {cs H' t' B'} hn k1 k2 r => ?_⟩
    rw [List.append_assoc]
    refine .cons (h.chg hn k1 fun a ha => k2 a ?_) (p5 hn k1 (fun a ha => k2 a ?_) r)
    · exact List.mem_append_left _ (List.mem_append_left _ ha)
    · rcases List.mem_append.mp ha with z | z
      · exact List.mem_append_left _ (List.mem_append_right _ z)
      · exact List.mem_append_right _ z
/-- the part at π -/
theorem Rep.zoom : ∀ {π : List Nat} {v : V} {t s : T} {A : List Addr}, Rep bs H v t A → atP π t = some s → ∃ u A1 B A2, A = A1 ++ (B ++ A2) ∧ VAt H v π u ∧ Rep bs H u s B ∧
    ∀ {cs : List Addr} {H' : Hp} {s' : T} {B' : List Addr}, NoTup bs H → Same (hid bs H) (hid cs H') → (∀ a ∈ A1 ++ A2, ∀ o, H a = some o → H' a = some o) → Rep cs H' u s' B' → Rep cs H' v (putP π t s') (A1 ++ (B' ++ A2))
  | [], v, t, s, A, h, e => by
    have e' : t = s := Option.some.inj e
    subst e'
    refine ⟨v, [], A, [], (List.append_nil A).symm, rfl, h, fun {cs H' s' B'} _ _ _ r => ?_⟩
    rw [List.append_nil]
    exact r
  | k :: π, v, t, s, A, h, e => by
    have e' : (match t.kids[k]? with | some u => atP π u | none => none) = some s := e
    split at e'
    · rename_i u hk
      obtain ⟨vs, A0, A1, eA, hkd, hr, back⟩ := h.kids hk
      obtain ⟨w, B1, Bv, B2, p1, p2, p3, p4⟩ := hr.part hk
      obtain ⟨x, C1, D, C2, q1, q2, q3, q4⟩ := p2.zoom e'
      refine ⟨x, A0 ++ (B1 ++ C1), D, C2 ++ B2, ?_, ⟨vs, w, hkd, p1, q2⟩, q3, fun {cs H' s' B'} hn k1 k2 r => ?_⟩
      · rw [eA, p3, q1]
        simp only [List.append_assoc]
      · have e1 : putP (k :: π) t s' = t.rekid (t.kids.set k (putP π u s')) := by
          show (match t.kids[k]? with | some u => t.rekid (t.kids.set k (putP π u s')) | none => t) = _
          rw [hk]
        rw [e1]
        have m1 : ∀ a, a ∈ A0 → a ∈ (A0 ++ (B1 ++ C1)) ++ (C2 ++ B2) := fun a ha => List.mem_append_left _ (List.mem_append_left _ ha)
        have r1 : Rep cs H' w (putP π u s') (C1 ++ (B' ++ C2)) := q4 hn k1 (fun a ha => k2 a (by
          rcases List.mem_append.mp ha with z | z
          · exact List.mem_append_left _ (List.mem_append_right _ (List.mem_append_right _ z))
          · exact List.mem_append_right _ (List.mem_append_left _ z))) r
        have r2 : RepL cs H' vs (t.kids.set k (putP π u s')) (B1 ++ ((C1 ++ (B' ++ C2)) ++ B2)) := p4 hn k1 (fun a ha => k2 a (by
          rcases List.mem_append.mp ha with z | z
          · exact List.mem_append_left _ (List.mem_append_right _ (List.mem_append_left _ z))
          · exact List.mem_append_right _ (List.mem_append_right _ z))) r1
        have r3 := (back hn k1 (fun a ha => k2 a (m1 a ha)) r2).1
        have e2 : A0 ++ (B1 ++ C1) ++ (B' ++ (C2 ++ B2)) = A0 ++ (B1 ++ ((C1 ++ (B' ++ C2)) ++ B2)) := by simp only [List.append_assoc]
        rw [e2]
        exact r3
    · cases e'
theorem VAt.chg (hn : NoTup bs H) (k1 : Same (hid bs H) (hid cs H')) : ∀ {π : List Nat} {v u : V} {t s : T} {A : List Addr}, Rep bs H v t A → atP π t = some s → (∀ a ∈ A, ∀ o, H a = some o → H' a = some o) → VAt H v π u → VAt H' v π u
  | [], v, u, t, s, A, _, _, _, h => h
  | k :: π, v, u, t, s, A, hr, e, hA, h => by
    have e' : (match t.kids[k]? with | some u => atP π u | none => none) = some s := e
    split at e'
    · rename_i x hk
      obtain ⟨vs, A0, A1, rfl, hkd, hl, back⟩ := hr.kids hk
      obtain ⟨w, B1, Bv, B2, p1, p2, rfl, _⟩ := hl.part hk
      obtain ⟨vs', w', g1, g2, g3⟩ := h
      have ev := hkd.fn g1
      subst ev
      have ew := Option.some.inj (p1.symm.trans g2)
      subst ew
      refine ⟨vs, w, (back hn k1 (fun a ha => hA a (List.mem_append_left _ ha)) (hl.chg hn k1 fun a ha => hA a (List.mem_append_right _ ha))).2, p1, VAt.chg hn k1 p2 e' (fun a ha => hA a (List.mem_append_right _ (List.mem_append_right _ (List.mem_append_left _ ha)))) g3⟩
    · cases e'
end
end Cg

set_option Elab.async false
set_option linter.all false
set_option maxRecDepth 100000
set_option maxHeartbeats 1000000
namespace Cg
open PySem PySem.Spec PyProof.Rows L2 Evl
section
variable {c : Base} {b bs cs F A B : List Addr} {σ τ : L2.St} {H H1 H2 H' : Hp} {ε δ : Env} {N N1 N2 N' : Nat} {u v : V} {t s : T} {d : PyData}
/-- the part at π of slot i, and what comes of all slots when it stands otherwise -/
theorem Rel.chgP {i : Nat} {π : List Nat} (r : Rel c bs F σ H ε N) (hl : ε[i]? = some (.is t)) (hs : σ[i]? = some (some v)) (ha : atP π t = some s) (hv : VAt H v π u) :
    ∃ B, Rep bs H u s B ∧ B.Nodup ∧ (∀ a ∈ B, a ∈ F) ∧
    ∀ {cs : List Addr} {H' : Hp} {s' : T} {B' : List Addr} {N' : Nat}, Keep (B ++ c.b) H H' → (∀ a ∈ c.b, Box H' a N') → (∀ a ∈ cs, a ∈ bs ∨ H a = none) → (∀ a ∈ bs, a ∉ B → a ∈ cs) → Live cs H' → NoTup cs H' →
      (∀ a ∈ B', a ∈ cs ∧ (a ∈ B ∨ (a ∉ F ∧ c.P a = none ∧ a ∉ c.bs0))) → B'.Nodup → Rep cs H' u s' B' → ∃ F', Rel c cs F' σ H' (ε.set i (.is (putP π t s'))) N' ∧ ∀ a ∈ F', (a ∈ F ∧ a ∉ B) ∨ a ∈ B' := by
  obtain ⟨x, A, F1, F2, q1, q2, rfl, q4⟩ := r.env.at hl
  have ex : x = some v := Option.some.inj (q1.symm.trans hs)
  subst ex
  cases q2 with
  | is q2 =>
    obtain ⟨u', A1, B, A2, rfl, z1, z2, z3⟩ := q2.zoom ha
    have eu := z1.fn hv
    subst eu
    have e1 : F1 ++ ((A1 ++ (B ++ A2)) ++ F2) = (F1 ++ A1) ++ (B ++ (A2 ++ F2)) := by simp only [List.append_assoc]
    have nd := r.nd
    rw [e1] at nd
    obtain ⟨n1, n2, n3⟩ := List.nodup_append.mp nd
    obtain ⟨n4, n5, n6⟩ := List.nodup_append.mp n2
    have memB : ∀ a ∈ B, a ∈ F1 ++ ((A1 ++ (B ++ A2)) ++ F2) := fun a ha => by rw [e1]; exact List.mem_append_right _ (List.mem_append_left _ ha)
    have outB : ∀ a, a ∈ (F1 ++ A1) ++ (A2 ++ F2) → a ∈ F1 ++ ((A1 ++ (B ++ A2)) ++ F2) ∧ a ∉ B := fun a ha => by
      rw [e1]
      rcases List.mem_append.mp ha with h | h
      · exact ⟨List.mem_append_left _ h, fun z => n3 a h a (List.mem_append_left _ z) rfl⟩
      · exact ⟨List.mem_append_right _ (List.mem_append_right _ h), fun z => n6 a z a h rfl⟩
    refine ⟨B, z2, n4, memB, fun {cs H' s' B' N'} kp bx c1 c2 lv nt hB nB rp => ?_⟩
    have keep : ∀ a ∈ (F1 ++ A1) ++ (A2 ++ F2), ∀ o, H a = some o → H' a = some o := fun a ha o e => kp.get (fun z => (List.mem_append.mp z).elim (outB a ha).2 fun z => r.fb a (outB a ha).1 z) e
    have vis : Same (hid bs H) (hid cs H') := fun a o e => by
      obtain ⟨h1, h2⟩ := hid_some e
      have h3 : a ∉ cs := fun z => (c1 a z).elim h1 fun z => by rw [h2] at z; cases z
      rw [hid_out h3]
      exact kp.get (fun z => (List.mem_append.mp z).elim (fun z => h1 (r.sub a (memB a z))) fun z => h1 (r.bin a z)) h2
    have rv := z3 r.nt vis (fun a ha o e => keep a (by
      rcases List.mem_append.mp ha with z | z
      · exact List.mem_append_left _ (List.mem_append_right _ z)
      · exact List.mem_append_right _ (List.mem_append_left _ z)) o e) rp
    have env := q4 (cs := cs) (H' := H') (y := some v) (m := .is (putP π t s')) r.nt vis (fun a ha o e => keep a (by
      rcases List.mem_append.mp ha with z | z
      · exact List.mem_append_left _ (List.mem_append_left _ z)
      · exact List.mem_append_right _ (List.mem_append_right _ z)) o e) (.is rv)
    rw [set_same q1] at env
    have e2 : F1 ++ ((A1 ++ (B' ++ A2)) ++ F2) = (F1 ++ A1) ++ (B' ++ (A2 ++ F2)) := by simp only [List.append_assoc]
    have new : ∀ a, a ∈ B' → a ∉ (F1 ++ A1) ∧ a ∉ (A2 ++ F2) := fun a ha => by
      have : a ∉ (F1 ++ A1) ++ (A2 ++ F2) := fun z => by
        rcases (hB a ha).2 with h | h
        · exact (outB a z).2 h
        · exact h.1 (outB a z).1
      exact ⟨fun z => this (List.mem_append_left _ z), fun z => this (List.mem_append_right _ z)⟩
    have hm : ∀ a ∈ F1 ++ ((A1 ++ (B' ++ A2)) ++ F2), (a ∈ F1 ++ ((A1 ++ (B ++ A2)) ++ F2) ∧ a ∉ B) ∨ a ∈ B' := fun a ha => by
      rw [e2] at ha
      rcases List.mem_append.mp ha with h | h
      · exact .inl (outB a (List.mem_append_left _ h))
      · rcases List.mem_append.mp h with h | h
        · exact .inr h
        · exact .inl (outB a (List.mem_append_right _ h))
    have fact : ∀ a ∈ B', c.P a = none ∧ a ∉ c.bs0 := fun a ha => by
      rcases (hB a ha).2 with h | h
      · exact ⟨r.off a (memB a h), r.nb a (memB a h)⟩
      · exact h.2
    refine ⟨_, ⟨env, ?_, fun a ha => ?_, fun a ha => ?_, fun a ha => ?_, fun a ha => c2 a (r.up a ha) fun z => r.nb a (memB a z) ha, r.bb, r.offb, lv, nt, bx, fun a o e => ?_, r.vis.trans vis⟩, hm⟩
    · rw [e2]
      exact nodup_mid nd nB new
    · rcases hm a ha with h | h
      · exact c2 a (r.sub a h.1) h.2
      · exact (hB a h).1
    · rcases hm a ha with h | h
      · exact r.off a h.1
      · exact (fact a h).1
    · rcases hm a ha with h | h
      · exact r.nb a h.1
      · exact (fact a h).2
    · refine kp.get (fun z => ?_) (r.pin a o e)
      rcases List.mem_append.mp z with z | z
      · rw [r.off a (memB a z)] at e; cases e
      · rw [r.offb a z] at e; cases e
/-! ### rows of slots -/
theorem RelE.app {G : List Addr} (k : RelE b bs H τ δ G) : ∀ {σ : L2.St} {ε : Env} {F : List Addr}, RelE b bs H σ ε F → RelE b bs H (σ ++ τ) (ε ++ δ) (F ++ G)
  | _, _, _, .nil => k
  | _, _, _, .no h => .no (RelE.app k h)
  | _, _, _, .box e h => .box e (RelE.app k h)
  | _, _, _, .is r h => by rw [List.append_assoc]; exact .is r (RelE.app k h)
  | _, _, _, .dic e h => by rw [List.append_assoc]; exact .dic e (RelE.app k h)
  | _, _, _, .dcF e h => .dcF e (RelE.app k h)
  | _, _, _, .pin h => .pin (RelE.app k h)
theorem RelE.unapp : ∀ {σ : L2.St} {ε : Env} {F : List Addr}, σ.length = ε.length → RelE b bs H (σ ++ τ) (ε ++ δ) F → ∃ F1 F2, F = F1 ++ F2 ∧ RelE b bs H σ ε F1 ∧ RelE b bs H τ δ F2
  | [], [], F, _, h => ⟨[], F, rfl, .nil, h⟩
  | [], _ :: _, _, e, _ => by cases e
  | _ :: _, [], _, e, _ => by cases e
  | x :: σ, l :: ε, F, e, h0 => by
    have e' : σ.length = ε.length := Nat.succ.inj e
    have h' : RelE b bs H (x :: (σ ++ τ)) (l :: (ε ++ δ)) F := h0
    clear h0
    cases h' with
    | no h => obtain ⟨F1, F2, rfl, p, q⟩ := RelE.unapp e' h; exact ⟨F1, F2, rfl, .no p, q⟩
    | box z h => obtain ⟨F1, F2, rfl, p, q⟩ := RelE.unapp e' h; exact ⟨F1, F2, rfl, .box z p, q⟩
    | is r h => obtain ⟨F1, F2, rfl, p, q⟩ := RelE.unapp e' h; exact ⟨_, F2, (List.append_assoc ..).symm, .is r p, q⟩
    | dic z h => obtain ⟨F1, F2, rfl, p, q⟩ := RelE.unapp e' h; exact ⟨_, F2, (List.append_assoc ..).symm, .dic z p, q⟩
    | dcF z h => obtain ⟨F1, F2, rfl, p, q⟩ := RelE.unapp e' h; exact ⟨F1, F2, rfl, .dcF z p, q⟩
    | pin h => obtain ⟨F1, F2, rfl, p, q⟩ := RelE.unapp e' h; exact ⟨F1, F2, rfl, .pin p, q⟩
/-- fewer slots -/
theorem Rel.sub' {G : List Addr} (r : Rel c bs F σ H ε N) (h : RelE c.b bs H τ δ G) (hG : G.Sublist F) : Rel c bs G τ H δ N := ⟨h, r.nd.sublist hG, fun a ha => r.sub a (hG.subset ha), fun a ha => r.off a (hG.subset ha), fun a ha => r.nb a (hG.subset ha), r.up, r.bb, r.offb, r.live, r.nt, r.box, r.pin, r.vis⟩
theorem Rel.cut (r : Rel c bs F (σ ++ τ) H (ε ++ δ) N) (hl : σ.length = ε.length) : ∃ G, Rel c bs G σ H ε N ∧ G.Sublist F := by
  obtain ⟨F1, F2, rfl, p, q⟩ := RelE.unapp hl r.env
  exact ⟨F1, r.sub' p (List.sublist_append_left ..), List.sublist_append_left ..⟩
/-- one slot more -/
theorem Rel.pend (r : Rel c bs F σ H ε N) (h : Rep bs H v t A) (nd : A.Nodup) (hA : ∀ a ∈ A, a ∈ bs ∧ a ∉ F ∧ c.P a = none ∧ a ∉ c.bs0) : Rel c bs (F ++ A) (σ ++ [some v]) H (ε ++ [.is t]) N := by
  have e : RelE c.b bs H [some v] [.is t] A := by
    have := RelE.is (b := c.b) h RelE.nil
    rw [List.append_nil] at this
    exact this
  refine ⟨RelE.app e r.env, nodup_app r.nd nd fun a ha z => (hA a z).2.1 ha, fun a ha => ?_, fun a ha => ?_, fun a ha => ?_, r.up, r.bb, r.offb, r.live, r.nt, r.box, r.pin, r.vis⟩
  · exact (List.mem_append.mp ha).elim (r.sub a) fun z => (hA a z).1
  · exact (List.mem_append.mp ha).elim (r.off a) fun z => (hA a z).2.2.1
  · exact (List.mem_append.mp ha).elim (r.nb a) fun z => (hA a z).2.2.2
/-- the last slot taken off -/
theorem Rel.unpend (r : Rel c bs F (σ ++ [some v]) H (ε ++ [.is t]) N) (hl : σ.length = ε.length) : ∃ G A, Rel c bs G σ H ε N ∧ Rep bs H v t A ∧ A.Nodup ∧ ∀ a ∈ A, a ∈ bs ∧ a ∉ G ∧ c.P a = none ∧ a ∉ c.bs0 := by
  obtain ⟨F1, F2, rfl, p, q⟩ := RelE.unapp hl r.env
  have q' : RelE c.b bs H (some v :: []) (.is t :: []) F2 := q
  cases q' with
  | is h h2 =>
    rename_i A F3
    cases h2
    rw [List.append_nil] at r
    obtain ⟨n1, n2, n3⟩ := List.nodup_append.mp r.nd
    have m : ∀ a ∈ A, a ∈ F1 ++ A := fun a ha => List.mem_append_right _ ha
    exact ⟨F1, A, r.sub' p (List.sublist_append_left ..), h, n2, fun a ha => ⟨r.sub a (m a ha), fun z => n3 a z a ha rfl, r.off a (m a ha), r.nb a (m a ha)⟩⟩
/-! ### expressions that change what slots own: told, and the slots behind -/
abbrev WX := Env → Nat → (T → Env → Nat → Prop) → Prop
def SimX (te : TE) (wx : WX) : Prop := ∀ {c : Base} {bs F : List Addr} {σ τ : L2.St} {H : Hp} {ε δ : Env} {N : Nat} {R : T → Env → Nat → Prop} {Q : VK}, σ.length = ε.length → Rel c bs F (σ ++ τ) H (ε ++ δ) N → wx ε N R →
  (∀ v t ε' N' bs' F' H', R t ε' N' → ε'.length = ε.length → Rel c bs' F' ((σ ++ τ) ++ [some v]) H' ((ε' ++ δ) ++ [.is t]) N' → Q v H') → te σ H Q
/-- what changes nothing -/
def wXT (wt : WT) : WX := fun ε N R => wt ε N fun t N' => R t ε N'
theorem sim_xt {te : TE} {wt : WT} (h : SimT te wt) : SimX te (wXT wt) := fun {c bs F σ τ H ε δ N R Q} hl r w q => by
  obtain ⟨G, r1, _⟩ := r.cut hl
  refine h r1 w fun v t A N' H' hR o n => ?_
  have r2 := (r.hide o n.new n.rep.own).pend n.rep n.nd fun a ha => nw_fact r (n.new a ha) ha
  exact q v t ε N' _ _ H' hR rfl r2
abbrev WXs := Env → Nat → (List T → Env → Nat → Prop) → Prop
def SimXs (te : TA) (wx : WXs) : Prop := ∀ {c : Base} {bs F : List Addr} {σ τ : L2.St} {H : Hp} {ε δ : Env} {N : Nat} {R : List T → Env → Nat → Prop} {Q : List V → Hp → Prop}, σ.length = ε.length → Rel c bs F (σ ++ τ) H (ε ++ δ) N → wx ε N R →
  (∀ vs ts ε' N' bs' F' H', R ts ε' N' → ε'.length = ε.length → vs.length = ts.length → Rel c bs' F' ((σ ++ τ) ++ vs.map some) H' ((ε' ++ δ) ++ ts.map Sl.is) N' → Q vs H') → te σ H Q
def wXNil : WXs := fun ε N R => R [] ε N
def wXCons (wx : WX) (ws : WXs) : WXs := fun ε N R => wx ε N fun t ε1 N1 => ws ε1 N1 fun ts ε2 N2 => R (t :: ts) ε2 N2
theorem sim_xnil : SimXs tNil wXNil := fun {c bs F σ τ H ε δ N R Q} hl r w q => q [] [] ε N bs F H w rfl rfl (by simpa using r)
theorem sim_xcons {te : TE} {tas : TA} {wx : WX} {ws : WXs} (h : SimX te wx) (k : SimXs tas ws) : SimXs (tCons te tas) (wXCons wx ws) := fun {c bs F σ τ H ε δ N R Q} hl r w q => by
  refine h hl r w fun v t ε1 N1 bs1 F1 H1 w1 l1 r1 => ?_
  have r1' : Rel c bs1 F1 (σ ++ (τ ++ [some v])) H1 (ε1 ++ (δ ++ [.is t])) N1 := by rw [← List.append_assoc, ← List.append_assoc]; exact r1
  refine k (hl.trans l1.symm) r1' w1 fun vs ts ε2 N2 bs2 F2 H2 w2 l2 lv r2 => ?_
  refine q (v :: vs) (t :: ts) ε2 N2 bs2 F2 H2 w2 (l2.trans l1) (by rw [List.length_cons, List.length_cons, lv]) ?_
  have e1 : (σ ++ τ) ++ (v :: vs).map some = (σ ++ (τ ++ [some v])) ++ vs.map some := by simp
  have e2 : (ε2 ++ δ) ++ (t :: ts).map Sl.is = (ε2 ++ (δ ++ [.is t])) ++ ts.map Sl.is := by simp
  rw [e1, e2]
  exact r2
/-! statements of them -/
theorem Rel.start0 (r : Rel c bs F σ H ε N) : Rel c bs F (σ ++ []) H (ε ++ []) N := by rw [List.append_nil, List.append_nil]; exact r
def wAsgX (i : Nat) (wx : WX) : WS := fun D ε N => wx ε N fun t ε' N' => D.nx (ε'.set i (.is t)) N'
theorem sim_asgX {i : Nat} {te : TE} {wx : WX} (h : SimX te wx) : SimS (tAsg te (gName i)) (wAsgX i wx) := fun {c bs F σ H ε N DW D} r w m => by
  refine h r.env.len r.start0 w fun v t ε' N' bs' F' H' hR l r' => ?_
  rw [List.append_nil, List.append_nil] at r'
  obtain ⟨G, A, r2, hr, nd, hA⟩ := r'.unpend (r.env.len.trans l.symm)
  obtain ⟨F2, r3, _⟩ := r2.put (i := i) hr nd hA
  exact m.nx r3 hR
def wDropX (wx : WX) : WS := fun D ε N => wx ε N fun _ ε' N' => D.nx ε' N'
theorem sim_dropX {te : TE} {wx : WX} (h : SimX te wx) : SimS (tDrop te) (wDropX wx) := fun {c bs F σ H ε N DW D} r w m => by
  refine h r.env.len r.start0 w fun v t ε' N' bs' F' H' hR l r' => ?_
  rw [List.append_nil, List.append_nil] at r'
  obtain ⟨G, A, r2, hr, nd, hA⟩ := r'.unpend (r.env.len.trans l.symm)
  exact m.nx r2 hR
/-- return e, told with the slots -/
def wRetX (wx : WX) : WS := fun D ε N => wx ε N fun t ε' N' => D.rx t ε' N'
theorem sim_retX {te : TE} {wx : WX} (h : SimX te wx) : SimS (tRet te) (wRetX wx) := fun {c bs F σ H ε N DW D} r w m => by
  refine h r.env.len r.start0 w fun v t ε' N' bs' F' H' hR l r' => ?_
  rw [List.append_nil, List.append_nil] at r'
  obtain ⟨G, A, r2, hr, nd, hA⟩ := r'.unpend (r.env.len.trans l.symm)
  exact m.rx r2 hr nd hA hR
def wRetNX : WS := fun D ε N => D.rx (.sh .none) ε N
/-- return x, x its own -/
def wRetVX (i : Nat) : WS := fun D ε N => match ε[i]? with
  | some (.is t) => D.rx t (ε.set i .no) N
  | _ => False
theorem sim_retVX {i : Nat} : SimS (tRet (tVar i)) (wRetVX i) := fun {c bs F σ H ε N DW D} r w m => by
  have w' : (match ε[i]? with | some (.is t) => DW.rx t (ε.set i .no) N | _ => False) := w
  split at w'
  · rename_i t e
    obtain ⟨y, A, F1, F2, hx, hr, rfl, q4⟩ := r.env.at e
    cases hr with
    | is hr =>
      rename_i v
      have hA : ∀ a ∈ A, a ∈ F1 ++ (A ++ F2) := fun a ha => List.mem_append_right _ (List.mem_append_left _ ha)
      have env := q4 (cs := bs) (H' := H) (y := some v) (m := .no) (B := []) r.nt (Same.refl _) (fun _ _ _ e => e) .no
      rw [set_same hx] at env
      have sl : (F1 ++ ([] ++ F2)).Sublist (F1 ++ (A ++ F2)) := List.Sublist.append_left (List.Sublist.append_right (List.nil_sublist _) _) _
      obtain ⟨n1, n2, n3⟩ := List.nodup_append.mp r.nd
      obtain ⟨n4, n5, n6⟩ := List.nodup_append.mp n2
      refine ⟨v, hx, m.rx (r.sub' env sl) hr n4 (fun a ha => ⟨r.sub a (hA a ha), fun z => ?_, r.off a (hA a ha), r.nb a (hA a ha)⟩) w'⟩
      rcases List.mem_append.mp z with z | z
      · exact n3 a z a (List.mem_append_left _ ha) rfl
      · exact n6 a ha a z rfl
  · exact w'.elim
/-- a, b = e1, e2 -/
theorem unpends : ∀ {vs : List V} {ts : List T} {F : List Addr}, vs.length = ts.length → Rel c bs F (σ ++ vs.map some) H (ε ++ ts.map Sl.is) N → σ.length = ε.length → ∃ G A, Rel c bs G σ H ε N ∧ RepL bs H vs ts A ∧ A.Nodup ∧ ∀ a ∈ A, a ∈ bs ∧ a ∉ G ∧ c.P a = none ∧ a ∉ c.bs0 := fun {vs ts F} hl r hs => by
  obtain ⟨F1, F2, rfl, p, q⟩ := RelE.unapp hs r.env
  have go : ∀ {vs : List V} {ts : List T} {F : List Addr}, RelE c.b bs H (vs.map some) (ts.map Sl.is) F → RepL bs H vs ts F := fun {vs} => by
    induction vs with
    | nil =>
      intro ts F h
      cases ts with
      | nil => cases h; exact .nil
      | cons t ts => cases h
    | cons v vs ih =>
      intro ts F h
      cases ts with
      | nil => cases h
      | cons t ts => cases h with
        | is r h => exact .cons r (ih h)
  obtain ⟨n1, n2, n3⟩ := List.nodup_append.mp r.nd
  have m : ∀ a ∈ F2, a ∈ F1 ++ F2 := fun a ha => List.mem_append_right _ ha
  exact ⟨F1, F2, r.sub' p (List.sublist_append_left ..), go q, n2, fun a ha => ⟨r.sub a (m a ha), fun z => n3 a z a ha rfl, r.off a (m a ha), r.nb a (m a ha)⟩⟩
def wParX (is : List Nat) (ws : WXs) : WS := fun D ε N => ws ε N fun ts ε' N' => ts.length = is.length ∧ D.nx (setsE is ts ε') N'
end
end Cg

set_option Elab.async false
set_option linter.all false
set_option maxRecDepth 100000
set_option maxHeartbeats 1000000
namespace Cg
open PySem PySem.Spec PyProof.Rows L2 Evl
def T.root : T → Option Addr
  | .ins a _ _ _ => some a
  | .rc a _ _ => some a
  | .lsa a _ => some a
  | _ => none
/-! ### defs whose parameters are changed: their promise -/
abbrev WFX := List T → Nat → (T → List T → Nat → Prop) → Prop
/-- what the changed parameters are behind -/
def outK : List Bool → List T → Env → (List T → Prop) → Prop
  | [], [], _, k => k []
  | false :: md, .sh d :: ts, _ :: ε, k => outK md ts ε fun os => k (.sh d :: os)
  | true :: md, t :: ts, .is t' :: ε, k => t'.root = t.root ∧ t.root ≠ none ∧ outK md ts ε fun os => k (t' :: os)
  | _, _, _, _ => False
def dropB : Bool → Env → (Env → Prop) → Prop
  | false, ε, k => k ε
  | true, _ :: ε, k => k ε
  | true, [], _ => False
def EW.fnX (bx : Bool) (md : List Bool) (ts : List T) (R : T → List T → Nat → Prop) : EW :=
  ⟨fun ε N => dropB bx ε fun ε' => outK md ts ε' fun os => R (.sh .none) os N, fun _ _ => False, fun _ _ => False, fun _ _ => False, fun t ε N => dropB bx ε fun ε' => outK md ts ε' fun os => R t os N⟩
def envX (bx : Bool) (ts : List T) (k : Nat) : Env := (if bx then [Sl.box] else []) ++ (ts.map Sl.is ++ List.replicate k Sl.no)
def wFnX (bx : Bool) (md : List Bool) (k : Nat) (ws : WS) : WFX := fun ts N R => ts.length = md.length ∧ ws (EW.fnX bx md ts R) (envX bx ts k) N
def spX (bx : Bool) (n : Nat) (w : WFX) : Sp := fun vs H Q _ => ∃ (b bs A : List Addr) (us : List V) (ts : List T) (N : Nat) (R : T → List T → Nat → Prop), vs = b.map V.ref ++ us ∧ b.length = (if bx then 1 else 0) ∧ us.length = n ∧ (∀ a ∈ b, a ∈ bs) ∧ Live bs H ∧ NoTup bs H ∧ (∀ a ∈ b, Box H a N) ∧
  RepL bs H us ts A ∧ A.Nodup ∧ (∀ a ∈ A, a ∈ bs ∧ a ∉ b) ∧ w ts N R ∧
  ∀ v t os At Ao cs N' H', R t os N' → Keep (A ++ b) H H' → (∀ a ∈ b, Box H' a N') → Rep cs H' v t At → RepL cs H' us os Ao → (At ++ Ao).Nodup → (∀ a ∈ At ++ Ao, a ∈ cs ∧ (a ∈ A ∨ H a = none)) →
    (∀ a ∈ cs, a ∈ bs ∨ H a = none) → (∀ a ∈ bs, a ∉ A → a ∈ cs) → Live cs H' → NoTup cs H' → Q v H'
theorem spX_len {bx : Bool} {n : Nat} {w : WFX} {vs : List V} {H : Hp} {Q : VK} {E : XK} (h : spX bx n w vs H Q E) : vs.length = (if bx then 1 else 0) + n := by
  obtain ⟨b, bs, A, us, ts, N, R, rfl, hb, hu, _⟩ := h
  rw [List.length_append, List.length_map, hb, hu]
section
variable {c : Base} {b bs cs F A B : List Addr} {σ τ : L2.St} {H H1 H2 H' : Hp} {ε δ : Env} {N N1 N2 N' : Nat} {u v : V} {t s : T} {d : PyData} {ts : TS} {ws : WS}
theorem Rep.root {a : Addr} (h : Rep bs H v t A) (e : t.root = some a) : v = .ref a := by
  cases h with
  | ins _ _ _ _ => cases e; rfl
  | rc _ _ _ => cases e; rfl
  | lsa _ _ => cases e; rfl
  | _ => cases e
theorem RelE.uncons {l : Sl} (h : RelE b bs H σ (l :: ε) F) : ∃ x σ' A G, σ = x :: σ' ∧ F = A ++ G ∧ RepS b bs H x l A ∧ RelE b bs H σ' ε G := by
  cases h with
  | no h => exact ⟨_, _, [], _, rfl, rfl, .no, h⟩
  | box e h => exact ⟨_, _, [], _, rfl, rfl, .box e, h⟩
  | is r h => exact ⟨_, _, _, _, rfl, rfl, .is r, h⟩
  | dic e h => exact ⟨_, _, _, _, rfl, rfl, .dic e, h⟩
  | dcF e h => exact ⟨_, _, [], _, rfl, rfl, .dcF e, h⟩
  | pin h => exact ⟨_, _, [], _, rfl, rfl, .pin, h⟩
theorem outs_rep {bs' : List Addr} (vis : Same (hid bs H) (hid bs' H')) : ∀ {md : List Bool} {ts : List T} {us : List V} {A F : List Addr} {σ : L2.St} {ε : Env} {k : List T → Prop}, RepL bs H us ts A → RelE b bs' H' σ ε F → outK md ts ε k → ∃ os Ao, k os ∧ RepL bs' H' us os Ao ∧ Ao.Sublist F := fun {md} => by
  induction md with
  | nil =>
    intro ts us A F σ ε k hr he ho
    cases ts with
    | nil =>
      cases hr
      exact ⟨[], [], ho, .nil, List.nil_sublist _⟩
    | cons t ts => exact ho.elim
  | cons m md ih =>
    intro ts us A F σ ε k hr he ho
    cases hr with
    | nil => cases m <;> exact ho.elim
    | cons h1 h2 =>
      rename_i v vs t ts A1 A2
      cases ε with
      | nil => cases m <;> cases t <;> exact ho.elim
      | cons l ε =>
        obtain ⟨x, σ', A3, G, rfl, rfl, hl, he'⟩ := he.uncons
        cases m with
        | false =>
          cases t <;> first | exact ho.elim | skip
          rename_i d
          obtain ⟨os, Ao, p1, p2, p3⟩ := ih h2 he' ho
          cases h1 with
          | sh hd => exact ⟨.sh d :: os, Ao, p1, RepL.cons (A := []) (.sh (hd.mono vis)) p2, p3.trans (List.sublist_append_right ..)⟩
        | true =>
          have ho' : ∃ t', l = .is t' ∧ t'.root = t.root ∧ t.root ≠ none ∧ outK md ts ε fun os => k (t' :: os) := by
            cases l with
            | is t' => exact ⟨t', rfl, ho⟩
            | _ => exact ho.elim
          obtain ⟨t', rfl, e1, e2, ho'⟩ := ho'
          cases hl with
          | is hl =>
            rename_i v'
            obtain ⟨os, Ao, p1, p2, p3⟩ := ih h2 he' ho'
            cases er : t.root with
            | none => exact (e2 er).elim
            | some a =>
              have ev : v' = v := (hl.root (e1.trans er)).trans (h1.root er).symm
              subst ev
              exact ⟨t' :: os, A3 ++ Ao, p1, .cons hl p2, List.Sublist.append (List.Sublist.refl _) p3⟩
theorem envX_start {bx : Bool} (hb : b.length = (if bx then 1 else 0)) {us : List V} {ts : List T} (h : RepL bs H us ts A) (k : Nat) : RelE b bs H (((b.map V.ref ++ us).map some) ++ List.replicate k none) (envX bx ts k) A := by
  have tail : ∀ k : Nat, RelE b bs H (List.replicate k none) (List.replicate k Sl.no) [] := fun k => by
    induction k with
    | zero => exact .nil
    | succ k ih => exact .no ih
  have mid : ∀ {us : List V} {ts : List T} {A : List Addr}, RepL bs H us ts A → RelE b bs H (us.map some ++ List.replicate k none) (ts.map Sl.is ++ List.replicate k Sl.no) A := fun {us} => by
    induction us with
    | nil =>
      intro ts A h
      cases h
      exact tail k
    | cons u us ih =>
      intro ts A h
      cases h with
      | cons h1 t1 => exact RelE.is h1 (ih t1)
  unfold envX
  cases bx with
  | false =>
    have e : b = [] := List.length_eq_zero_iff.mp hb
    subst e
    exact mid h
  | true =>
    match b, hb with
    | [a], _ => exact .box rfl (mid h)
/-- a def's body, from its promise -/
theorem run_x {bx : Bool} {md : List Bool} {k : Nat} {Nm : List Str} {vs : List V} {Q : VK} {E : XK} (h : SimS ts ws) (hN : Nm.length = (if bx then 1 else 0) + md.length + k) (sp : spX bx md.length (wFnX bx md k ws) vs H Q E) : ts { nx := fun _ H' => Q .non H', rt := Q } (L2.start Nm vs) H := by
  have hl := spX_len sp
  obtain ⟨b, bs, A, us, tys, N, R, rfl, hb, hu, hsub, lv, nt, bx', hr, nA, hA, ⟨_, hw⟩, q⟩ := sp
  have es : L2.start Nm (b.map V.ref ++ us) = ((b.map V.ref ++ us).map some) ++ List.replicate k none := by
    unfold L2.start
    rw [hl, hN]
    congr 2
    omega
  rw [es]
  let bs0 := bs.filter fun a => !decide (a ∈ A)
  have h0 : ∀ a, a ∈ bs0 ↔ a ∈ bs ∧ a ∉ A := fun a => by
    show a ∈ bs.filter _ ↔ _
    rw [List.mem_filter]
    simp
  let c : Base := ⟨b, bs0, hid (A ++ b) H, hid bs H⟩
  have r : Rel c bs A (((b.map V.ref ++ us).map some) ++ List.replicate k none) H (envX bx tys k) N := ⟨envX_start hb hr k, nA, fun a ha => (hA a ha).1, fun a ha => hid_in (List.mem_append_left _ ha), fun a ha z => ((h0 a).mp z).2 ha, fun a ha => ((h0 a).mp ha).1, fun a ha => (h0 a).mpr ⟨hsub a ha, fun z => (hA a z).2 ha⟩, fun a ha => hid_in (List.mem_append_right _ ha), lv, nt, bx', hid_same, Same.refl _⟩
  have ret : ∀ {bs' F' At : List Addr} {σ' : L2.St} {H' : Hp} {ε' : Env} {M : Nat} {v : V} {t : T}, Rel c bs' F' σ' H' ε' M → Rep bs' H' v t At → At.Nodup → (∀ a ∈ At, a ∈ bs' ∧ a ∉ F' ∧ c.P a = none ∧ a ∉ c.bs0) → (dropB bx ε' fun ε2 => outK md tys ε2 fun os => R t os M) → Q v H' := fun {bs' F' At σ' H' ε' M v t} r2 hv nv hAt ho => by
    have vis : Same (hid bs H) (hid bs' H') := r2.vis
    have hout : ∃ os Ao, R t os M ∧ RepL bs' H' us os Ao ∧ Ao.Sublist F' := by
      cases bx with
      | false => exact outs_rep vis hr r2.env ho
      | true =>
        cases ε' with
        | nil => exact ho.elim
        | cons l ε2 =>
          obtain ⟨x, σ2, A3, G, _, rfl, _, he⟩ := r2.env.uncons
          obtain ⟨os, Ao, p1, p2, p3⟩ := outs_rep vis hr he ho
          exact ⟨os, Ao, p1, p2, p3.trans (List.sublist_append_right ..)⟩
    obtain ⟨os, Ao, p1, p2, p3⟩ := hout
    have kp : Keep (A ++ b) H H' := fun a o e => by
      obtain ⟨h1, h2⟩ := hid_some e
      rw [hid_out h1]
      exact r2.pin a o e
    have fact : ∀ a ∈ At ++ Ao, a ∈ bs' ∧ c.P a = none ∧ a ∉ bs0 := fun a ha => by
      rcases List.mem_append.mp ha with z | z
      · exact ⟨(hAt a z).1, (hAt a z).2.2.1, (hAt a z).2.2.2⟩
      · exact ⟨r2.sub a (p3.subset z), r2.off a (p3.subset z), r2.nb a (p3.subset z)⟩
    have old : ∀ a ∈ At ++ Ao, a ∈ A ∨ H a = none := fun a ha => by
      by_cases hx : a ∈ A
      · exact .inl hx
      · obtain ⟨_, f2, f3⟩ := fact a ha
        have hn : a ∉ A ++ b := fun z => (List.mem_append.mp z).elim hx fun z => f3 ((h0 a).mpr ⟨hsub a z, hx⟩)
        have f2' : hid (A ++ b) H a = none := f2
        rw [hid_out hn] at f2'
        exact .inr f2'
    let cs := bs0 ++ (At ++ Ao)
    have hcs : ∀ a ∈ cs, a ∈ bs' := fun a ha => (List.mem_append.mp ha).elim (fun z => r2.up a z) fun z => (fact a z).1
    refine q v t os At Ao cs M H' p1 kp r2.box (hv.perm r2.nt hcs) (p2.perm r2.nt hcs) (nodup_app nv (r2.nd.sublist p3) fun a ha z => (hAt a ha).2.1 (p3.subset z)) (fun a ha => ⟨List.mem_append_right _ ha, old a ha⟩) (fun a ha => ?_) (fun a ha hx => List.mem_append_left _ ((h0 a).mpr ⟨ha, hx⟩)) (fun a ha => r2.live a (hcs a ha)) (fun a ha => r2.nt a (hcs a ha))
    rcases List.mem_append.mp ha with z | z
    · exact .inl ((h0 a).mp z).1
    · exact (old a z).imp (fun y => (hA a y).1) id
  exact h r hw ⟨fun r2 w2 => ret (At := []) r2 (.sh .non) List.nodup_nil (fun _ z => nomatch z) w2, fun _ w2 => w2.elim, fun _ w2 => w2.elim, fun _ w2 => w2.elim, fun r2 hv nv hA w2 => ret r2 hv nv hA w2⟩
/-! ### a call with one thing that is changed -/
/-- slot i's part at π otherwise -/
def putAt (ε : Env) (i : Nat) (π : List Nat) (s : T) : Env := match ε[i]? with
  | some (.is t) => ε.set i (.is (putP π t s))
  | _ => ε
def atPl (ε : Env) (i : Nat) (π : List Nat) (k : T → Prop) : Prop := match ε[i]? with
  | some (.is t) => match atP π t with
    | some s => k s
    | none => False
  | _ => False
theorem atPl_some {i : Nat} {π : List Nat} {k : T → Prop} (h : atPl ε i π k) : ∃ t s, ε[i]? = some (.is t) ∧ atP π t = some s ∧ k s := by
  unfold atPl at h
  split at h
  · rename_i t e
    split at h
    · rename_i s e2
      exact ⟨t, s, e, e2, h⟩
    · exact h.elim
  · exact h.elim
def boxOf (c : Base) (bx : Bool) : List Addr := if bx then c.b else []
theorem call_core {i : Nat} {π : List Nat} {Q : VK} {R : T → Env → Nat → Prop} {us1 us2 : List V} {ds1 ds2 : List PyData} {bx : Bool} {n : Nat} {f : WFX} (hl : σ.length = ε.length) (r : Rel c bs F (σ ++ τ) H (ε ++ δ) N) (h1 : ε[i]? = some (.is t)) (h2 : σ[i]? = some (some v)) (h3 : atP π t = some s) (h4 : VAt H v π u)
    (d1 : DqAll (hid bs H) us1 ds1) (d2 : DqAll (hid bs H) us2 ds2) (hb : (boxOf c bx).length = if bx then 1 else 0) (hn : ds1.length + 1 + ds2.length = n)
    (w : f (ds1.map T.sh ++ s :: ds2.map T.sh) (if bx then N else 0) fun ret os N' => ∃ s', os[ds1.length]? = some s' ∧ R ret (putAt ε i π s') (if bx then N' else N))
    (q : ∀ v t ε' N' bs' F' H', R t ε' N' → ε'.length = ε.length → Rel c bs' F' ((σ ++ τ) ++ [some v]) H' ((ε' ++ δ) ++ [.is t]) N' → Q v H') : spX bx n f ((boxOf c bx).map V.ref ++ (us1 ++ u :: us2)) H Q E0 := by
  have il : i < ε.length := (List.getElem?_eq_some_iff.mp h1).1
  have g1 : (ε ++ δ)[i]? = some (.is t) := by rw [List.getElem?_append_left il]; exact h1
  have g2 : (σ ++ τ)[i]? = some (some v) := by rw [List.getElem?_append_left (hl ▸ il)]; exact h2
  obtain ⟨B, rB, nB, sB, back⟩ := r.chgP g1 g2 h3 h4
  have bB : ∀ a ∈ boxOf c bx, a ∈ c.b := fun a ha => by
    unfold boxOf at ha
    split at ha
    · exact ha
    · cases ha
  have rep : RepL bs H (us1 ++ u :: us2) (ds1.map T.sh ++ s :: ds2.map T.sh) ([] ++ (B ++ [])) := (RepL.shs d1).append (.cons rB (RepL.shs d2))
  rw [List.nil_append, List.append_nil] at rep
  refine ⟨boxOf c bx, bs, B, us1 ++ u :: us2, _, _, _, rfl, hb, ?_, fun a ha => r.bin a (bB a ha), r.live, r.nt, fun a ha => ?_, rep, nB, fun a ha => ⟨r.sub a (sB a ha), fun z => r.fb a (sB a ha) (bB a z)⟩, w, ?_⟩
  · rw [List.length_append, List.length_cons, d1.len, d2.len]; omega
  · cases bx with
    | true => exact r.box a (bB a ha)
    | false => cases ha
  · intro v' t' os At Ao cs N' H' hR kp bx' rt ro nd hA c1 c2 lv nt
    obtain ⟨s', es, hR⟩ := hR
    obtain ⟨w', A1, B', A2, p1, p2, p3, _⟩ := ro.part es
    have eu : w' = u := by
      rw [← d1.len, List.getElem?_append_right (Nat.le_refl _), Nat.sub_self] at p1
      exact (Option.some.inj p1).symm
    subst eu
    have kp' : Keep (B ++ c.b) H H' := kp.more fun a ha => (List.mem_append.mp ha).elim (List.mem_append_left _) fun z => List.mem_append_right _ (bB a z)
    have bx2 : ∀ a ∈ c.b, Box H' a (if bx then N' else N) := fun a ha => by
      cases bx with
      | true => exact bx' a ha
      | false =>
        obtain ⟨x, y, z, e, rest⟩ := r.box a ha
        exact ⟨x, y, z, kp.get (fun z => (List.mem_append.mp z).elim (fun z => r.fb a (sB a z) ha) fun z => nomatch z) e, rest⟩
    obtain ⟨n1, n2, n3⟩ := List.nodup_append.mp nd
    rw [p3] at n2
    have mB : ∀ a ∈ B', a ∈ Ao := fun a ha => by rw [p3]; exact List.mem_append_right _ (List.mem_append_left _ ha)
    obtain ⟨F', r', hF⟩ := back kp' bx2 c1 c2 lv nt (fun a ha => ⟨(hA a (List.mem_append_right _ (mB a ha))).1, (hA a (List.mem_append_right _ (mB a ha))).2.imp id fun hn => ⟨fun z => r.live a (r.sub a z) hn, pin_none r hn, fun z => r.live a (r.up a z) hn⟩⟩) (List.nodup_append.mp (List.nodup_append.mp n2).2.1).1 p2
    have r2 := r'.pend rt n1 fun a ha => by
      obtain ⟨f1, f2⟩ := hA a (List.mem_append_left _ ha)
      refine ⟨f1, fun z => ?_, ?_, fun z => ?_⟩
      · rcases hF a z with ⟨z1, z2⟩ | z
        · rcases f2 with f2 | f2
          · exact z2 f2
          · exact r.live a (r.sub a z1) f2
        · exact n3 a ha a (mB a z) rfl
      · rcases f2 with f2 | f2
        · exact r.off a (sB a f2)
        · exact pin_none r f2
      · rcases f2 with f2 | f2
        · exact r.nb a (sB a f2) z
        · exact r.live a (r.up a z) f2
    have ep : putAt ε i π s' = ε.set i (.is (putP π t s')) := by unfold putAt; rw [h1]
    rw [ep] at hR
    have e2 : (ε ++ δ).set i (.is (putP π t s')) = ε.set i (.is (putP π t s')) ++ δ := by rw [List.set_append_left _ _ il]
    rw [e2] at r2
    exact q v' t' _ _ cs _ H' hR (by rw [List.length_set]) r2
end
end Cg

set_option Elab.async false
set_option linter.all false
set_option maxRecDepth 100000
set_option maxHeartbeats 1000000
namespace Cg
open PySem PySem.Spec PyProof.Rows L2 Evl
/-! ### fields by their places -/
def fidx : List Str → Str → Option Nat
  | [], _ => none
  | n :: ns, f => if n = f then some 0 else (fidx ns f).map (· + 1)
theorem fidx_lookup {f : Str} : ∀ {ns : List Str} {vs : List V}, ns.length = vs.length → (ns.zip vs).lookup f = match fidx ns f with | some k => vs[k]? | none => none
  | [], [], _ => rfl
  | [], _ :: _, h => by cases h
  | _ :: _, [], h => by cases h
  | n :: ns, v :: vs, h => by
    rw [List.zip_cons_cons]
    by_cases e : n = f
    · subst e
      simp [List.lookup, fidx]
    · have e' : (f == n) = false := beq_eq_false_iff_ne.mpr fun z => e z.symm
      have ih := fidx_lookup (f := f) (ns := ns) (vs := vs) (Nat.succ.inj h)
      simp only [List.lookup, e', fidx, if_neg e]
      rw [ih]
      cases fidx ns f <;> rfl
theorem putF_new {f : Str} {y : V} : ∀ {ns : List Str} {vs : List V}, fidx ns f = none → ns.length = vs.length → putF f y (ns.zip vs) = (ns ++ [f]).zip (vs ++ [y])
  | [], [], _, _ => rfl
  | [], _ :: _, _, h => by cases h
  | _ :: _, [], _, h => by cases h
  | n :: ns, v :: vs, h, hl => by
    rw [List.zip_cons_cons]
    unfold fidx at h
    split at h
    · cases h
    · rename_i e
      cases e2 : fidx ns f with
      | some j => rw [e2] at h; cases h
      | none =>
        show (if n = f then _ else _) = _
        rw [if_neg e, putF_new e2 (Nat.succ.inj hl)]
        rfl
/-! ### records as data -/
theorem str_inj {ns ms : List Str} (h : ns.map PyData.str = ms.map PyData.str) : ns = ms := map_inj (fun {x y} z => by injection z) h
theorem Dq.ins_inv {H : Hp} {v : V} {d : PyData} {C : Addr} {ns : List Str} {ds : List PyData} (h : Dq H v d) (e : d = recD (.int (C : Int)) ns ds) : ∃ a dx vs, v = .ref a ∧ H a = some (.ins C dx (ns.zip vs)) ∧ ns.length = vs.length ∧ DqAll H vs ds := by
  cases h <;> first | (cases e; done) | skip
  · rename_i a kvs e'
    cases kvs with
    | nil => cases e
    | cons p q =>
      injection e with e
      rw [List.map_cons] at e
      injection e with e _
      injection e with e _
      cases e
  · rename_i a C' dx ns' vs ds' e' l h
    injection e with e
    injection e with e1 e2
    injection e1 with _ e1
    injection e1 with e1
    have e1 := Int.ofNat_inj.mp e1
    injection e2 with e2 _
    injection e2 with e2 e3
    injection e2 with e2
    injection e3 with e3
    have e2 := str_inj e2
    subst e1 e2 e3
    exact ⟨a, dx, vs, rfl, e', l, h⟩
/-- the part k of a record -/
def atRec (c : PyData) (ns : List Str) (k : Nat) (d : PyData) (K : PyData → Prop) : Prop := ∃ ds x, d = recD c ns ds ∧ ds[k]? = some x ∧ K x
theorem atRec_is {c : PyData} {ns : List Str} {k : Nat} {ds : List PyData} {K : PyData → Prop} : atRec c ns k (recD c ns ds) K = ∃ x, ds[k]? = some x ∧ K x := propext ⟨fun ⟨ds', x, e, h⟩ => by
  injection e with e
  injection e with _ e
  injection e with e _
  injection e with _ e
  injection e with e
  subst e
  exact ⟨x, h⟩, fun ⟨x, h⟩ => ⟨ds, x, rfl, h⟩⟩
section
variable {K : PySem.W.Frag} {te tp ta : TE} {we : WE} {C : Addr} {ns : List Str} {f : Str} {k : Nat}
def wFd (C : Addr) (ns : List Str) (k : Nat) (we : WE) : WE := fun ε N R => we ε N fun d N1 => atRec (.int (C : Int)) ns k d fun x => R x N1
theorem sim_fd (hf : fidx ns f = some k) (hc : Cls K C) (hn : NoAttr K C f) (h : SimE te we) : SimE (tFld K te f) (wFd C ns k we) := fun r w q => h r w fun v d N1 H1 w1 o1 hd => by
  obtain ⟨ds, x, e, ex, hR⟩ := w1
  obtain ⟨a, dx, vs, rfl, ea, l, ha⟩ := hd.ins_inv e
  obtain ⟨y, ey, dy⟩ := ha.at ex
  exact ⟨a, C, dx, _, y, rfl, (hid_some ea).2, hc, hn, by rw [fidx_lookup l, hf]; exact ey, q y x N1 H1 hR o1 dy⟩
def wKd (ns : List Str) (k : Nat) (we : WE) : WE := fun ε N R => we ε N fun d N1 => atRec .none ns k d fun x => R x N1
/-! ### places -/
abbrev WP := Env → Nat → (List Nat → Nat → Prop) → Prop
def SimP (te : TE) (i : Nat) (wp : WP) : Prop := ∀ {c : Base} {bs F : List Addr} {σ : L2.St} {H : Hp} {ε : Env} {N : Nat} {R : List Nat → Nat → Prop} {Q : VK}, Rel c bs F σ H ε N → wp ε N R →
  (∀ u π N' H' v t s, R π N' → Out c H H' N' → σ[i]? = some (some v) → ε[i]? = some (.is t) → atP π t = some s → VAt H' v π u → Q u H') → te σ H Q
def wPV (i : Nat) : WP := fun ε N R => atIs ε[i]? fun _ => R [] N
theorem sim_pv {i : Nat} : SimP (tVar i) i (wPV i) := fun {c bs F σ H ε N R Q} r w q => by
  obtain ⟨t, e, hR⟩ := atIs_some w
  obtain ⟨x, A, F1, F2, hx, hr, _, _⟩ := r.env.at e
  cases hr with
  | is hr => exact ⟨_, hx, q _ [] N H _ t t hR r.self hx e rfl rfl⟩
/-- the place stands while the box changes -/
theorem place_out {c : Base} {bs F : List Addr} {σ : L2.St} {H H' : Hp} {ε : Env} {N N' : Nat} {i : Nat} {π : List Nat} {v u : V} {t s : T} (r : Rel c bs F σ H ε N) (o : Out c H H' N') (h1 : σ[i]? = some (some v)) (h2 : ε[i]? = some (.is t)) (h3 : atP π t = some s) (h4 : VAt H v π u) : VAt H' v π u := by
  obtain ⟨x, A, F1, F2, hx, hr, rfl, _⟩ := r.env.at h2
  cases hr with
  | is hr =>
    have e := hx.symm.trans h1
    cases e
    exact VAt.chg r.nt (out_keep o r.bin) hr h3 (fun a ha y e => out_get o (r.fb a (List.mem_append_right _ (List.mem_append_left _ ha))) e) h4
/-- what stands at a place -/
theorem place_rep {c : Base} {bs F : List Addr} {σ : L2.St} {H : Hp} {ε : Env} {N : Nat} {i : Nat} {π : List Nat} {v u : V} {t s : T} (r : Rel c bs F σ H ε N) (h1 : σ[i]? = some (some v)) (h2 : ε[i]? = some (.is t)) (h3 : atP π t = some s) (h4 : VAt H v π u) : ∃ B, Rep bs H u s B := by
  obtain ⟨B, h, _⟩ := r.chgP h2 h1 h3 h4
  exact ⟨B, h⟩
def isIns (C : Addr) (ns : List Str) (s : T) (k : List T → Prop) : Prop := ∃ a ts, s = .ins a C ns ts ∧ k ts
theorem isIns_is {C a : Addr} {ns : List Str} {ts : List T} {k : List T → Prop} : isIns C ns (.ins a C ns ts) k = k ts := propext ⟨fun ⟨a', ts', e, h⟩ => by cases e; exact h, fun h => ⟨a, ts, rfl, h⟩⟩
def isRc (ns : List Str) (s : T) (k : List T → Prop) : Prop := ∃ a ts, s = .rc a ns ts ∧ k ts
theorem isRc_is {a : Addr} {ns : List Str} {ts : List T} {k : List T → Prop} : isRc ns (.rc a ns ts) k = k ts := propext ⟨fun ⟨a', ts', e, h⟩ => by cases e; exact h, fun h => ⟨a, ts, rfl, h⟩⟩
def isLst (s : T) (k : List T → Prop) : Prop := ∃ ts, (s = .lst ts ∨ ∃ a, s = .lsa a ts) ∧ k ts
theorem isLst_is {ts : List T} {k : List T → Prop} : isLst (.lst ts) k = k ts := propext ⟨fun ⟨ts', e, h⟩ => by rcases e with e | ⟨_, e⟩ <;> cases e; exact h, fun h => ⟨ts, .inl rfl, h⟩⟩
theorem isLst_a {a : Addr} {ts : List T} {k : List T → Prop} : isLst (.lsa a ts) k = k ts := propext ⟨fun ⟨ts', e, h⟩ => by rcases e with e | ⟨_, e⟩ <;> cases e; exact h, fun h => ⟨ts, .inr ⟨a, rfl⟩, h⟩⟩
/-- such a list stands there -/
theorem Rep.ofL {bs : List Addr} {H : Hp} {v : V} {s : T} {B : List Addr} {ts : List T} (h : Rep bs H v s B) (e : s = .lst ts ∨ ∃ a, s = .lsa a ts) : ∃ a vs A, v = .ref a ∧ B = a :: A ∧ H a = some (.lst vs) ∧ RepL bs H vs ts A ∧ ∀ {cs : List Addr} {H' : Hp} {us : List V} {ws : List T} {A' : List Addr}, H' a = some (.lst us) → RepL cs H' us ws A' → Rep cs H' v (s.rekid ws) (a :: A') := by
  rcases e with rfl | ⟨a0, rfl⟩
  · cases h with
    | lst e h => exact ⟨_, _, _, rfl, rfl, e, h, fun e h => .lst e h⟩
  · cases h with
    | lsa e h => exact ⟨_, _, _, rfl, rfl, e, h, fun e h => .lsa e h⟩
/-- p.f -/
def wPF (i : Nat) (C : Addr) (ns : List Str) (k : Nat) (wp : WP) : WP := fun ε N R => wp ε N fun π N1 => atPl ε i π fun s => isIns C ns s fun ts => k < ts.length ∧ R (π ++ [k]) N1
theorem sim_pf {i : Nat} {wp : WP} (hf : fidx ns f = some k) (hc : Cls K C) (hn : NoAttr K C f) (h : SimP tp i wp) : SimP (tFld K tp f) i (wPF i C ns k wp) := fun {c bs F σ H ε N R Q} r w q => h r w fun u π N1 H1 v t s w1 o1 h1 h2 h3 h4 => by
  obtain ⟨t', s', g1, g2, a, ts, rfl, hk, hR⟩ := atPl_some w1
  rw [h2] at g1
  cases g1
  rw [h3] at g2
  cases g2
  obtain ⟨B, hr⟩ := place_rep (r.out o1) h1 h2 h3 h4
  cases hr with
  | ins e e2 l hl =>
    rename_i dx vs A
    have hkv : k < vs.length := by rw [hl.len]; exact hk
    have ew := List.getElem?_eq_getElem hkv
    refine ⟨a, C, dx, _, vs[k], rfl, e, hc, hn, by rw [fidx_lookup l, hf]; exact ew, ?_⟩
    exact q _ (π ++ [k]) N1 H1 v t ts[k] hR o1 h1 h2 (atP_snoc h3 (List.getElem?_eq_getElem hk)) (h4.snoc ⟨a, rfl, .inr (.inr (.inl ⟨C, dx, ns, e, l⟩))⟩ ew)
/-- p["f"] -/
def wPK (i : Nat) (ns : List Str) (k : Nat) (wp : WP) : WP := fun ε N R => wp ε N fun π N1 => atPl ε i π fun s => isRc ns s fun ts => k < ts.length ∧ R (π ++ [k]) N1
/-- p[e], p a list -/
def wPI (i : Nat) (wp : WP) (wk : WE) : WP := fun ε N R => wp ε N fun π N1 => wk ε N1 fun d N2 => dInt d fun j => atPl ε i π fun s => isLst s fun ts => ∃ n, ixN ts.length j = some n ∧ R (π ++ [n]) N2
theorem sim_pi {i : Nat} {tk : TE} {wp : WP} {wk : WE} (h : SimP tp i wp) (hk : SimE tk wk) : SimP (tOp (rIx K) tp tk) i (wPI i wp wk) := fun {c bs F σ H ε N R Q} r w q => h r w fun u π N1 H1 v t s w1 o1 h1 h2 h3 h4 => hk (r.out o1) w1 fun u2 d N2 H2 w2 o2 hd => by
  have o12 := o1.trans o2
  have h4' := place_out (r.out o1) o2 h1 h2 h3 h4
  cases hd <;> first | exact False.elim w2 | skip
  rename_i j
  obtain ⟨t', s', g1, g2, ts, es, n, hn, hR⟩ := atPl_some w2
  rw [h2] at g1
  cases g1
  rw [h3] at g2
  cases g2
  obtain ⟨B, hr⟩ := place_rep (r.out o12) h1 h2 h3 h4'
  obtain ⟨a, vs, A, rfl, rfl, e, hl, _⟩ := hr.ofL es
  have hlt : n < ts.length := (ixN_seq hn).2.1
  have hkv : n < vs.length := by rw [hl.len]; exact hlt
  have ew := List.getElem?_eq_getElem hkv
  have ek : s.kids = ts := by rcases es with rfl | ⟨_, rfl⟩ <;> rfl
  refine .inl ⟨a, vs, j, vs[n], rfl, rfl, SqL.of e, by unfold L2.atI; rw [hl.len, hn]; exact ew, ?_⟩
  exact q _ (π ++ [n]) N2 H2 v t ts[n] hR o12 h1 h2 (atP_snoc h3 (by rw [ek]; exact List.getElem?_eq_getElem hlt)) (h4'.snoc ⟨a, rfl, .inl e⟩ ew)
end
end Cg

set_option Elab.async false
set_option linter.all false
set_option maxRecDepth 100000
set_option maxHeartbeats 1000000
namespace L2
open PySem PySem.Spec PyProof.Rows
/-- o.m(e, .., k = v, ..) -/
def tMethN (C : Addr) (m : Str) (n kn : Nat) (sp : Sp) (gV : List V → List V → List V) (E : XK) (ta : TE) (t tk : TA) : TE := fun σ H Q => ta σ H fun x H1 => ∃ a dx fs, x = .ref a ∧ H1 a = some (.ins C dx fs) ∧ fs.lookup m = none ∧
  t σ H1 fun vs H2 => tk σ H2 fun zs H3 => vs.length + 1 = n ∧ zs.length = kn ∧ sp (gV (x :: vs) zs) H3 Q E
section
variable {X : Cx} {CX : CXT} {k n : Nat} {f C : Addr} {fd : FuncData} {ps ks : List Str} {sp : Sp} {E : XK} {m : Str} {pos apos : Pos} {e o : Expr} {es : List Expr} {kws : List Keyword} {ta : TE} {t tk : TA} {g : List Value → List Value → List Value} {gV : List V → List V → List V}
theorem pe_methN {pl : Sem Bool} (he : PE X o ta) (c : Cls X.K C) (hm : Meth X.K C m f) (F : FnOk X.prog X.w X.K X.mg X.base CX k f fd ps sp) (hr : Room k X.A) (hb : KBn X.K fd ps n ks g gV) (hx : Passes CX X E) (ha : PA X (e :: es) t) (hkw : PK X kws tk)
    (hall : (backToKw pos (keywordEach kws X.env)).all (·.1.isSome) = true := by rfl) (hks : (backToKw pos (keywordEach kws X.env)).filterMap (·.1) = ks := by rfl)
    (hst : starEach (e :: es) X.env = (false, eval e X.env) :: starEach es X.env := by rfl)
    (hpl : ((backTo pos (starEach (e :: es) X.env)).any (·.1) || (backToKw pos (keywordEach kws X.env)).any (·.1.isNone)) = false := by rfl)
    (ht : eval (.Call (.Attribute o m apos) (e :: es) kws pos) X.env = (do
      let ov ← eval o X.env
      standAt apos.atName
      let (f, first) ← holding [ov] (getMethod ov m pl)
      callWith pos f first (backTo pos (starEach (e :: es) X.env)) (backToKw pos (keywordEach kws X.env))) := by rfl) :
    PE X (.Call (.Attribute o m apos) (e :: es) kws pos) (tMethN C m n ks.length sp gV E ta t tk) := by
  refine ⟨fun pins s σ H Q I h => ?_⟩
  refine PySem.W.methodCall_KW (pl := pl) (thn (he.run pins s σ H _ I h) fun u s1 ⟨x, H1, I1, rx, a, dx, fs, ex, ea, l, q⟩ => ?_) ht
  subst ex
  obtain rfl : u = Value.ref a := rx
  refine getmeth_ok I1 ea c hm l ?_
  refine PySem.W.callWith_KW (first := [.ref a]) (h₀ := X.base) I.ok.mod.kin hm.kp hall (thn (ha.run pos pins s1 σ H1 _ I1 q) fun us s2 ⟨vs, H2, I2, r, q2⟩ => ?_) hpl hst
  refine thn (hkw.run pos pins s2 σ H2 _ I2 q2) fun ws s3 ⟨zs, H3, I3, rz, l1, l2, q3⟩ => ⟨I3.kIn, ?_⟩
  rw [hks]
  exact run_fnN (us := .ref a :: us) (vs := .ref a :: vs) F hr hb hx I3 (.cons rfl r) rz (by rw [List.length_cons]; exact l1) l2 q3
end
end L2
namespace Cg
open PySem PySem.Spec PyProof.Rows L2 Evl
section
variable {K : PySem.W.Frag} {te tp ta : TE} {we : WE} {wt : WT} {C : Addr} {ns : List Str} {f m : Str} {k i : Nat} {tas tks : TA} {was wks : WA} {wp : WP}
/-- o.m(..), o changed -/
def wMeth (C : Addr) (ns : List Str) (f : WFX) (g : List PyData → List PyData → List PyData) (n kn nn i : Nat) (wp : WP) (was wks : WA) : WX := fun ε N R => wp ε N fun π N1 => (atPl ε i π fun s => isIns C ns s fun _ => True) ∧ was ε N1 fun ds N2 => wks ε N2 fun es N3 =>
  (ds.length + 1 = n ∧ es.length = kn ∧ (g ds es).length + 1 = nn) ∧ atPl ε i π fun s => isIns C ns s fun _ => f (s :: (g ds es).map T.sh) 0 fun ret os _ => ∃ s', os[0]? = some s' ∧ R ret (putAt ε i π s') N3
theorem meth_at {c : Base} {bs F : List Addr} {σ : L2.St} {H : Hp} {ε : Env} {N : Nat} {π : List Nat} {v u : V} {t s : T} {q : List T → Prop} (hm : fidx ns m = none) (r : Rel c bs F σ H ε N) (h1 : σ[i]? = some (some v)) (h2 : ε[i]? = some (.is t)) (h3 : atP π t = some s) (h4 : VAt H v π u) (hs : isIns C ns s q) : ∃ a dx fs, u = .ref a ∧ H a = some (.ins C dx fs) ∧ fs.lookup m = none := by
  obtain ⟨a, ts, rfl, _⟩ := hs
  obtain ⟨B, hr⟩ := place_rep r h1 h2 h3 h4
  cases hr with
  | ins e e2 l hl => exact ⟨a, _, _, rfl, e, by rw [fidx_lookup l, hm]⟩
theorem sim_methN {n kn nn : Nat} {w : WFX} {g : List PyData → List PyData → List PyData} {gV gA : List V → List V → List V} (hm : fidx ns m = none) (hg : ∀ x vs zs, gV (x :: vs) zs = x :: gA vs zs) (hgd : ∀ {H us ds zs es}, DqAll H us ds → DqAll H zs es → DqAll H (gA us zs) (g ds es))
    (hp : SimP tp i wp) (ha : SimA tas was) (hk : SimA tks wks) : SimX (tMethN C m n kn (spX false nn w) gV E0 tp tas tks) (wMeth C ns w g n kn nn i wp was wks) := fun {c bs F σ τ H ε δ N R Q} hl r ww q => by
  obtain ⟨G, r0, hG⟩ := r.cut hl
  refine hp r0 ww fun u π N1 H1 v t s w1 o1 h1 h2 h3 h4 => ?_
  obtain ⟨hq, w1⟩ := w1
  obtain ⟨t', s', g1, g2, hs⟩ := atPl_some hq
  rw [h2] at g1
  cases g1
  rw [h3] at g2
  cases g2
  obtain ⟨a, dx, fs, ea, e, lk⟩ := meth_at hm (r0.out o1) h1 h2 h3 h4 hs
  refine ⟨a, dx, fs, ea, e, lk, ha (r0.out o1) w1 fun us ds N2 H2 w2 o2 hd => hk (r0.out (o1.trans o2)) w2 fun zs es N3 H3 w3 o3 he => ⟨by rw [hd.len]; exact w3.1.1, by rw [he.len]; exact w3.1.2.1, ?_⟩⟩
  rw [hg]
  obtain ⟨⟨_, _, hnn⟩, w4⟩ := w3
  obtain ⟨t', s', g1, g2, _, _, _, w4⟩ := atPl_some w4
  rw [h2] at g1
  cases g1
  rw [h3] at g2
  cases g2
  have o := (o1.trans o2).trans o3
  have h4' := place_out (r0.out o1) (o2.trans o3) h1 h2 h3 h4
  exact call_core (bx := false) (us1 := []) (ds1 := []) hl (r.out o) h2 h1 h3 h4' .nil (hgd (out_dqs o3 r0.bin hd) he) rfl (by simp; omega) w4 q
/-- .. without keywords, dvs the defaults -/
theorem sim_meth {n nn : Nat} {w : WFX} {dvs : List V} {dds : List PyData} (hm : fidx ns m = none) (hdv : ∀ H, DqAll H dvs dds) (hp : SimP tp i wp) (ha : SimA tas was) :
    SimX (tMeth C m (spX false nn w) dvs E0 tp tas) (wMeth C ns w (fun ds _ => ds ++ dds) n 0 nn i wp was wNil) := fun {c bs F σ τ H ε δ N R Q} hl r ww q => by
  obtain ⟨G, r0, hG⟩ := r.cut hl
  refine hp r0 ww fun u π N1 H1 v t s w1 o1 h1 h2 h3 h4 => ?_
  obtain ⟨hq, w1⟩ := w1
  obtain ⟨t', s', g1, g2, hs⟩ := atPl_some hq
  rw [h2] at g1
  cases g1
  rw [h3] at g2
  cases g2
  obtain ⟨a, dx, fs, ea, e, lk⟩ := meth_at hm (r0.out o1) h1 h2 h3 h4 hs
  refine ⟨a, dx, fs, ea, e, lk, ha (r0.out o1) w1 fun us ds N2 H2 w2 o2 hd => ?_⟩
  obtain ⟨⟨_, _, hnn⟩, w4⟩ := w2
  obtain ⟨t', s', g1, g2, _, _, _, w4⟩ := atPl_some w4
  rw [h2] at g1
  cases g1
  rw [h3] at g2
  cases g2
  have o := o1.trans o2
  have h4' := place_out (r0.out o1) o2 h1 h2 h3 h4
  exact call_core (bx := false) (us1 := []) (ds1 := []) hl (r.out o) h2 h1 h3 h4' .nil (hd.append (hdv _)) rfl (by simp at hnn ⊢; omega) w4 q
/-- o.m(..), o read alone: what a def by value tells -/
def wMethV (C : Addr) (ns : List Str) (f : WF) (dds : List PyData) (we : WE) (was : WA) : WT := fun ε N R => we ε N fun d N1 => (∃ rs, d = recD (.int (C : Int)) ns rs) ∧ was ε N1 fun ds N2 => f (d :: (ds ++ dds)) 0 fun t _ => R t N2
theorem sim_methV {n : Nat} {w : WF} {dvs : List V} {dds : List PyData} (hm : fidx ns m = none) (hdv : ∀ H, DqAll H dvs dds) (hw : ∀ {ds N R}, w ds N R → ds.length = n) (he : SimE te we) (ha : SimA tas was) : SimT (tMeth C m (spW false n w) dvs E0 te tas) (wMethV C ns w dds we was) := fun {c bs F σ H ε N R Q} r ww q => he r ww fun v d N1 H1 w1 o1 hd => by
  obtain ⟨⟨rs, e⟩, w1⟩ := w1
  obtain ⟨a, dx, vs, rfl, ea, l, _⟩ := hd.ins_inv e
  refine ⟨a, dx, _, rfl, (hid_some ea).2, by rw [fidx_lookup l, hm], ha (r.out o1) w1 fun us ds N2 H2 w2 o2 hds => ?_⟩
  have o := o1.trans o2
  have all : DqAll (hid bs H2) (.ref a :: (us ++ dvs)) (d :: (ds ++ dds)) := .cons (out_dq o2 r.bin hd) (hds.append (hdv _))
  refine ⟨[], bs, .ref a :: (us ++ dvs), d :: (ds ++ dds), 0, fun t _ => R t N2, rfl, rfl, all.len.trans (hw w2), (fun _ z => nomatch z), out_live o r.live, out_notup o r.live r.nt, (fun _ z => nomatch z), all, w2, fun v t A N' H' hR kp _ n => ?_⟩
  have sm : Same H2 H' := fun a o e => kp.get List.not_mem_nil e
  exact q v t A N2 H' hR (o.ext sm) (n.back o)
/-! ### f(.., x, ..), x changed -/
abbrev WAP := Env → Nat → (List PyData → List Nat → List PyData → Nat → Prop) → Prop
def SimAP (ta : TA) (i : Nat) (wa : WAP) : Prop := ∀ {c : Base} {bs F : List Addr} {σ : L2.St} {H : Hp} {ε : Env} {N : Nat} {R : List PyData → List Nat → List PyData → Nat → Prop} {Q : List V → Hp → Prop}, Rel c bs F σ H ε N → wa ε N R →
  (∀ us1 ds1 u π us2 ds2 N' H' v t s, R ds1 π ds2 N' → Out c H H' N' → DqAll (hid bs H') us1 ds1 → σ[i]? = some (some v) → ε[i]? = some (.is t) → atP π t = some s → VAt H' v π u → DqAll (hid bs H') us2 ds2 → Q (us1 ++ u :: us2) H') → ta σ H Q
def wApP (wp : WP) (was : WA) : WAP := fun ε N R => wp ε N fun π N1 => was ε N1 fun ds N2 => R [] π ds N2
theorem sim_apP (hp : SimP tp i wp) (ha : SimA tas was) : SimAP (tCons tp tas) i (wApP wp was) := fun r w q => hp r w fun u π N1 H1 v t s w1 o1 h1 h2 h3 h4 => ha (r.out o1) w1 fun us ds N2 H2 w2 o2 hd =>
  q [] [] u π us ds N2 H2 v t s w2 (o1.trans o2) .nil h1 h2 h3 (place_out (r.out o1) o2 h1 h2 h3 h4) hd
def wApC (we : WE) (wa : WAP) : WAP := fun ε N R => we ε N fun d N1 => wa ε N1 fun ds1 π ds2 N2 => R (d :: ds1) π ds2 N2
theorem sim_apC {wa : WAP} (h : SimE te we) (ha : SimAP tas i wa) : SimAP (tCons te tas) i (wApC we wa) := fun r w q => h r w fun v0 d N1 H1 w1 o1 hd => ha (r.out o1) w1 fun us1 ds1 u π us2 ds2 N2 H2 v t s w2 o2 d1 h1 h2 h3 h4 d2 =>
  q (v0 :: us1) (d :: ds1) u π us2 ds2 N2 H2 v t s w2 (o1.trans o2) (.cons (out_dq o2 r.bin hd) d1) h1 h2 h3 h4 d2
def wCallX (f : WFX) (nn i : Nat) (wa : WAP) : WX := fun ε N R => wa ε N fun ds1 π ds2 N1 => ds1.length + 1 + ds2.length = nn ∧ atPl ε i π fun s => f (ds1.map T.sh ++ s :: ds2.map T.sh) 0 fun ret os _ => ∃ s', os[ds1.length]? = some s' ∧ R ret (putAt ε i π s') N1
def wCallXB (j : Nat) (f : WFX) (nn i : Nat) (wa : WAP) : WX := fun ε N R => isBox ε j = true ∧ wa ε N fun ds1 π ds2 N1 => ds1.length + 1 + ds2.length = nn ∧ atPl ε i π fun s => f (ds1.map T.sh ++ s :: ds2.map T.sh) N1 fun ret os N2 => ∃ s', os[ds1.length]? = some s' ∧ R ret (putAt ε i π s') N2
theorem sim_callXB {nn j : Nat} {f : WFX} {wa : WAP} (h : SimAP tas i wa) : SimX (tCall (spX true nn f) [] E0 (tCons (tVar j) tas)) (wCallXB j f nn i wa) := fun {c bs F σ τ H ε δ N R Q} hl r ww q => by
  obtain ⟨hb, ww⟩ := ww
  obtain ⟨G, r0, hG⟩ := r.cut hl
  obtain ⟨a, eb, hs⟩ := box_slot r0 hb
  refine ⟨.ref a, hs, h r0 ww fun us1 ds1 u π us2 ds2 N1 H1 v t s w1 o d1 h1 h2 h3 h4 d2 => ?_⟩
  obtain ⟨hnn, w4⟩ := w1
  obtain ⟨t', s', g1, g2, w4⟩ := atPl_some w4
  rw [h2] at g1
  cases g1
  rw [h3] at g2
  cases g2
  show spX true nn f ((.ref a :: (us1 ++ u :: us2)) ++ []) H1 Q E0
  rw [List.append_nil]
  have := call_core (bx := true) (Q := Q) (R := R) hl (r.out o) h2 h1 h3 h4 d1 d2 (by show c.b.length = 1; rw [eb]; rfl) hnn w4 q
  have e : (boxOf c true).map V.ref = [.ref a] := by show c.b.map V.ref = _; rw [eb]; rfl
  rw [e] at this
  exact this
end
end Cg

set_option Elab.async false
set_option linter.all false
set_option maxRecDepth 100000
set_option maxHeartbeats 1000000
namespace Cg
open PySem PySem.Spec PyProof.Rows L2 Evl
section
variable {K : PySem.W.Frag} {te tp ta tk : TE} {we wk : WE} {wt : WT} {C : Addr} {ns : List Str} {f m : Str} {k i : Nat} {tas tks : TA} {was wks : WA} {wp : WP}
/-! ### C(..): a new instance -/
theorem none_back {c : Base} {H H1 : Hp} {N : Nat} {a : Addr} (o : Out c H H1 N) (e : H1 a = none) : H a = none := by
  by_cases hb : a ∈ c.b
  · exact absurd e (o.box a hb).is
  · cases e2 : H a with
    | none => rfl
    | some x => rw [out_get o hb e2] at e; cases e
theorem make_core {c : Base} {bs F : List Addr} {σ : L2.St} {H H2 : Hp} {ε : Env} {N N2 nn : Nat} {w : WFX} {us : List V} {ds : List PyData} {R : T → Nat → Prop} {Q : VK} (r : Rel c bs F σ H ε N) (o : Out c H H2 N2) (hd : DqAll (hid bs H2) us ds) (hn : ds.length + 1 = nn)
    (ww : ∀ x, w (.ins x C [] [] :: ds.map T.sh) 0 fun ret os _ => ret = .sh .none ∧ ∃ s', os[0]? = some s' ∧ R s' N2) (q : ∀ v t A N' H', R t N' → Out c H H' N' → Nw bs A H H' v t → Q v H') {x dx : Addr} (hx : H2 x = none) (hdx : H2 dx = none) (ne : dx ≠ x) :
    spX false nn w (.ref x :: us) (upd (upd H2 dx (.own x)) x (.ins C dx [])) (fun v H3 => v = .non ∧ Q (.ref x) H3) E0 := by
  have r2 := r.out o
  generalize hH : upd (upd H2 dx (.own x)) x (.ins C dx []) = H3
  have ex : H3 x = some (.ins C dx []) := by rw [← hH, upd_same]
  have ed : H3 dx = some (.own x) := by rw [← hH, upd_ne ne, upd_same]
  have sm : Same H2 H3 := fun a y e => by rw [← hH, upd_ne (ne_of_none e hx), upd_ne (ne_of_none e hdx)]; exact e
  have nb : ∀ a, a ∈ [x, dx] → a ∉ bs := fun a ha z => by
    rcases List.mem_cons.mp ha with e | ha
    · subst e; exact r2.live a z hx
    · rw [List.mem_singleton.mp ha] at z; exact r2.live dx z hdx
  have none_of : ∀ a, H3 a = none → H2 a = none := fun a e => by
    cases e2 : H2 a with
    | none => rfl
    | some y => rw [sm a y e2] at e; cases e
  have own : ∀ a ∈ [x, dx], Own H3 a := fun a ha => by
    rcases List.mem_cons.mp ha with e | ha
    · subst e; exact own_ins ex
    · rw [List.mem_singleton.mp ha]; exact own_own ed
  have vis : Same (hid bs H2) (hid ([x, dx] ++ bs) H3) := fun a y e => by
    obtain ⟨h1, h2⟩ := hid_some e
    rw [hid_out fun z => (List.mem_append.mp z).elim (fun z => by
      rcases List.mem_cons.mp z with e | z
      · subst e; rw [hx] at h2; cases h2
      · rw [List.mem_singleton.mp z, hdx] at h2; cases h2) h1]
    exact sm a y h2
  have rep : RepL ([x, dx] ++ bs) H3 (.ref x :: us) (.ins x C [] [] :: ds.map T.sh) ([x, dx] ++ []) := .cons (Rep.ins (ns := []) (vs := []) ex ed rfl .nil) (RepL.shs (hd.mono vis))
  rw [List.append_nil] at rep
  refine ⟨[], [x, dx] ++ bs, [x, dx], _, _, 0, _, rfl, rfl, by rw [List.length_cons, hd.len]; exact hn, (fun _ z => nomatch z), own_live own (fun a ha => ?_), own_notup own (fun a ha xs z => ?_), (fun _ z => nomatch z), rep, ?_, fun a ha => ⟨List.mem_append_left _ ha, fun z => nomatch z⟩, ww x, ?_⟩
  · cases e : H2 a with
    | none => exact absurd e (r2.live a ha)
    | some y => rw [sm a y e]; exact fun z => nomatch z
  · cases e : H2 a with
    | none => exact r2.live a ha e
    | some y => rw [sm a y e] at z; exact r2.nt a ha xs (e.trans z)
  · exact List.nodup_cons.mpr ⟨fun z => ne (List.mem_singleton.mp z).symm, List.nodup_cons.mpr ⟨List.not_mem_nil, List.nodup_nil⟩⟩
  · intro v t os At Ao cs N' H' hR kp _ rt ro nd hA c1 c2 lv nt
    obtain ⟨rfl, s', es, hR⟩ := hR
    obtain ⟨w', A1, B', A2, p1, p2, p3, _⟩ := ro.part es
    cases p1
    have hv : v = .non := by
      cases rt with
      | sh hd => cases hd; rfl
    refine ⟨hv, ?_⟩
    have mB : ∀ a ∈ B', a ∈ At ++ Ao := fun a ha => by rw [p3]; exact List.mem_append_right _ (List.mem_append_right _ (List.mem_append_left _ ha))
    have new : ∀ a ∈ B', H a = none := fun a ha => by
      rcases (hA a (mB a ha)).2 with z | z
      · rcases List.mem_cons.mp z with e | z
        · subst e; exact none_back o hx
        · rw [List.mem_singleton.mp z]; exact none_back o hdx
      · exact none_back o (none_of a z)
    have sm2 : Same H2 H' := fun a y e => kp.get (fun z => by
      rw [List.append_nil] at z
      rcases List.mem_cons.mp z with z | z
      · rw [z, hx] at e; cases e
      · rw [List.mem_singleton.mp z, hdx] at e; cases e) (sm a y e)
    have ndB : B'.Nodup := by
      have := (List.nodup_append.mp nd).2.1
      rw [p3] at this
      exact (List.nodup_append.mp (List.nodup_append.mp this).2.1).1
    refine q _ s' B' N2 H' hR (o.ext sm2) ⟨p2.perm nt fun a ha => ?_, ndB, new⟩
    rcases List.mem_append.mp ha with z | z
    · exact (hA a (mB a z)).1
    · exact c2 a (List.mem_append_right _ z) fun y => nb a y z
def wMake (C : Addr) (f : WFX) (g : List PyData → List PyData → List PyData) (n kn nn : Nat) (was wks : WA) : WT := fun ε N R => was ε N fun ds N1 => wks ε N1 fun es N2 => (ds.length = n ∧ es.length = kn ∧ (g ds es).length + 1 = nn) ∧
  ∀ x, f (.ins x C [] [] :: (g ds es).map T.sh) 0 fun ret os _ => ret = .sh .none ∧ ∃ s', os[0]? = some s' ∧ R s' N2
theorem sim_makeK {n kn nn : Nat} {w : WFX} {g : List PyData → List PyData → List PyData} {gV gA : List V → List V → List V} (hg : ∀ x vs zs, gV (x :: vs) zs = x :: gA vs zs) (hgd : ∀ {H us ds zs es}, DqAll H us ds → DqAll H zs es → DqAll H (gA us zs) (g ds es)) (ha : SimA tas was) (hk : SimA tks wks) :
    SimT (tMakeK C n kn (spX false nn w) gV E0 tas tks) (wMake C w g n kn nn was wks) := fun {c bs F σ H ε N R Q} r ww q => ha r ww fun us ds N1 H1 w1 o1 hd => hk (r.out o1) w1 fun zs es N2 H2 w2 o2 he => by
  obtain ⟨⟨l1, l2, l3⟩, w2⟩ := w2
  refine ⟨hd.len.trans l1, he.len.trans l2, fun x dx hx hdx ne => ?_⟩
  rw [hg]
  exact make_core r (o1.trans o2) (hgd (out_dqs o2 r.bin hd) he) l3 w2 q hx hdx ne
/-! ### what stands at a place, changed -/
theorem Rel.updP {c : Base} {bs F : List Addr} {σ : L2.St} {H : Hp} {ε : Env} {N : Nat} {π : List Nat} {v : V} {a : Addr} {t s : T} (r : Rel c bs F σ H ε N) (h1 : σ[i]? = some (some v)) (h2 : ε[i]? = some (.is t)) (h3 : atP π t = some s) (h4 : VAt H v π (.ref a)) :
    ∃ B, Rep bs H (.ref a) s B ∧ B.Nodup ∧ (∀ x ∈ B, x ∈ F) ∧ ∀ {o : HO} {s' : T} {B' : List Addr}, a ∈ B → (∀ xs, o ≠ .tup xs) → Rep bs (upd H a o) (.ref a) s' B' → B'.Nodup → (∀ x ∈ B', x ∈ B ∨ (x ∈ bs ∧ x ∉ F ∧ c.P x = none ∧ x ∉ c.bs0)) → ∃ F', Rel c bs F' σ (upd H a o) (putAt ε i π s') N := by
  obtain ⟨B, rB, nB, sB, back⟩ := r.chgP h2 h1 h3 h4
  refine ⟨B, rB, nB, sB, fun {o s' B'} aB no rp nd hB => ?_⟩
  obtain ⟨F', r', _⟩ := back (cs := bs) (H' := upd H a o) (N' := N) ((Keep.refl _ _).put (List.mem_append_left _ aB)) (fun x hx => (r.box x hx).put fun z => r.fb a (sB a aB) (z ▸ hx)) (fun x hx => .inl hx) (fun x hx _ => hx) (fun x hx => by
    by_cases hxa : x = a
    · subst hxa; rw [upd_same]; exact fun z => nomatch z
    · rw [upd_ne hxa]; exact r.live x hx) (fun x hx xs z => by
    by_cases hxa : x = a
    · subst hxa; rw [upd_same] at z; exact no xs (Option.some.inj z)
    · rw [upd_ne hxa] at z; exact r.nt x hx xs z) (fun x hx => (hB x hx).elim (fun z => ⟨r.sub x (sB x z), .inl z⟩) fun z => ⟨z.1, .inr z.2⟩) nd rp
  refine ⟨F', ?_⟩
  unfold putAt
  rw [h2]
  exact r'
/-- p[k] = e -/
def wSetPl (i : Nat) (wp : WP) (wk : WE) (wt : WT) : WS := fun D ε N => wt ε N fun x N1 => wp ε N1 fun π N2 => wk ε N2 fun d N3 => dInt d fun j => atPl ε i π fun s => isLst s fun ts => ∃ n, ixN ts.length j = some n ∧ D.nx (putAt ε i π (s.rekid (ts.set n x))) N3
theorem sim_setPl (hp : SimP tp i wp) (hk : SimE tk wk) (h : SimT te wt) : SimS (tAsg te (gSub tp tk rSetL)) (wSetPl i wp wk wt) := fun {c bs F σ H ε N DW D} r w m => h r w fun v x A N1 H1 w1 o1 n1 => by
  have r1 := r.hide o1 n1.new n1.rep.own
  refine hp r1 w1 fun u π N2 H2 v0 t s w2 o2 h1 h2 h3 h4 => hk (r1.out o2) w2 fun y d N3 H3 w3 o3 hd => ?_
  have o23 := o2.trans o3
  have r3 := r1.out o23
  have h4' := place_out (r1.out o2) o3 h1 h2 h3 h4
  cases hd <;> first | exact False.elim w3 | skip
  rename_i j
  obtain ⟨t', s', g1, g2, ts, es, n, hn, hD⟩ := atPl_some w3
  rw [h2] at g1
  cases g1
  rw [h3] at g2
  cases g2
  obtain ⟨B0, hr0⟩ := place_rep r3 h1 h2 h3 h4'
  obtain ⟨a, _, _, rfl, _⟩ := hr0.ofL es
  obtain ⟨B, rB, nB, sB, back⟩ := r3.updP h1 h2 h3 h4'
  have nb : ∀ x ∈ A, x ∉ c.b := fun x hx z => r.live x (r.bin x z) (n1.new x hx)
  have rx : Rep (A ++ bs) H3 v x A := Rep.chg r1.nt (out_keep o23 r1.bin) (fun x hx y e => out_get o23 (nb x hx) e) n1.rep
  obtain ⟨a', vs, A0, ea, rfl, e, hl, mk⟩ := rB.ofL es
  cases ea
  · skip
    have hlt : n < ts.length := (ixN_seq hn).2.1
    obtain ⟨v1, A1, Av, A2, p1, p2, rfl, _, p5⟩ := hl.split (List.getElem?_eq_getElem hlt)
    obtain ⟨na, nA0⟩ := List.nodup_cons.mp nB
    have dis : ∀ z ∈ a :: (A1 ++ (Av ++ A2)), z ∉ A := fun z hz y => r.live z (r.sub z (sB z hz)) (n1.new z y)
    have ndA : (A1 ++ (A ++ A2)).Nodup := nodup_mid nA0 n1.nd fun z hz => ⟨fun y => dis z (List.mem_cons_of_mem _ (List.mem_append_left _ y)) hz, fun y => dis z (List.mem_cons_of_mem _ (List.mem_append_right _ (List.mem_append_right _ y))) hz⟩
    have naA : a ∉ A1 ++ (A ++ A2) := fun z => by
      rcases List.mem_append.mp z with z | z
      · exact na (List.mem_append_left _ z)
      · rcases List.mem_append.mp z with z | z
        · exact dis a (List.mem_cons_self ..) z
        · exact na (List.mem_append_right _ (List.mem_append_right _ z))
    have kk : Keep (A ++ bs) H3 (upd H3 a (.lst (vs.set n v))) := (Keep.refl _ _).put (r3.sub a (sB a (List.mem_cons_self ..)))
    have rl : RepL (A ++ bs) (upd H3 a (.lst (vs.set n v))) (vs.set n v) (ts.set n x) (A1 ++ (A ++ A2)) := (p5 rx).chg r3.nt kk fun z hz y e => by rw [upd_ne (fun (q : z = a) => naA (q ▸ hz))]; exact e
    obtain ⟨F', r'⟩ := back (o := .lst (vs.set n v)) (s' := s.rekid (ts.set n x)) (B' := a :: (A1 ++ (A ++ A2))) (List.mem_cons_self ..) (fun _ z => nomatch z) (mk upd_same rl) (List.nodup_cons.mpr ⟨naA, ndA⟩) fun z hz => by
      rcases List.mem_cons.mp hz with q | hz
      · subst q; exact .inl (List.mem_cons_self ..)
      · rcases List.mem_append.mp hz with y | y
        · exact .inl (List.mem_cons_of_mem _ (List.mem_append_left _ y))
        · rcases List.mem_append.mp y with y | y
          · exact .inr (nw_fact r (n1.new z y) y)
          · exact .inl (List.mem_cons_of_mem _ (List.mem_append_right _ (List.mem_append_right _ y)))
    exact ⟨a, vs, j, n, rfl, rfl, e, by rw [hl.len]; exact hn, m.nx r' hD⟩
/-- p.f = e, f stands already (k its place), or is new (ns' the names then) -/
def wFSet (i : Nat) (C : Addr) (ns : List Str) (k : Nat) (wp : WP) (wt : WT) : WS := fun D ε N => wt ε N fun x N1 => wp ε N1 fun π N2 => atPl ε i π fun s => ∃ a ts, s = .ins a C ns ts ∧ D.nx (putAt ε i π (.ins a C ns (ts.set k x))) N2
def wFNew (i : Nat) (C : Addr) (ns ns' : List Str) (wp : WP) (wt : WT) : WS := fun D ε N => wt ε N fun x N1 => wp ε N1 fun π N2 => atPl ε i π fun s => ∃ a ts, s = .ins a C ns ts ∧ D.nx (putAt ε i π (.ins a C ns' (ts ++ [x]))) N2
theorem fset_core {c : Base} {bs F A : List Addr} {σ : L2.St} {H H1 H2 : Hp} {ε : Env} {N N1 N2 : Nat} {π : List Nat} {v v0 u : V} {x t : T} {a : Addr} {ts : List T} {DW : EW} {D : Ends} {ns' : List Str} {ts' : List T} (hc : Cls K C) (hna : NoAttr K C f) (hlen : ns.length < 1000) (r : Rel c bs F σ H ε N) (o1 : Out c H H1 N1) (n1 : Nw bs A H H1 v x) (o2 : Out c H1 H2 N2) (h1 : σ[i]? = some (some v0)) (h2 : ε[i]? = some (.is t)) (h3 : atP π t = some (.ins a C ns ts)) (h4 : VAt H2 v0 π u)
    (hput : ∀ {vs : List V} {A0 : List Addr} {bs' : List Addr} {H' : Hp}, ns.length = vs.length → RepL bs' H' vs ts A0 → Rep bs' H' v x A → ∃ vs' A', putF f v (ns.zip vs) = ns'.zip vs' ∧ ns'.length = vs'.length ∧ RepL bs' H' vs' ts' A' ∧ ∀ B0 : List Addr, (B0 ++ A0).Nodup → (∀ z ∈ B0 ++ A0, z ∉ A) → A.Nodup → (B0 ++ A').Nodup ∧ ∀ z ∈ A', z ∈ A0 ∨ z ∈ A) (q : ∀ {bs' F' H'}, Rel c bs' F' σ H' (putAt ε i π (.ins a C ns' ts')) N2 → D.nx σ H') :
    ∃ a C dx fs, u = .ref a ∧ H2 a = some (.ins C dx fs) ∧ Cls K C ∧ NoAttr K C f ∧ fs.length < 1000 ∧ D.nx σ (upd H2 a (.ins C dx (putF f v fs))) := by
  have r1 := r.hide o1 n1.new n1.rep.own
  have r3 := r1.out o2
  obtain ⟨B0, hr0⟩ := place_rep r3 h1 h2 h3 h4
  have hu : u = .ref a := hr0.root rfl
  subst hu
  obtain ⟨B, rB, nB, sB, back⟩ := r3.updP h1 h2 h3 h4
  have nb : ∀ x ∈ A, x ∉ c.b := fun x hx z => r.live x (r.bin x z) (n1.new x hx)
  have rx : Rep (A ++ bs) H2 v x A := Rep.chg r1.nt (out_keep o2 r1.bin) (fun x hx y e => out_get o2 (nb x hx) e) n1.rep
  cases rB with
  | ins e e2 l hl =>
    rename_i dx vs A0
    refine ⟨a, C, dx, _, rfl, e, hc, hna, by rw [List.length_zip, ← l, Nat.min_self]; exact hlen, ?_⟩
    obtain ⟨vs', A', p1, p2, p3, p4⟩ := hput l hl rx
    rw [p1]
    have dis : ∀ z ∈ [a, dx] ++ A0, z ∉ A := fun z hz y => r.live z (r.sub z (sB z hz)) (n1.new z y)
    obtain ⟨nd, mem⟩ := p4 [a, dx] nB dis n1.nd
    have hna' : a ∉ A' := fun z => (List.nodup_cons.mp nd).1 (List.mem_cons_of_mem _ z)
    have hda : dx ≠ a := fun z => (List.nodup_cons.mp nd).1 (z ▸ List.mem_cons_self ..)
    have kk : Keep (A ++ bs) H2 (upd H2 a (.ins C dx (ns'.zip vs'))) := (Keep.refl _ _).put (r3.sub a (sB a (List.mem_cons_self ..)))
    have rl : RepL (A ++ bs) (upd H2 a (.ins C dx (ns'.zip vs'))) vs' ts' A' := p3.chg r3.nt kk fun z hz y e => by rw [upd_ne (fun (q : z = a) => hna' (q ▸ hz))]; exact e
    obtain ⟨F', r'⟩ := back (o := .ins C dx (ns'.zip vs')) (s' := .ins a C ns' ts') (B' := a :: dx :: A') (List.mem_cons_self ..) (fun _ z => nomatch z) (.ins upd_same (by rw [upd_ne hda]; exact e2) p2 rl) nd fun z hz => by
      rcases List.mem_cons.mp hz with q | hz
      · subst q; exact .inl (List.mem_cons_self ..)
      · rcases List.mem_cons.mp hz with q | hz
        · subst q; exact .inl (List.mem_cons_of_mem _ (List.mem_cons_self ..))
        · rcases mem z hz with y | y
          · exact .inl (List.mem_cons_of_mem _ (List.mem_cons_of_mem _ y))
          · exact .inr (nw_fact r (n1.new z y) y)
    exact q r'
theorem sim_fnew {ns' : List Str} (hf : fidx ns f = none) (hns : ns' = ns ++ [f]) (hc : Cls K C) (hna : NoAttr K C f) (hlen : ns.length < 1000) (hp : SimP tp i wp) (h : SimT te wt) : SimS (sFld K tp te f) (wFNew i C ns ns' wp wt) := fun {c bs F σ H ε N DW D} r w m => h r w fun v x A N1 H1 w1 o1 n1 => hp (r.hide o1 n1.new n1.rep.own) w1 fun u π N2 H2 v0 t s w2 o2 h1 h2 h3 h4 => by
  obtain ⟨t', s', g1, g2, a, ts, rfl, hD⟩ := atPl_some w2
  rw [h2] at g1
  cases g1
  rw [h3] at g2
  cases g2
  subst hns
  refine fset_core (ns' := ns ++ [f]) (ts' := ts ++ [x]) (DW := DW) hc hna hlen r o1 n1 o2 h1 h2 h3 h4 (fun {vs A0 bs' H'} l hl hx => ?_) fun r' => m.nx r' hD
  refine ⟨vs ++ [v], A0 ++ A, putF_new hf l, by rw [List.length_append, List.length_append, l]; rfl, hl.append (RepL.one hx), fun B0 nd dis nA => ⟨?_, fun z hz => List.mem_append.mp hz⟩⟩
  rw [← List.append_assoc]
  exact nodup_app nd nA dis
end
end Cg

set_option Elab.async false
set_option linter.all false
set_option maxRecDepth 100000
set_option maxHeartbeats 1000000
namespace Cg
open PySem PySem.Spec PyProof.Rows L2 Evl
section
variable {te tp : TE} {we wk : WE} {wt : WT} {C : Addr} {ns : List Str} {f m : Str} {k i : Nat} {tas tks : TA} {was wks : WA} {wp : WP} {wx : WX} {ws : WXs}
/-- what is told is shared from now on -/
def wXF (wx : WX) : WX := fun ε N R => wx ε N fun t ε' N' => R (.sh t.data) ε' N'
theorem sim_xf (h : SimX te wx) : SimX te (wXF wx) := fun {c bs F σ τ H ε δ N R Q} hl r w q => h hl r w fun v t ε' N' bs' F' H' hR l r' => by
  have e : ((ε' ++ δ) ++ [Sl.is t])[(ε' ++ δ).length]? = some (.is t) := by rw [List.getElem?_append_right (Nat.le_refl _), Nat.sub_self]; rfl
  obtain ⟨bs2, F2, r2⟩ := r'.freeze e
  have e2 : ((ε' ++ δ) ++ [Sl.is t]).set (ε' ++ δ).length (.is (.sh t.data)) = (ε' ++ δ) ++ [Sl.is (.sh t.data)] := by rw [List.set_append_right _ _ (Nat.le_refl _), Nat.sub_self]; rfl
  rw [e2] at r2
  exact q v _ ε' N' bs2 F2 H' hR l r2
/-! ### {"k": e, ..} -/
/-- a dict of texts, its own -/
def wRc (ns : List Str) (wts : WTs) : WT := fun ε N R => wts ε N fun ts N1 => ∀ a, R (.rc a ns ts) N1
end
/-! ### equations -/
section
variable {we wk : WE} {wt : WT} {C : Addr} {ns ns' : List Str} {k i j n kn nn : Nat} {was wks : WA} {wp : WP} {wx : WX} {ws : WXs} {wts : WTs} {wa : WAP} {ε : Env} {N : Nat} {D : EW} {fx : WFX} {fw : WF} {g : List PyData → List PyData → List PyData} {dds : List PyData}
theorem wFd_eq {R : PyData → Nat → Prop} : wFd C ns k we ε N R = we ε N fun d N1 => atRec (.int (C : Int)) ns k d fun x => R x N1 := propext Iff.rfl
theorem wKd_eq {R : PyData → Nat → Prop} : wKd ns k we ε N R = we ε N fun d N1 => atRec .none ns k d fun x => R x N1 := propext Iff.rfl
theorem wPV_eq {R : List Nat → Nat → Prop} : wPV i ε N R = atIs ε[i]? fun _ => R [] N := propext Iff.rfl
theorem wPF_eq {R : List Nat → Nat → Prop} : wPF i C ns k wp ε N R = wp ε N fun π N1 => atPl ε i π fun s => isIns C ns s fun ts => k < ts.length ∧ R (π ++ [k]) N1 := propext Iff.rfl
theorem wPK_eq {R : List Nat → Nat → Prop} : wPK i ns k wp ε N R = wp ε N fun π N1 => atPl ε i π fun s => isRc ns s fun ts => k < ts.length ∧ R (π ++ [k]) N1 := propext Iff.rfl
theorem wPI_eq {R : List Nat → Nat → Prop} : wPI i wp wk ε N R = wp ε N fun π N1 => wk ε N1 fun d N2 => dInt d fun j => atPl ε i π fun s => isLst s fun ts => ∃ n, ixN ts.length j = some n ∧ R (π ++ [n]) N2 := propext Iff.rfl
/-- the slots, taken apart -/
def atT (o : Option Sl) (π : List Nat) (k : T → Prop) : Prop := match o with
  | some (.is t) => match atP π t with
    | some s => k s
    | none => False
  | _ => False
theorem atPl_eq {π : List Nat} {q : T → Prop} : atPl ε i π q = atT ε[i]? π q := propext Iff.rfl
def atO (o : Option T) (k : T → Prop) : Prop := match o with
  | some s => k s
  | none => False
theorem atT_is {t : T} {π : List Nat} {q : T → Prop} : atT (some (.is t)) π q = atO (atP π t) q := propext Iff.rfl
theorem atO_some {t : T} {q : T → Prop} : atO (some t) q = q t := propext Iff.rfl
theorem atP_nil {t : T} : atP [] t = some t := rfl
def bindP (o : Option T) (π : List Nat) : Option T := match o with
  | some u => atP π u
  | none => none
theorem atP_cons {t : T} {π : List Nat} : atP (k :: π) t = bindP t.kids[k]? π := rfl
theorem bindP_some {t : T} {π : List Nat} : bindP (some t) π = atP π t := rfl
def setT (o : Option Sl) (ε : Env) (i : Nat) (π : List Nat) (s : T) : Env := match o with
  | some (.is t) => ε.set i (.is (putP π t s))
  | _ => ε
theorem putAt_eq {π : List Nat} {s : T} : putAt ε i π s = setT ε[i]? ε i π s := rfl
theorem setT_is {t s : T} {π : List Nat} : setT (some (.is t)) ε i π s = ε.set i (.is (putP π t s)) := rfl
theorem putP_nil {t s : T} : putP [] t s = s := rfl
def putO (o : Option T) (t : T) (k : Nat) (π : List Nat) (s : T) : T := match o with
  | some u => t.rekid (t.kids.set k (putP π u s))
  | none => t
theorem putP_cons {t s : T} {π : List Nat} : putP (k :: π) t s = putO t.kids[k]? t k π s := rfl
theorem putO_some {t u s : T} {π : List Nat} : putO (some u) t k π s = t.rekid (t.kids.set k (putP π u s)) := rfl
theorem kids_lst {ts : List T} : (T.lst ts).kids = ts := rfl
theorem kids_ins {a : Addr} {ts : List T} : (T.ins a C ns ts).kids = ts := rfl
theorem kids_rc {a : Addr} {ts : List T} : (T.rc a ns ts).kids = ts := rfl
theorem rekid_lst {ts us : List T} : (T.lst ts).rekid us = .lst us := rfl
theorem rekid_ins {a : Addr} {ts us : List T} : (T.ins a C ns ts).rekid us = .ins a C ns us := rfl
theorem rekid_rc {a : Addr} {ts us : List T} : (T.rc a ns ts).rekid us = .rc a ns us := rfl
theorem wXT_eq {R : T → Env → Nat → Prop} : wXT wt ε N R = wt ε N fun t N' => R t ε N' := propext Iff.rfl
theorem wXF_eq {R : T → Env → Nat → Prop} : wXF wx ε N R = wx ε N fun t ε' N' => R (.sh t.data) ε' N' := propext Iff.rfl
theorem wXNil_eq {R : List T → Env → Nat → Prop} : wXNil ε N R = R [] ε N := propext Iff.rfl
theorem wXCons_eq {R : List T → Env → Nat → Prop} : wXCons wx ws ε N R = wx ε N fun t ε1 N1 => ws ε1 N1 fun ts ε2 N2 => R (t :: ts) ε2 N2 := propext Iff.rfl
theorem wAsgX_eq : wAsgX i wx D ε N = wx ε N fun t ε' N' => D.nx (ε'.set i (.is t)) N' := propext Iff.rfl
theorem wDropX_eq : wDropX wx D ε N = wx ε N fun _ ε' N' => D.nx ε' N' := propext Iff.rfl
theorem wRetX_eq : wRetX wx D ε N = wx ε N fun t ε' N' => D.rx t ε' N' := propext Iff.rfl
theorem wRetNX_eq : wRetNX D ε N = D.rx (.sh .none) ε N := propext Iff.rfl
theorem wRetVX_eq : wRetVX i D ε N = atIs ε[i]? fun t => D.rx t (ε.set i .no) N := propext Iff.rfl
theorem wParX_eq {is : List Nat} : wParX is ws D ε N = ws ε N fun ts ε' N' => ts.length = is.length ∧ D.nx (setsE is ts ε') N' := propext Iff.rfl
theorem wSetPl_eq : wSetPl i wp wk wt D ε N = wt ε N fun x N1 => wp ε N1 fun π N2 => wk ε N2 fun d N3 => dInt d fun j => atPl ε i π fun s => isLst s fun ts => ∃ n, ixN ts.length j = some n ∧ D.nx (putAt ε i π (s.rekid (ts.set n x))) N3 := propext Iff.rfl
def insK (C : Addr) (ns : List Str) (s : T) (k : Addr → List T → Prop) : Prop := ∃ a ts, s = .ins a C ns ts ∧ k a ts
theorem insK_is {a : Addr} {ts : List T} {q : Addr → List T → Prop} : insK C ns (.ins a C ns ts) q = q a ts := propext ⟨fun ⟨a', ts', e, h⟩ => by cases e; exact h, fun h => ⟨a, ts, rfl, h⟩⟩
theorem wFSet_eq : wFSet i C ns k wp wt D ε N = wt ε N fun x N1 => wp ε N1 fun π N2 => atPl ε i π fun s => insK C ns s fun a ts => D.nx (putAt ε i π (.ins a C ns (ts.set k x))) N2 := propext Iff.rfl
theorem wFNew_eq : wFNew i C ns ns' wp wt D ε N = wt ε N fun x N1 => wp ε N1 fun π N2 => atPl ε i π fun s => insK C ns s fun a ts => D.nx (putAt ε i π (.ins a C ns' (ts ++ [x]))) N2 := propext Iff.rfl
theorem wRc_eq {R : T → Nat → Prop} : wRc ns wts ε N R = wts ε N fun ts N1 => ∀ a, R (.rc a ns ts) N1 := propext Iff.rfl
/-- a def called by values, one of them changed: what is asked of it -/
theorem wMeth_eq {R : T → Env → Nat → Prop} : wMeth C ns fx g n kn nn i wp was wks ε N R = wp ε N fun π N1 => (atPl ε i π fun s => isIns C ns s fun _ => True) ∧ was ε N1 fun ds N2 => wks ε N2 fun es N3 => (ds.length + 1 = n ∧ es.length = kn ∧ (g ds es).length + 1 = nn) ∧ atPl ε i π fun s => isIns C ns s fun _ => fx (s :: (g ds es).map T.sh) 0 fun ret os _ => ∃ s', os[0]? = some s' ∧ R ret (putAt ε i π s') N3 := propext Iff.rfl
theorem wMethV_eq {R : T → Nat → Prop} : wMethV C ns fw dds we was ε N R = we ε N fun d N1 => (∃ rs, d = recD (.int (C : Int)) ns rs) ∧ was ε N1 fun ds N2 => fw (d :: (ds ++ dds)) 0 fun t _ => R t N2 := propext Iff.rfl
theorem wApP_eq {R : List PyData → List Nat → List PyData → Nat → Prop} : wApP wp was ε N R = wp ε N fun π N1 => was ε N1 fun ds N2 => R [] π ds N2 := propext Iff.rfl
theorem wApC_eq {R : List PyData → List Nat → List PyData → Nat → Prop} : wApC we wa ε N R = we ε N fun d N1 => wa ε N1 fun ds1 π ds2 N2 => R (d :: ds1) π ds2 N2 := propext Iff.rfl
theorem wCallX_eq {R : T → Env → Nat → Prop} : wCallX fx nn i wa ε N R = wa ε N fun ds1 π ds2 N1 => ds1.length + 1 + ds2.length = nn ∧ atPl ε i π fun s => fx (ds1.map T.sh ++ s :: ds2.map T.sh) 0 fun ret os _ => ∃ s', os[ds1.length]? = some s' ∧ R ret (putAt ε i π s') N1 := propext Iff.rfl
theorem wCallXB_eq {R : T → Env → Nat → Prop} : wCallXB j fx nn i wa ε N R = (isBox ε j = true ∧ wa ε N fun ds1 π ds2 N1 => ds1.length + 1 + ds2.length = nn ∧ atPl ε i π fun s => fx (ds1.map T.sh ++ s :: ds2.map T.sh) N1 fun ret os N2 => ∃ s', os[ds1.length]? = some s' ∧ R ret (putAt ε i π s') N2) := propext Iff.rfl
theorem wMake_eq {R : T → Nat → Prop} : wMake C fx g n kn nn was wks ε N R = was ε N fun ds N1 => wks ε N1 fun es N2 => (ds.length = n ∧ es.length = kn ∧ (g ds es).length + 1 = nn) ∧ ∀ x, fx (.ins x C [] [] :: (g ds es).map T.sh) 0 fun ret os _ => ret = .sh .none ∧ ∃ s', os[0]? = some s' ∧ R s' N2 := propext Iff.rfl
theorem fnX_nx {bx : Bool} {md : List Bool} {ts : List T} {R : T → List T → Nat → Prop} : (EW.fnX bx md ts R).nx ε N = dropB bx ε fun ε' => outK md ts ε' fun os => R (.sh .none) os N := propext Iff.rfl
theorem fnX_rx {bx : Bool} {md : List Bool} {ts : List T} {t : T} {R : T → List T → Nat → Prop} : (EW.fnX bx md ts R).rx t ε N = dropB bx ε fun ε' => outK md ts ε' fun os => R t os N := propext Iff.rfl
theorem seq_rx {q : Env → Nat → Prop} {t : T} : (D.seq q).rx t ε N = D.rx t ε N := propext Iff.rfl
theorem loop_rx {q : Env → Nat → Prop} {t : T} : (D.loop q).rx t ε N = D.rx t ε N := propext Iff.rfl
theorem dropB_f {q : Env → Prop} : dropB false ε q = q ε := propext Iff.rfl
theorem dropB_t {l : Sl} {q : Env → Prop} : dropB true (l :: ε) q = q ε := propext Iff.rfl
theorem outK_nil {q : List T → Prop} : outK [] [] ε q = q [] := propext Iff.rfl
theorem outK_f {md : List Bool} {d : PyData} {ts : List T} {l : Sl} {q : List T → Prop} : outK (false :: md) (.sh d :: ts) (l :: ε) q = outK md ts ε fun os => q (.sh d :: os) := propext Iff.rfl
theorem outK_ins {md : List Bool} {a C' : Addr} {ms ms' : List Str} {us us' ts : List T} {q : List T → Prop} : outK (true :: md) (.ins a C ms us :: ts) (.is (.ins a C' ms' us') :: ε) q = outK md ts ε fun os => q (.ins a C' ms' us' :: os) := propext ⟨fun h => h.2.2, fun h => ⟨rfl, (fun z => nomatch z), h⟩⟩
theorem outK_rc {md : List Bool} {a : Addr} {ms ms' : List Str} {us us' ts : List T} {q : List T → Prop} : outK (true :: md) (.rc a ms us :: ts) (.is (.rc a ms' us') :: ε) q = outK md ts ε fun os => q (.rc a ms' us' :: os) := propext ⟨fun h => h.2.2, fun h => ⟨rfl, (fun z => nomatch z), h⟩⟩
theorem kids_lsa {a : Addr} {ts : List T} : (T.lsa a ts).kids = ts := rfl
theorem rekid_lsa {a : Addr} {ts us : List T} : (T.lsa a ts).rekid us = .lsa a us := rfl
theorem outK_lsa {md : List Bool} {a : Addr} {us us' ts : List T} {q : List T → Prop} : outK (true :: md) (.lsa a us :: ts) (.is (.lsa a us') :: ε) q = outK md ts ε fun os => q (.lsa a us' :: os) := propext ⟨fun h => h.2.2, fun h => ⟨rfl, (fun z => nomatch z), h⟩⟩
theorem envX_f {ts : List T} : envX false ts k = ts.map Sl.is ++ List.replicate k Sl.no := rfl
theorem envX_t {ts : List T} : envX true ts k = Sl.box :: (ts.map Sl.is ++ List.replicate k Sl.no) := rfl
end
end Cg
namespace Cg
open PySem PySem.Spec PyProof.Rows L2 Evl
/-- a method's def as it stands behind the top, and its promise -/
structure Dm (P : Program) (w : World) (K : PySem.W.Frag) (mg : Str → Option Value) (base : Heap) (k : Nat) (x q : Str) (st : Stmt) (ps : List Str) (f : Addr) (fd : FuncData) (sp : Sp) : Prop where
  F : Fun K x q st f fd
  G : FnOk P w K mg base CX0 k f fd ps sp
end Cg

set_option Elab.async false
set_option linter.all false
namespace Cg
open PySem PySem.Spec PyProof.Rows L2 Evl
/-! ### sorted(set(xs)) of a list of ints -/
section
variable {P : Program} {w : World} {A : Around} {E : Value → Shared → Prop} {s : Shared}
set_option maxRecDepth 100000 in
set_option maxHeartbeats 3200000 in
end
section
variable {X : Cx} {ta te : TE} {we : WE}
def wSortSet (we : WE) : WT := fun ε N R => we ε N fun d N1 => dList d fun ds => ∃ ns, intsOf ds = some ns ∧ ns.length < 64 ∧ ∀ ms : List Int, ms.Pairwise (· < ·) → (∀ k : Int, k ∈ ms ↔ k ∈ ns) → R (.lst ((ms.map PyData.int).map T.sh)) N1
theorem wSortSet_eq {ε : Env} {N : Nat} {R : T → Nat → Prop} : wSortSet we ε N R = we ε N fun d N1 => dList d fun ds => ∃ ns, intsOf ds = some ns ∧ ns.length < 64 ∧ ∀ ms : List Int, ms.Pairwise (· < ·) → (∀ k : Int, k ∈ ms ↔ k ∈ ns) → R (.lst ((ms.map PyData.int).map T.sh)) N1 := propext Iff.rfl
end
end Cg

set_option Elab.async false
set_option linter.all false
set_option maxRecDepth 100000
set_option maxHeartbeats 1000000
namespace Cg
open PySem PySem.Spec PyProof.Rows L2 Evl
/-! ### who is next, what is granted, what is accepted, how pointers pass -/
def hitB (ms : List Int) (p s : Nat) : Bool := ms.getD ((p + s) % ms.length) 0 == 1
def nxO (ms : List Int) (p : Nat) : Option Nat := ((List.range ms.length).find? (hitB ms p)).map fun s => (p + s) % ms.length
def optD : Option Nat → PyData
  | some i => .int (i : Int)
  | none => .none
theorem nx_hit {ms : List Int} {p k : Nat} (hk : k < ms.length) (h : hitB ms p k = true) (h0 : ∀ s, s < k → hitB ms p s = false) : nxO ms p = some ((p + k) % ms.length) := by
  have e : (List.range ms.length).find? (hitB ms p) = some k := by
    rw [List.find?_range_eq_some]
    exact ⟨h, List.mem_range.mpr hk, fun j hj => by rw [h0 j hj]; rfl⟩
  unfold nxO
  rw [e]
  rfl
theorem nx_miss {ms : List Int} {p : Nat} (h0 : ∀ s, s < ms.length → hitB ms p s = false) : nxO ms p = none := by
  have e : (List.range ms.length).find? (hitB ms p) = none := List.find?_eq_none.mpr fun s hs => by rw [h0 s (List.mem_range.mp hs)]; decide
  unfold nxO
  rw [e]
  rfl
theorem nx_some {ms : List Int} {p i : Nat} (h : nxO ms p = some i) : i < ms.length ∧ ms.getD i 0 = 1 := by
  unfold nxO at h
  cases e : (List.range ms.length).find? (hitB ms p) with
  | none => rw [e] at h; cases h
  | some s =>
    rw [e] at h
    have h' : (p + s) % ms.length = i := Option.some.inj h
    have hs := List.find?_some e
    have hm := List.mem_range.mp (List.mem_of_find?_eq_some e)
    unfold hitB at hs
    rw [h'] at hs
    exact ⟨h' ▸ Nat.mod_lt _ (by omega), eq_of_beq hs⟩
theorem nx_none {ms : List Int} {p i : Nat} (hp : p < ms.length) (h : nxO ms p = none) (hi : i < ms.length) : ms.getD i 0 ≠ 1 := fun z => by
  unfold nxO at h
  rw [Option.map_eq_none_iff, List.find?_eq_none] at h
  have hs : (p + (ms.length - p + i) % ms.length) % ms.length = i := by
    rw [Nat.add_mod, Nat.mod_mod, ← Nat.add_mod, show p + (ms.length - p + i) = i + ms.length by omega, Nat.add_mod_right, Nat.mod_eq_of_lt hi]
  refine h ((ms.length - p + i) % ms.length) (List.mem_range.mpr (Nat.mod_lt _ (by omega))) ?_
  unfold hitB
  rw [hs, z]
  rfl
def psN (parts : List Int) (q : Pr) (i : Nat) : Pr :=
  if (((if q.1 = i then q.2 + 1 else 1 : Nat) : Int) < parts.getD i 0) then (i, if q.1 = i then q.2 + 1 else 1) else ((i + 1) % parts.length, 0)
/-- what outlets grant: (outlet, inlet) -/
def grF (L : Mat) (qs : List Pr) (j : Nat) : Option Pr := (nxO (L.map fun r => r.getD j 0) (qs.getD j (0, 0)).1).map fun i => (j, i)
def grN (m : Nat) (L : Mat) (qs : List Pr) : List Pr := (List.range m).filterMap (grF L qs)
/-- what inlets accept: (inlet, outlet) -/
def acF (m : Nat) (G : List Pr) (pl : List Nat) (i : Nat) : Option Pr := (nxO ((List.range m).map fun j => if (j, i) ∈ G then (1 : Int) else 0) (pl.getD i 0)).map fun j => (i, j)
def acN (n m : Nat) (G : List Pr) (pl : List Nat) : List Pr := (List.range n).filterMap (acF m G pl)
/-- pointers and places behind -/
def mvF (m : Nat) (parts : Mat) (s : List Pr × List Nat) (p : Pr) : List Pr × List Nat := (s.1.set p.2 (psN (parts.getD p.2 []) (s.1.getD p.2 (0, 0)) p.1), s.2.set p.1 ((p.2 + 1) % m))
def mvN (m : Nat) (parts : Mat) (A : List Pr) (s : List Pr × List Nat) : List Pr × List Nat := A.foldl (mvF m parts) s
theorem fm_range {β : Type} {f : Nat → Option β} {k : Nat} : (List.range (k + 1)).filterMap f = (List.range k).filterMap f ++ (f k).toList := by
  rw [List.range_succ, List.filterMap_append]
  cases e : f k <;> simp [e]
theorem atI_prs {ps : List Pr} {j : Nat} (h : j < ps.length) : atI (ps.map pD) (j : Int) = some (pD (ps.getD j (0, 0))) := by
  refine atI_nat ?_
  rw [List.getElem?_map, List.getD_eq_getElem?_getD, List.getElem?_eq_getElem h]
  rfl
theorem atI_nats {ns : List Nat} {j : Nat} (h : j < ns.length) : atI (ns.map nD) (j : Int) = some (nD (ns.getD j 0)) := by
  refine atI_nat ?_
  rw [List.getElem?_map, List.getD_eq_getElem?_getD, List.getElem?_eq_getElem h]
  rfl
theorem atI_rows {k : Bool} {M : Mat} {j : Nat} (h : j < M.length) : atI (M.map (rowD k)) (j : Int) = some (rowD k (M.getD j [])) := by
  refine atI_nat ?_
  rw [List.getElem?_map, List.getD_eq_getElem?_getD, List.getElem?_eq_getElem h]
  rfl
/-- what stands in a Grants of n inlets and m outlets -/
structure Gst (n m : Nat) (parts : Mat) (qs : List Pr) (pl : List Nat) : Prop where
  n1 : 1 ≤ n
  n2 : n ≤ 12
  m1 : 1 ≤ m
  m2 : m ≤ 12
  pa : parts.length = m ∧ ∀ r ∈ parts, r.length = n ∧ ∀ x ∈ r, 1 ≤ x ∧ x ≤ 9
  qs : qs.length = m ∧ ∀ q ∈ qs, q.1 < n
  pl : pl.length = n ∧ ∀ x ∈ pl, x < m
theorem Gst.part {n m j : Nat} {parts : Mat} {qs : List Pr} {pl : List Nat} (g : Gst n m parts qs pl) (h : j < m) : (parts.getD j []).length = n ∧ ∀ x ∈ parts.getD j [], 1 ≤ x ∧ x ≤ 9 := by
  have hl := g.pa.1 ▸ h
  rw [List.getD_eq_getElem?_getD, List.getElem?_eq_getElem hl]
  exact g.pa.2 _ (List.getElem_mem hl)
theorem Gst.ptr {n m j : Nat} {parts : Mat} {qs : List Pr} {pl : List Nat} (g : Gst n m parts qs pl) (h : j < m) : (qs.getD j (0, 0)).1 < n := by
  have hl := g.qs.1 ▸ h
  rw [List.getD_eq_getElem?_getD, List.getElem?_eq_getElem hl]
  exact g.qs.2 _ (List.getElem_mem hl)
theorem Gst.plc {n m i : Nat} {parts : Mat} {qs : List Pr} {pl : List Nat} (g : Gst n m parts qs pl) (h : i < n) : pl.getD i 0 < m := by
  have hl := g.pl.1 ▸ h
  rw [List.getD_eq_getElem?_getD, List.getElem?_eq_getElem hl]
  exact g.pl.2 _ (List.getElem_mem hl)
theorem psN_lt {ps : List Int} {q : Pr} {i : Nat} (h : i < ps.length) : (psN ps q i).1 < ps.length := by
  unfold psN
  by_cases hc : (((if q.1 = i then q.2 + 1 else 1 : Nat) : Int) < ps.getD i 0)
  · rw [if_pos hc]; exact h
  · rw [if_neg hc]; exact Nat.mod_lt _ (by omega)
theorem Gst.mv1 {n m : Nat} {parts : Mat} {s : List Pr × List Nat} {p : Pr} (g : Gst n m parts s.1 s.2) (hi : p.1 < n) (hj : p.2 < m) : Gst n m parts (mvF m parts s p).1 (mvF m parts s p).2 := by
  refine ⟨g.n1, g.n2, g.m1, g.m2, g.pa, ⟨by unfold mvF; rw [List.length_set]; exact g.qs.1, fun q hq => ?_⟩, ⟨by unfold mvF; rw [List.length_set]; exact g.pl.1, fun x hx => ?_⟩⟩
  · rcases List.mem_or_eq_of_mem_set hq with z | z
    · exact g.qs.2 q z
    · rw [z]
      have := psN_lt (ps := parts.getD p.2 []) (q := s.1.getD p.2 (0, 0)) (i := p.1) (by rw [(g.part hj).1]; exact hi)
      rw [(g.part hj).1] at this
      exact this
  · rcases List.mem_or_eq_of_mem_set hx with z | z
    · exact g.pl.2 x z
    · rw [z]; exact Nat.mod_lt _ (by have := g.m1; omega)
theorem Gst.mv {n m : Nat} {parts : Mat} : ∀ {A : List Pr} {s : List Pr × List Nat}, Gst n m parts s.1 s.2 → (∀ p ∈ A, p.1 < n ∧ p.2 < m) → Gst n m parts (mvN m parts A s).1 (mvN m parts A s).2
  | [], _, g, _ => g
  | p :: A, s, g, h => Gst.mv (A := A) (g.mv1 (h p (List.mem_cons_self ..)).1 (h p (List.mem_cons_self ..)).2) fun q hq => h q (List.mem_cons_of_mem _ hq)
theorem gr_mem {n m : Nat} {L : Mat} {qs : List Pr} {p : Pr} (hL : L.length = n) (h : p ∈ grN m L qs) : p.1 < m ∧ p.2 < n ∧ cell L p.2 p.1 = 1 := by
  obtain ⟨j, hj, e⟩ := List.mem_filterMap.mp h
  unfold grF at e
  cases z : nxO (L.map fun r => r.getD j 0) (qs.getD j (0, 0)).1 with
  | none => rw [z] at e; cases e
  | some i =>
    rw [z] at e
    have e' : (j, i) = p := Option.some.inj e
    subst e'
    obtain ⟨h1, h2⟩ := nx_some z
    rw [List.length_map] at h1
    refine ⟨List.mem_range.mp hj, hL ▸ h1, ?_⟩
    rw [List.getD_eq_getElem?_getD, List.getElem?_map, List.getElem?_eq_getElem h1] at h2
    unfold cell
    rw [List.getD_eq_getElem?_getD (l := L), List.getElem?_eq_getElem h1]
    exact h2
theorem ac_mem {n m : Nat} {G : List Pr} {pl : List Nat} {p : Pr} (h : p ∈ acN n m G pl) : p.1 < n ∧ p.2 < m ∧ (p.2, p.1) ∈ G := by
  obtain ⟨i, hi, e⟩ := List.mem_filterMap.mp h
  unfold acF at e
  cases z : nxO ((List.range m).map fun j => if (j, i) ∈ G then (1 : Int) else 0) (pl.getD i 0) with
  | none => rw [z] at e; cases e
  | some j =>
    rw [z] at e
    have e' : (i, j) = p := Option.some.inj e
    subst e'
    obtain ⟨h1, h2⟩ := nx_some z
    rw [List.length_map, List.length_range] at h1
    refine ⟨List.mem_range.mp hi, h1, ?_⟩
    rw [List.getD_eq_getElem?_getD, List.getElem?_map, List.getElem?_range h1] at h2
    have h3 : (if (j, i) ∈ G then (1 : Int) else 0) = 1 := h2
    by_cases hg : (j, i) ∈ G
    · exact hg
    · rw [if_neg hg] at h3; omega
end Cg
namespace Cg
open PySem PySem.Spec PyProof.Rows L2 Evl
/-! ### rounds of a beat -/
abbrev Rd2 := List Pr × List Pr
def rdD (x : Rd2) : PyData := .tuple [.list (x.1.map pD), .list (x.2.map pD)]
def nextL (A : List Pr) (L : Mat) : Mat := leftN (A.map (·.1)) (A.map (·.2)) L
/-- so many rounds at most, pointers and places as they are -/
def rdsP (n m : Nat) (qs : List Pr) (pl : List Nat) : Nat → Mat → List Rd2
  | 0, _ => []
  | r + 1, L => if grN m L qs = [] then [] else (grN m L qs, acN n m (grN m L qs) pl) :: rdsP n m qs pl r (nextL (acN n m (grN m L qs) pl) L)
/-- a beat: the first round moves them -/
def behP (n m : Nat) (parts : Mat) (r : Nat) (L : Mat) (qs : List Pr) (pl : List Nat) : List Pr × List Nat :=
  if r = 0 ∨ grN m L qs = [] then (qs, pl) else mvN m parts (acN n m (grN m L qs) pl) (qs, pl)
def beatP (n m : Nat) (parts : Mat) (r : Nat) (L : Mat) (qs : List Pr) (pl : List Nat) : List Rd2 := match r with
  | 0 => []
  | r + 1 => if grN m L qs = [] then [] else (grN m L qs, acN n m (grN m L qs) pl) :: rdsP n m (behP n m parts (r + 1) L qs pl).1 (behP n m parts (r + 1) L qs pl).2 r (nextL (acN n m (grN m L qs) pl) L)
theorem nextL_size {n m : Nat} {A : List Pr} {L : Mat} (h : L.length = n ∧ ∀ x ∈ L, x.length = m) : (nextL A L).length = n ∧ ∀ x ∈ nextL A L, x.length = m := by
  refine ⟨(left_len ..).trans h.1, fun x hx => ?_⟩
  obtain ⟨r, hr, e⟩ := left_row hx
  rw [e]
  exact h.2 r hr
end Cg

set_option Elab.async false
set_option linter.all false
set_option maxRecDepth 100000
set_option maxHeartbeats 1000000
namespace Cg
open PySem PySem.Spec PyProof.Rows L2 Evl
theorem nx_zero {n p : Nat} {f : Nat → Int} (h : ∀ i, i < n → f i ≠ 1) : nxO ((List.range n).map f) p = none := by
  refine nx_miss fun s hs => ?_
  unfold hitB
  rw [List.length_map, List.length_range] at hs ⊢
  have hlt : (p + s) % n < n := Nat.mod_lt _ (by omega)
  rw [List.getD_eq_getElem?_getD, List.getElem?_map, List.getElem?_range hlt]
  exact beq_eq_false_iff_ne.mpr (h _ hlt)
end Cg

set_option Elab.async false
set_option linter.all false
set_option maxRecDepth 100000
set_option maxHeartbeats 1000000
namespace Cg
open PySem PySem.Spec PyProof.Rows L2 Evl
/-! ### sum(rows, []) -/
section
variable {prog : Program} {w : World} {A : Around} {R : Result → Shared → Prop} {E : Value → Shared → Prop} {I : Addr} {fp wr : List Addr} {n : Nat} {P : Nat → Value → Prop} {St : Nat → Heap → Prop}
end
section
variable {X : Cx}
end
end Cg

set_option Elab.async false
set_option linter.all false
set_option maxRecDepth 100000
set_option maxHeartbeats 1000000
namespace Cg
open PySem PySem.Spec PyProof.Rows L2 Evl
theorem fm_fst {f : Nat → Option Pr} {p : Nat → Bool} : ∀ {xs : List Nat}, (∀ x ∈ xs, (f x).map (·.1) = if p x then some x else none) → (xs.filterMap f).map (·.1) = xs.filter p
  | [], _ => rfl
  | x :: xs, h => by
    have h1 := h x (List.mem_cons_self ..)
    have ih := fm_fst (xs := xs) fun y hy => h y (List.mem_cons_of_mem _ hy)
    rw [List.filterMap_cons, List.filter_cons]
    cases hp : p x with
    | true =>
      rw [hp] at h1
      cases hf : f x with
      | none => rw [hf] at h1; cases h1
      | some q =>
        rw [hf] at h1
        have e : q.1 = x := Option.some.inj h1
        simp [ih, e]
    | false =>
      rw [hp] at h1
      cases hf : f x with
      | none => simp [ih]
      | some q => rw [hf] at h1; cases h1
section
variable {n m : Nat} {parts : Mat} {qs : List Pr} {pl : List Nat} {L : Mat}
theorem ac_at (g : Gst n m parts qs pl) {G : List Pr} (hG : ∀ p ∈ G, p.1 < m) {i : Nat} (hi : i < n) : (acF m G pl i).map (·.1) = if (G.map (·.2)).contains i then some i else none := by
  unfold acF
  cases z : nxO ((List.range m).map fun j => if (j, i) ∈ G then (1 : Int) else 0) (pl.getD i 0) with
  | none =>
    rw [if_neg]
    · rfl
    · intro h
      obtain ⟨p, hp, e⟩ := List.mem_map.mp (List.contains_iff_mem.mp h)
      have hj := hG p hp
      refine nx_none (by rw [List.length_map, List.length_range]; exact g.plc hi) z (i := p.1) (by rw [List.length_map, List.length_range]; exact hj) ?_
      rw [List.getD_eq_getElem?_getD, List.getElem?_map, List.getElem?_range hj]
      show (if (p.1, i) ∈ G then (1 : Int) else 0) = 1
      rw [if_pos (by rw [← e]; exact hp)]
  | some j =>
    rw [if_pos]
    · rfl
    · obtain ⟨h1, h2⟩ := nx_some z
      rw [List.length_map, List.length_range] at h1
      rw [List.getD_eq_getElem?_getD, List.getElem?_map, List.getElem?_range h1] at h2
      have h3 : (if (j, i) ∈ G then (1 : Int) else 0) = 1 := h2
      by_cases hg : (j, i) ∈ G
      · exact List.contains_iff_mem.mpr (List.mem_map.mpr ⟨(j, i), hg, rfl⟩)
      · rw [if_neg hg] at h3; omega
theorem ac_fst (g : Gst n m parts qs pl) {G : List Pr} (hG : ∀ p ∈ G, p.1 < m) : (acN n m G pl).map (·.1) = (List.range n).filter fun i => (G.map (·.2)).contains i := fm_fst fun i hi => ac_at g hG (List.mem_range.mp hi)
end
end Cg

set_option Elab.async false
set_option linter.all false
set_option maxRecDepth 100000
set_option maxHeartbeats 1000000
namespace Cg
open PySem PySem.Spec PyProof.Rows L2 Evl
/-! ### expressions that change slots, put together -/
def shT (t : T) (k : PyData → Prop) : Prop := match t with
  | .sh d => k d
  | _ => False
theorem shT_is {d : PyData} {k : PyData → Prop} : shT (.sh d) k = k d := propext Iff.rfl
theorem shT_some {t : T} {k : PyData → Prop} (h : shT t k) : ∃ d, t = .sh d ∧ k d := by
  cases t <;> first | exact ⟨_, rfl, h⟩ | exact h.elim
def allSh : List T → (List PyData → Prop) → Prop
  | [], k => k []
  | t :: ts, k => shT t fun d => allSh ts fun ds => k (d :: ds)
theorem allSh_nil {k : List PyData → Prop} : allSh [] k = k [] := propext Iff.rfl
theorem allSh_cons {t : T} {ts : List T} {k : List PyData → Prop} : allSh (t :: ts) k = shT t fun d => allSh ts fun ds => k (d :: ds) := propext Iff.rfl
theorem allSh_some : ∀ {ts : List T} {k : List PyData → Prop}, allSh ts k → ∃ ds, ts = ds.map T.sh ∧ k ds
  | [], k, h => ⟨[], rfl, h⟩
  | t :: ts, k, h => by
    obtain ⟨d, rfl, h1⟩ := shT_some h
    obtain ⟨ds, rfl, h2⟩ := allSh_some h1
    exact ⟨d :: ds, rfl, h2⟩
section
variable {c : Base} {b bs cs F A B : List Addr} {σ τ : L2.St} {H H1 H2 H' : Hp} {ε δ : Env} {N N1 N2 N' : Nat} {u v : V} {t s : T} {d : PyData}
theorem RepL.unsh : ∀ {vs : List V} {ds : List PyData} {A : List Addr}, RepL bs H vs (ds.map T.sh) A → DqAll (hid bs H) vs ds
  | [], [], _, _ => .nil
  | [], _ :: _, _, h => by cases h
  | _ :: _, [], _, h => by cases h
  | v :: vs, d :: ds, A, h => by
    have h' : RepL bs H (v :: vs) (.sh d :: ds.map T.sh) A := h
    cases h' with
    | cons h1 h2 =>
      cases h1 with
      | sh hd => exact .cons hd (RepL.unsh h2)
/-- data at the end, taken off -/
theorem Rel.offs {vs : List V} {ds : List PyData} (r : Rel c bs F (σ ++ vs.map some) H (ε ++ (ds.map T.sh).map Sl.is) N) (hv : vs.length = (ds.map T.sh).length) (hs : σ.length = ε.length) : ∃ G, Rel c bs G σ H ε N ∧ DqAll (hid bs H) vs ds := by
  obtain ⟨G, A, r2, hr, _, _⟩ := unpends hv r hs
  exact ⟨G, r2, hr.unsh⟩
theorem Rel.offs1 (r : Rel c bs F (σ ++ [some v]) H (ε ++ [.is (.sh d)]) N) (hs : σ.length = ε.length) : ∃ G, Rel c bs G σ H ε N ∧ Dq (hid bs H) v d := by
  obtain ⟨G, A, r2, hr, _, _⟩ := r.unpend hs
  cases hr with
  | sh hd => exact ⟨G, r2, hd⟩
/-- a slot in the midst, taken out -/
theorem Rel.mid {x : Option V} {l : Sl} (r : Rel c bs F ((σ ++ [x]) ++ τ) H ((ε ++ [l]) ++ δ) N) (hs : σ.length = ε.length) : ∃ G, Rel c bs G (σ ++ τ) H (ε ++ δ) N := by
  obtain ⟨F1, F2, rfl, p, q⟩ := RelE.unapp (by rw [List.length_append, List.length_append, hs]; rfl) r.env
  obtain ⟨F3, F4, rfl, p1, _⟩ := RelE.unapp hs p
  refine ⟨F3 ++ F2, r.sub' (RelE.app q p1) ?_⟩
  rw [List.append_assoc]
  exact List.Sublist.append (List.Sublist.refl _) (List.sublist_append_right ..)
end
section
variable {K : PySem.W.Frag} {ta tb te tp : TE} {wa wb wx : WX} {we : WE} {wt : WT} {C : Addr} {ns : List Str} {f m : Str} {k i : Nat} {tas tks : TA} {was wks : WA} {wp : WP} {ws : WXs} {t u : TT} {w w' : WB}
theorem len2 {σ τ : L2.St} {ε δ : Env} {c : Base} {bs F : List Addr} {H : Hp} {N : Nat} {ε' : Env} (r : Rel c bs F (σ ++ τ) H (ε ++ δ) N) (l : ε'.length = ε.length) : (σ ++ τ).length = (ε' ++ δ).length := by
  have := r.env.len
  rw [List.length_append, List.length_append] at this ⊢
  omega
/-- a op b -/
def wXOp (o : O2) (wa wb : WX) : WX := fun ε N R => wa ε N fun t ε1 N1 => wb ε1 N1 fun s ε2 N2 => shT t fun d => shT s fun e => o d e fun f => R (.sh f) ε2 N2
/-- built-ins -/
def wXCb (o : OC) (ws : WXs) : WX := fun ε N R => ws ε N fun ts ε' N' => allSh ts fun ds => o ds fun f => R (.sh f) ε' N'
def wXUn (o : O1) (wx : WX) : WX := fun ε N R => wx ε N fun t ε' N' => shT t fun d => o d fun f => R (.sh f) ε' N'
/-- displays of data -/
def wXLst (ws : WXs) : WX := fun ε N R => ws ε N fun ts ε' N' => allSh ts fun ds => ds.length ≤ 100000 ∧ R (.sh (.list ds)) ε' N'
def wXTup (ws : WXs) : WX := fun ε N R => ws ε N fun ts ε' N' => allSh ts fun ds => ds.length ≤ 100000 ∧ R (.sh (.tuple ds)) ε' N'
/-- calls of defs by value -/
theorem Rel.onN {c : Base} {bs F A : List Addr} {σ : L2.St} {ε : Env} {H H1 : Hp} {N N1 : Nat} {v : V} {t : T} (r : Rel c bs F σ H ε N) (o : Out c H H1 N1) (n : Nw bs A H H1 v t) : Rel c (A ++ bs) (F ++ A) (σ ++ [some v]) H1 (ε ++ [.is t]) N1 :=
  (r.hide o n.new n.rep.own).pend n.rep n.nd fun a ha => nw_fact r (n.new a ha) ha
def wXCall (f : WF) (ws : WXs) : WX := fun ε N R => ws ε N fun ts ε' N' => allSh ts fun ds => f ds 0 fun t _ => R t ε' N'
theorem sim_xcall {n : Nat} {f : WF} (hn : ∀ {ds N R}, f ds N R → ds.length = n) (h : SimXs tas ws) : SimX (tCall (spW false n f) [] E0 tas) (wXCall f ws) := fun {c bs F σ τ H ε δ N R Q} hl r w q => h hl r w fun vs ts ε' N1 bs' F' H1 hR l lv r' => by
  obtain ⟨ds, rfl, w1⟩ := allSh_some hR
  obtain ⟨G, r3, hd⟩ := r'.offs lv (len2 r l)
  show spW false n f (vs ++ []) H1 Q E0
  rw [List.append_nil]
  refine ⟨[], bs', vs, ds, 0, fun t _ => R t ε' N1, rfl, rfl, hd.len.trans (hn w1), (fun _ z => nomatch z), r3.live, r3.nt, (fun _ z => nomatch z), hd, w1, fun v t A N' H' hR kp bx n => ?_⟩
  have sm : Same H1 H' := fun a o e => kp.get List.not_mem_nil e
  exact q v t ε' N1 _ _ H' hR l (r3.onN (r3.ofSame sm) n)
def wXCallB (i : Nat) (f : WF) (ws : WXs) : WX := fun ε N R => isBox ε i = true ∧ ws ε N fun ts ε' N' => allSh ts fun ds => f ds N' fun t N2 => R t ε' N2
/-! methods of what is told just now -/
def wXMeth (C : Addr) (ns : List Str) (f : WFX) (g : List PyData → List PyData → List PyData) (n kn nn : Nat) (wx : WX) (was wks : WA) : WX := fun ε N R => wx ε N fun t ε1 N1 => isIns C ns t fun _ => was ε1 N1 fun ds N2 => wks ε1 N2 fun es N3 =>
  (ds.length + 1 = n ∧ es.length = kn ∧ (g ds es).length + 1 = nn) ∧ f (t :: (g ds es).map T.sh) 0 fun ret os _ => ∃ s', os[0]? = some s' ∧ R ret ε1 N3
/-- .. that reads alone -/
def wXMethV (C : Addr) (ns : List Str) (f : WF) (dds : List PyData) (wx : WX) (was : WA) : WX := fun ε N R => wx ε N fun t ε1 N1 => shT t fun d => (∃ rs, d = recD (.int (C : Int)) ns rs) ∧ was ε1 N1 fun ds N2 => f (d :: (ds ++ dds)) 0 fun t _ => R t ε1 N2
/-! ### tests -/
abbrev WXB := Env → Nat → (Bool → Env → Nat → Prop) → Prop
def SimXB (t : TT) (w : WXB) : Prop := ∀ {c : Base} {bs F : List Addr} {σ τ : L2.St} {H : Hp} {ε δ : Env} {N : Nat} {R : Bool → Env → Nat → Prop} {Q : Bool → Hp → Prop}, σ.length = ε.length → Rel c bs F (σ ++ τ) H (ε ++ δ) N → w ε N R →
  (∀ b ε' N' bs' F' H', R b ε' N' → ε'.length = ε.length → Rel c bs' F' (σ ++ τ) H' (ε' ++ δ) N' → Q b H') → t σ H Q
def wXB (w : WB) : WXB := fun ε N R => w ε N fun b N' => R b ε N'
def wXTest (wx : WX) : WXB := fun ε N R => wx ε N fun t ε' N' => shT t fun d => ∃ b, d = .bool b ∧ R b ε' N'
theorem xtest_core (h : SimX te wx) : SimXB (fun σ H Q => te σ H fun x H1 => ∃ k, x = .bl k ∧ Q k H1) (wXTest wx) := fun {c bs F σ τ H ε δ N R Q} hl r w q => h hl r w fun v t ε' N' bs' F' H' hR l r' => by
  obtain ⟨d, rfl, b, rfl, w2⟩ := shT_some hR
  obtain ⟨G, r3, hd⟩ := r'.offs1 (len2 r l)
  cases hd
  exact ⟨b, rfl, q b ε' N' bs' G H' w2 l r3⟩
theorem sim_xtB (h : SimX te wx) : SimXB (tB te) (wXTest wx) := xtest_core h
def wXTru (wx : WX) : WXB := fun ε N R => wx ε N fun t ε' N' => shT t fun d => ∃ b, truD d = some b ∧ R b ε' N'
def wXNot (w : WXB) : WXB := fun ε N R => w ε N fun b ε' N' => R (!b) ε' N'
theorem sim_xnot {w : WXB} (h : SimXB t w) : SimXB (tNot t) (wXNot w) := fun hl r ww q => h hl r ww fun b ε' N' bs' F' H' hR l r' => q _ ε' N' bs' F' H' hR l r'
def wXAnd (w w' : WXB) : WXB := fun ε N R => w ε N fun b ε1 N1 => bIf b (w' ε1 N1 R) (R false ε1 N1)
def wXOr (w w' : WXB) : WXB := fun ε N R => w ε N fun b ε1 N1 => bIf b (R true ε1 N1) (w' ε1 N1 R)
def wXIfS (w : WXB) (ws wu : WS) : WS := fun D ε N => w ε N fun b ε' N' => bIf b (ws D ε' N') (wu D ε' N')
theorem sim_xifS {w : WXB} {ts us : TS} {ws wu : WS} (h : SimXB t w) (ha : SimS ts ws) (hb : SimS us wu) : SimS (tIfS t ts us) (wXIfS w ws wu) := fun {c bs F σ H ε N DW D} r ww m => h r.env.len r.start0 ww fun b ε1 N1 bs1 F1 H1 w1 l1 r1 => by
  rw [List.append_nil, List.append_nil] at r1
  cases b with
  | true => exact iteT (ha r1 w1 m)
  | false => exact iteF (hb r1 w1 m)
/-- .. as values -/
def wXAndV (wa wb : WX) : WX := fun ε N R => wa ε N fun t ε1 N1 => shT t fun d => ∃ b, d = .bool b ∧ bIf b (wb ε1 N1 R) (R (.sh (.bool false)) ε1 N1)
def wXOrV (wa wb : WX) : WX := fun ε N R => wa ε N fun t ε1 N1 => shT t fun d => ∃ b, d = .bool b ∧ bIf b (R (.sh (.bool true)) ε1 N1) (wb ε1 N1 R)
def wXNotV (wa : WX) : WX := fun ε N R => wa ε N fun t ε1 N1 => shT t fun d => ∃ b, d = .bool b ∧ R (.sh (.bool !b)) ε1 N1
def wXIf (w : WXB) (wa wb : WX) : WX := fun ε N R => w ε N fun b ε1 N1 => bIf b (wa ε1 N1 R) (wb ε1 N1 R)
/-! ### statements -/
/-- return e in a def that changes nothing of others -/
def wRetXV (wx : WX) : WS := fun D ε N => wx ε N fun t _ N' => D.rt t N'
/-- x, y = e, data -/
def wAsgXG (wx : WX) (wg : WG) : WS := fun D ε N => wx ε N fun t ε' N' => shT t fun d => wg d ε' fun ε2 => D.nx ε2 N'
/-- for .. in e, e a list or a tuple -/
def wForX (wx : WX) (wg : WG) (wb : WS) : WS := fun D ε N => wx ε N fun t ε1 N1 => shT t fun d => wFor (wIt (wC d)) wg wb D ε1 N1
end
/-! ### equations -/
section
variable {wa wb wx : WX} {we : WE} {wt : WT} {C : Addr} {ns : List Str} {k i n kn nn : Nat} {was wks : WA} {ws : WXs} {w : WB} {wxb wyb : WXB} {ε : Env} {N : Nat} {D : EW} {fx : WFX} {fw : WF} {g : List PyData → List PyData → List PyData} {dds : List PyData} {wg : WG} {wu wv : WS}
theorem wXOp_eq {o : O2} {R : T → Env → Nat → Prop} : wXOp o wa wb ε N R = wa ε N fun t ε1 N1 => wb ε1 N1 fun s ε2 N2 => shT t fun d => shT s fun e => o d e fun f => R (.sh f) ε2 N2 := propext Iff.rfl
theorem wXCb_eq {o : OC} {R : T → Env → Nat → Prop} : wXCb o ws ε N R = ws ε N fun ts ε' N' => allSh ts fun ds => o ds fun f => R (.sh f) ε' N' := propext Iff.rfl
theorem wXUn_eq {o : O1} {R : T → Env → Nat → Prop} : wXUn o wx ε N R = wx ε N fun t ε' N' => shT t fun d => o d fun f => R (.sh f) ε' N' := propext Iff.rfl
theorem wXLst_eq {R : T → Env → Nat → Prop} : wXLst ws ε N R = ws ε N fun ts ε' N' => allSh ts fun ds => ds.length ≤ 100000 ∧ R (.sh (.list ds)) ε' N' := propext Iff.rfl
theorem wXTup_eq {R : T → Env → Nat → Prop} : wXTup ws ε N R = ws ε N fun ts ε' N' => allSh ts fun ds => ds.length ≤ 100000 ∧ R (.sh (.tuple ds)) ε' N' := propext Iff.rfl
theorem wXCall_eq {R : T → Env → Nat → Prop} : wXCall fw ws ε N R = ws ε N fun ts ε' N' => allSh ts fun ds => fw ds 0 fun t _ => R t ε' N' := propext Iff.rfl
theorem wXCallB_eq {R : T → Env → Nat → Prop} : wXCallB i fw ws ε N R = (isBox ε i = true ∧ ws ε N fun ts ε' N' => allSh ts fun ds => fw ds N' fun t N2 => R t ε' N2) := propext Iff.rfl
theorem wXMeth_eq {R : T → Env → Nat → Prop} : wXMeth C ns fx g n kn nn wx was wks ε N R = wx ε N fun t ε1 N1 => isIns C ns t fun _ => was ε1 N1 fun ds N2 => wks ε1 N2 fun es N3 => (ds.length + 1 = n ∧ es.length = kn ∧ (g ds es).length + 1 = nn) ∧ fx (t :: (g ds es).map T.sh) 0 fun ret os _ => ∃ s', os[0]? = some s' ∧ R ret ε1 N3 := propext Iff.rfl
theorem wXMethV_eq {R : T → Env → Nat → Prop} : wXMethV C ns fw dds wx was ε N R = wx ε N fun t ε1 N1 => shT t fun d => (∃ rs, d = recD (.int (C : Int)) ns rs) ∧ was ε1 N1 fun ds N2 => fw (d :: (ds ++ dds)) 0 fun t _ => R t ε1 N2 := propext Iff.rfl
theorem wXB_eq {R : Bool → Env → Nat → Prop} : wXB w ε N R = w ε N fun b N' => R b ε N' := propext Iff.rfl
theorem dBool_ex {d : PyData} {q : Bool → Prop} : (∃ b, d = .bool b ∧ q b) = dBool d q := propext ⟨fun ⟨b, e, h⟩ => by rw [e]; exact h, fun h => by
  unfold dBool at h
  split at h
  · exact ⟨_, rfl, h⟩
  · exact h.elim⟩
theorem wXTest_eq {R : Bool → Env → Nat → Prop} : wXTest wx ε N R = wx ε N fun t ε' N' => shT t fun d => dBool d fun b => R b ε' N' := by
  unfold wXTest
  simp only [dBool_ex]
theorem dTru_ex {d : PyData} {q : Bool → Prop} : (∃ b, truD d = some b ∧ q b) = dTru d q := propext ⟨fun ⟨b, e, h⟩ => by unfold dTru; rw [e]; exact h, fun h => by
  unfold dTru at h
  split at h
  · rename_i b e; exact ⟨b, e, h⟩
  · exact h.elim⟩
theorem wXTru_eq {R : Bool → Env → Nat → Prop} : wXTru wx ε N R = wx ε N fun t ε' N' => shT t fun d => dTru d fun b => R b ε' N' := by
  unfold wXTru
  simp only [dTru_ex]
theorem wXNot_eq {R : Bool → Env → Nat → Prop} : wXNot wxb ε N R = wxb ε N fun b ε' N' => R (!b) ε' N' := propext Iff.rfl
theorem wXAnd_eq {R : Bool → Env → Nat → Prop} : wXAnd wxb wyb ε N R = wxb ε N fun b ε1 N1 => bIf b (wyb ε1 N1 R) (R false ε1 N1) := propext Iff.rfl
theorem wXOr_eq {R : Bool → Env → Nat → Prop} : wXOr wxb wyb ε N R = wxb ε N fun b ε1 N1 => bIf b (R true ε1 N1) (wyb ε1 N1 R) := propext Iff.rfl
theorem wXIfS_eq : wXIfS wxb wu wv D ε N = wxb ε N fun b ε' N' => bIf b (wu D ε' N') (wv D ε' N') := propext Iff.rfl
theorem wXAndV_eq {R : T → Env → Nat → Prop} : wXAndV wa wb ε N R = wa ε N fun t ε1 N1 => shT t fun d => dBool d fun b => bIf b (wb ε1 N1 R) (R (.sh (.bool false)) ε1 N1) := by
  unfold wXAndV
  simp only [dBool_ex]
theorem wXOrV_eq {R : T → Env → Nat → Prop} : wXOrV wa wb ε N R = wa ε N fun t ε1 N1 => shT t fun d => dBool d fun b => bIf b (R (.sh (.bool true)) ε1 N1) (wb ε1 N1 R) := by
  unfold wXOrV
  simp only [dBool_ex]
theorem wXNotV_eq {R : T → Env → Nat → Prop} : wXNotV wa ε N R = wa ε N fun t ε1 N1 => shT t fun d => dBool d fun b => R (.sh (.bool !b)) ε1 N1 := by
  unfold wXNotV
  simp only [dBool_ex]
theorem wXIf_eq {R : T → Env → Nat → Prop} : wXIf wxb wa wb ε N R = wxb ε N fun b ε1 N1 => bIf b (wa ε1 N1 R) (wb ε1 N1 R) := propext Iff.rfl
theorem wRetXV_eq : wRetXV wx D ε N = wx ε N fun t _ N' => D.rt t N' := propext Iff.rfl
theorem wAsgXG_eq : wAsgXG wx wg D ε N = wx ε N fun t ε' N' => shT t fun d => wg d ε' fun ε2 => D.nx ε2 N' := propext Iff.rfl
theorem wForX_eq : wForX wx wg wu D ε N = wx ε N fun t ε1 N1 => shT t fun d => wFor (wIt (wC d)) wg wu D ε1 N1 := propext Iff.rfl
end
end Cg

set_option Elab.async false
set_option linter.all false
set_option maxRecDepth 100000
set_option maxHeartbeats 1000000
namespace Cg
open PySem PySem.Spec PyProof.Rows L2 Evl
/-! ### a law that walks over boxes, and ends somehow: what stands behind the box, by value -/
end Cg

set_option Elab.async false
set_option linter.all false
set_option maxRecDepth 100000
set_option maxHeartbeats 1000000
namespace Cg
open PySem PySem.Spec PyProof.Rows L2 Evl
/-! ### accepts of rounds -/
def accP (rs : List Rd2) : List Pr := rs.flatMap (·.2)
theorem accP_cons {x : Rd2} {rs : List Rd2} : accP (x :: rs) = x.2 ++ accP rs := rfl
theorem cell_left {I O : List Nat} {M : Mat} {i j : Nat} : cell (leftN I O M) i j = 1 ↔ cell M i j = 1 ∧ cutB I O i j = false := by
  have := mem_asks (M := leftN I O M) (p := (i, j))
  rw [← this, asks_left_eq, List.mem_filter, mem_asks]
  simp
theorem cut_f {I O : List Nat} {i j : Nat} : cutB I O i j = false ↔ i ∉ I ∧ j ∉ O := by
  unfold cutB
  simp
theorem fm_congr {α β : Type} {f g : α → Option β} : ∀ {xs : List α}, (∀ x ∈ xs, f x = g x) → xs.filterMap f = xs.filterMap g
  | [], _ => rfl
  | x :: xs, h => by
    rw [List.filterMap_cons, List.filterMap_cons, h x (List.mem_cons_self ..), fm_congr fun y hy => h y (List.mem_cons_of_mem _ hy)]
section
variable {n m : Nat} {parts : Mat} {q q' qs : List Pr} {p p' pl : List Nat} {L : Mat} {G A : List Pr}
abbrev SzM (n m : Nat) (L : Mat) : Prop := L.length = n ∧ ∀ x ∈ L, x.length = m
theorem cell_bd (h : SzM n m L) {i j : Nat} (hc : cell L i j = 1) : i < n ∧ j < m := by
  obtain ⟨h1, h2⟩ := cell_lt hc
  refine ⟨h.1 ▸ h1, ?_⟩
  rw [List.getD_eq_getElem?_getD, List.getElem?_eq_getElem h1, Option.getD_some, h.2 _ (List.getElem_mem h1)] at h2
  exact h2
theorem col_at {i j : Nat} (hi : i < L.length) : (L.map fun r => r.getD j 0).getD i 0 = cell L i j := by
  rw [List.getD_eq_getElem?_getD, List.getElem?_map, List.getElem?_eq_getElem hi]
  unfold cell
  rw [List.getD_eq_getElem?_getD (l := L), List.getElem?_eq_getElem hi]
  rfl
theorem grF_off {j : Nat} (h : ∀ i, cell L i j ≠ 1) : grF L q j = none := by
  unfold grF
  cases z : nxO (L.map fun r => r.getD j 0) (q.getD j (0, 0)).1 with
  | none => rfl
  | some i =>
    obtain ⟨h1, h2⟩ := nx_some z
    rw [List.length_map] at h1
    rw [col_at h1] at h2
    exact absurd h2 (h i)
theorem grF_on {i j : Nat} (hL : L.length = n) (hq : (q.getD j (0, 0)).1 < n) (hc : cell L i j = 1) : ∃ i', grF L q j = some (j, i') := by
  unfold grF
  cases z : nxO (L.map fun r => r.getD j 0) (q.getD j (0, 0)).1 with
  | some i' => exact ⟨i', rfl⟩
  | none =>
    have hi := (cell_lt hc).1
    have := nx_none (by rw [List.length_map, hL]; exact hq) z (i := i) (by rw [List.length_map]; exact hi)
    rw [col_at hi] at this
    exact absurd hc this
theorem gr_same (h : ∀ j, j < m → (∃ i, cell L i j = 1) → q.getD j (0, 0) = q'.getD j (0, 0)) : grN m L q = grN m L q' := by
  refine fm_congr fun j hj => ?_
  have hj := List.mem_range.mp hj
  by_cases hc : ∃ i, cell L i j = 1
  · unfold grF
    rw [h j hj hc]
  · have hc' : ∀ i, cell L i j ≠ 1 := fun i z => hc ⟨i, z⟩
    rw [grF_off hc', grF_off hc']
theorem ac_same (h : ∀ i, i < n → (∃ j, (j, i) ∈ G) → p.getD i 0 = p'.getD i 0) : acN n m G p = acN n m G p' := by
  refine fm_congr fun i hi => ?_
  have hi := List.mem_range.mp hi
  unfold acF
  by_cases hc : ∃ j, (j, i) ∈ G
  · rw [h i hi hc]
  · have e : ∀ k, nxO ((List.range m).map fun j => if (j, i) ∈ G then (1 : Int) else 0) k = none := fun k => nx_zero fun j _ => by
      rw [if_neg fun z => hc ⟨j, z⟩]
      exact fun z => by cases z
    rw [e, e]
theorem gr_fun {j i i' : Nat} (h : (j, i) ∈ grN m L q) (h' : (j, i') ∈ grN m L q) : i = i' := by
  obtain ⟨a, _, e⟩ := List.mem_filterMap.mp h
  obtain ⟨b, _, e'⟩ := List.mem_filterMap.mp h'
  have fst : ∀ {a : Nat} {x : Pr}, grF L q a = some x → x.1 = a := fun {a x} e => by
    unfold grF at e
    cases z : nxO (L.map fun r => r.getD a 0) (q.getD a (0, 0)).1 with
    | none => rw [z] at e; cases e
    | some i => rw [z] at e; cases e; rfl
  have e1 := fst e
  have e2 := fst e'
  have e3 : a = b := e1.symm.trans e2
  subst e3
  rw [e] at e'
  injection e' with e'
  injection e' with _ e'
theorem ac_rising : (acN n m G p).Pairwise fun x y => x.1 < y.1 := by
  unfold acN
  rw [List.pairwise_filterMap]
  refine List.pairwise_lt_range.imp fun {a b} hab x hx y hy => ?_
  have fst : ∀ {a : Nat} {x : Pr}, acF m G p a = some x → x.1 = a := fun {a x} e => by
    unfold acF at e
    cases z : nxO ((List.range m).map fun j => if (j, a) ∈ G then (1 : Int) else 0) (p.getD a 0) with
    | none => rw [z] at e; cases e
    | some i => rw [z] at e; cases e; rfl
  rw [fst hx, fst hy]
  exact hab
theorem ac_apart : Apart (acN n m (grN m L q) p) := by
  have h := ac_rising (n := n) (m := m) (G := grN m L q) (p := p)
  refine List.Pairwise.imp_of_mem (fun {a b} ha hb hab => ⟨Nat.ne_of_lt hab, fun e => ?_⟩) h
  have h1 := (ac_mem ha).2.2
  have h2 := (ac_mem hb).2.2
  rw [e] at h1
  have := gr_fun h1 h2
  omega
theorem ac_cell (hL : L.length = n) {x : Pr} (hx : x ∈ acN n m (grN m L q) p) : x.1 < n ∧ x.2 < m ∧ cell L x.1 x.2 = 1 := by
  obtain ⟨h1, h2, h3⟩ := ac_mem hx
  exact ⟨h1, h2, (gr_mem hL h3).2.2⟩
theorem gr_empty (g : Gst n m parts q p) (hL : SzM n m L) : grN m L q = [] ↔ ∀ i j, cell L i j ≠ 1 := by
  constructor
  · intro h i j hc
    obtain ⟨_, hj⟩ := cell_bd hL hc
    obtain ⟨i', e⟩ := grF_on hL.1 (g.ptr hj) hc
    have : (j, i') ∈ grN m L q := List.mem_filterMap.mpr ⟨j, List.mem_range.mpr hj, e⟩
    rw [h] at this
    cases this
  · intro h
    cases e : grN m L q with
    | nil => rfl
    | cons x xs =>
      have hx : x ∈ grN m L q := by rw [e]; exact List.mem_cons_self ..
      exact absurd (gr_mem hL.1 hx).2.2 (h _ _)
/-! pointers of those that stand in no pair stay -/
theorem mv_off : ∀ {A : List Pr} {s : List Pr × List Nat} {j : Nat}, j ∉ Vs A → (mvN m parts A s).1.getD j (0, 0) = s.1.getD j (0, 0)
  | [], _, _, _ => rfl
  | x :: A, s, j, h => by
    have h' : j ≠ x.2 ∧ j ∉ Vs A := by
      unfold Vs at h ⊢
      rw [List.map_cons, List.mem_cons] at h
      exact ⟨fun z => h (.inl z), fun z => h (.inr z)⟩
    show (mvN m parts A (mvF m parts s x)).1.getD j (0, 0) = _
    rw [mv_off h'.2]
    unfold mvF
    simp only [List.getD_eq_getElem?_getD]
    rw [List.getElem?_set_ne (fun z => h'.1 z.symm)]
theorem mv_offp : ∀ {A : List Pr} {s : List Pr × List Nat} {i : Nat}, i ∉ Ks A → (mvN m parts A s).2.getD i 0 = s.2.getD i 0
  | [], _, _, _ => rfl
  | x :: A, s, i, h => by
    have h' : i ≠ x.1 ∧ i ∉ Ks A := by
      unfold Ks at h ⊢
      rw [List.map_cons, List.mem_cons] at h
      exact ⟨fun z => h (.inl z), fun z => h (.inr z)⟩
    show (mvN m parts A (mvF m parts s x)).2.getD i 0 = _
    rw [mv_offp h'.2]
    unfold mvF
    simp only [List.getD_eq_getElem?_getD]
    rw [List.getElem?_set_ne (fun z => h'.1 z.symm)]
theorem next_cell {i j : Nat} : cell (nextL A L) i j = 1 ↔ cell L i j = 1 ∧ i ∉ Ks A ∧ j ∉ Vs A := by
  unfold nextL
  rw [cell_left, cut_f]
  rfl
/-- alike where something asks: alike in all rounds -/
theorem rds_same : ∀ {r : Nat} {L : Mat}, SzM n m L → (∀ j, j < m → (∃ i, cell L i j = 1) → q.getD j (0, 0) = q'.getD j (0, 0)) → (∀ i, i < n → (∃ j, cell L i j = 1) → p.getD i 0 = p'.getD i 0) → rdsP n m q p r L = rdsP n m q' p' r L
  | 0, _, _, _, _ => rfl
  | r + 1, L, hL, hq, hp => by
    have e1 : grN m L q' = grN m L q := (gr_same hq).symm
    have e2 : acN n m (grN m L q) p' = acN n m (grN m L q) p := (ac_same fun i hi ⟨j, hj⟩ => hp i hi ⟨j, (gr_mem hL.1 hj).2.2⟩).symm
    show (if grN m L q = [] then [] else _) = (if grN m L q' = [] then [] else (grN m L q', acN n m (grN m L q') p') :: rdsP n m q' p' r (nextL (acN n m (grN m L q') p') L))
    rw [e1, e2]
    by_cases hG : grN m L q = []
    · rw [if_pos hG, if_pos hG]
    · rw [if_neg hG, if_neg hG]
      congr 1
      exact rds_same (nextL_size hL) (fun j hj ⟨i, hc⟩ => hq j hj ⟨i, (next_cell.mp hc).1⟩) fun i hi ⟨j, hc⟩ => hp i hi ⟨j, (next_cell.mp hc).1⟩
/-- a beat's rounds are rounds by the pointers and places as they stood -/
theorem beat_rds {r : Nat} (hL : SzM n m L) : beatP n m parts r L q p = rdsP n m q p r L := by
  cases r with
  | zero => rfl
  | succ r =>
    show (if grN m L q = [] then [] else _) = if grN m L q = [] then [] else _
    by_cases hG : grN m L q = []
    · rw [if_pos hG, if_pos hG]
    · rw [if_neg hG, if_neg hG]
      congr 1
      have eb : behP n m parts (r + 1) L q p = mvN m parts (acN n m (grN m L q) p) (q, p) := by
        unfold behP
        rw [if_neg]
        rintro (z | z)
        · omega
        · exact hG z
      rw [eb]
      refine rds_same (nextL_size hL) (fun j _ ⟨i, hc⟩ => mv_off (s := (q, p)) (next_cell.mp hc).2.2) fun i _ ⟨j, hc⟩ => mv_offp (s := (q, p)) (next_cell.mp hc).2.1
/-! what is accepted -/
theorem acc_cell : ∀ {r : Nat} {L : Mat}, SzM n m L → ∀ x ∈ accP (rdsP n m q p r L), x.1 < n ∧ x.2 < m ∧ cell L x.1 x.2 = 1
  | 0, _, _ => fun _ z => nomatch z
  | r + 1, L, hL => fun x hx => by
    have hx' : x ∈ accP (if grN m L q = [] then [] else (grN m L q, acN n m (grN m L q) p) :: rdsP n m q p r (nextL (acN n m (grN m L q) p) L)) := hx
    by_cases hG : grN m L q = []
    · rw [if_pos hG] at hx'; cases hx'
    · rw [if_neg hG, accP_cons] at hx'
      rcases List.mem_append.mp hx' with h | h
      · exact ac_cell hL.1 h
      · obtain ⟨h1, h2, h3⟩ := acc_cell (nextL_size hL) x h
        exact ⟨h1, h2, (next_cell.mp h3).1⟩
theorem acc_apart : ∀ {r : Nat} {L : Mat}, SzM n m L → Apart (accP (rdsP n m q p r L))
  | 0, _, _ => List.Pairwise.nil
  | r + 1, L, hL => by
    show Apart (accP (if grN m L q = [] then [] else (grN m L q, acN n m (grN m L q) p) :: rdsP n m q p r (nextL (acN n m (grN m L q) p) L)))
    by_cases hG : grN m L q = []
    · rw [if_pos hG]; exact List.Pairwise.nil
    · rw [if_neg hG, accP_cons]
      refine List.pairwise_append.mpr ⟨ac_apart, acc_apart (nextL_size hL), fun a ha b hb => ?_⟩
      obtain ⟨_, _, h3⟩ := acc_cell (nextL_size hL) b hb
      obtain ⟨_, h4, h5⟩ := next_cell.mp h3
      exact ⟨fun e => h4 (mem_ks.mpr ⟨a.2, by rw [← e]; exact ha⟩), fun e => h5 (mem_vs.mpr ⟨a.1, by rw [← e]; exact ha⟩)⟩
theorem rds_len {r : Nat} {L : Mat} : (rdsP n m q p r L).length ≤ r := by
  induction r generalizing L with
  | zero => exact Nat.le_refl 0
  | succ r ih =>
    show (if grN m L q = [] then [] else _).length ≤ r + 1
    split
    · exact Nat.zero_le _
    · rw [List.length_cons]
      exact Nat.succ_le_succ ih
theorem beh_gst {r : Nat} (g : Gst n m parts q p) : Gst n m parts (behP n m parts r L q p).1 (behP n m parts r L q p).2 := by
  unfold behP
  split
  · exact g
  · exact Gst.mv (s := (q, p)) g fun x hx => ⟨(ac_mem hx).1, (ac_mem hx).2.1⟩
theorem acc_len {r : Nat} (hL : SzM n m L) : (accP (rdsP n m q p r L)).length ≤ n := by
  have h := (apart_iff.mp (acc_apart (q := q) (p := p) (r := r) hL)).1
  have := nodup_len h (n := n) fun x hx => by
    obtain ⟨v, hv⟩ := mem_ks.mp hx
    exact (acc_cell hL _ hv).1
  unfold Ks at this
  rw [List.length_map] at this
  exact this
end
end Cg

set_option Elab.async false
set_option linter.all false
set_option maxRecDepth 100000
set_option maxHeartbeats 1000000
namespace Cg
open PySem PySem.Spec PyProof.Rows L2 Evl
/-! ### a round more; full pairs and the most; asks that go -/
section
variable {n m : Nat} {parts : Mat} {q qs : List Pr} {p pl : List Nat} {L M : Mat}
/-! one ask less -/
def zero1 (M : Mat) (x : Pr) : Mat := M.set x.1 ((M.getD x.1 []).set x.2 0)
theorem zero_cell {x : Pr} {i j : Nat} : cell (zero1 M x) i j = 1 ↔ cell M i j = 1 ∧ (i, j) ≠ x := by
  unfold zero1 cell
  simp only [List.getD_eq_getElem?_getD]
  by_cases hi : x.1 = i
  · subst hi
    by_cases hx : x.1 < M.length
    · rw [List.getElem?_set_self hx, List.getElem?_eq_getElem hx]
      simp only [Option.getD_some]
      by_cases hj : x.2 = j
      · subst hj
        by_cases hy : x.2 < (M[x.1]).length
        · rw [List.getElem?_set_self hy]
          simp
        · rw [List.getElem?_eq_none (by rw [List.length_set]; omega), List.getElem?_eq_none (by omega)]
          simp
      · rw [List.getElem?_set_ne hj]
        exact ⟨fun h => ⟨h, fun z => hj (by rw [← z])⟩, fun h => h.1⟩
    · rw [List.set_eq_of_length_le (by omega)]
      have : M[x.1]? = none := List.getElem?_eq_none (by omega)
      rw [this]
      simp
  · rw [List.getElem?_set_ne hi]
    exact ⟨fun h => ⟨h, fun z => hi (by rw [← z])⟩, fun h => h.1⟩
theorem asks_nodup (M : Mat) : (asksN M).Nodup := (asks_lex M).imp fun {a b} h e => by
  subst e
  unfold lexN at h
  omega
theorem zero_le {x : Pr} : (asksN (zero1 M x)).length ≤ (asksN M).length := sub_len (asks_nodup _) fun y hy => mem_asks.mpr (zero_cell.mp (mem_asks.mp hy)).1
end
end Cg

set_option Elab.async false
set_option linter.all false
set_option maxRecDepth 100000
set_option maxHeartbeats 1000000
namespace Cg
open PySem PySem.Spec PyProof.Rows L2 Evl
/-- a field, K named -/
theorem pe_fldK {X : Cx} (K : PySem.W.Frag) {e : Expr} {f : Str} {pos : Pos} {ta : TE} (he : PE X e ta) (hb : attributeBase e f X.env (eval e X.env) = eval e X.env := by rfl) (hK : X.K = K := by rfl) : PE X (.Attribute e f pos) (tFld K ta f) := by
  subst hK
  exact pe_fld he hb
end Cg

set_option Elab.async false
set_option linter.all false
set_option maxRecDepth 100000
set_option maxHeartbeats 1000000
namespace Cg
open PySem PySem.Spec PyProof.Rows L2 Evl
/-! ### what is ahead of an ask -/
def aheadN (n : Nat) (ps : List Int) (q : Pr) (i : Nat) : Int := if q.1 = i then 0 else ((List.range ((i + n - q.1) % n)).map fun s => ps.getD ((q.1 + s) % n) 0).sum - (q.2 : Int)
/-! ### a pointer whose place is always granted its own: it goes round by shares -/
section
variable {ps : List Int}
end
section
variable {n m : Nat}
end
end Cg

set_option Elab.async false
set_option linter.all false
set_option maxRecDepth 100000
set_option maxHeartbeats 1000000
namespace Cg
open PySem PySem.Spec PyProof.Rows L2 Evl
/-! ### tuples made by tuple(..): it is known that they have no dict, so their methods may be called -/
section
variable {X : Cx} {ta : TE}
variable {o e : Expr} {es : List Expr} {to : TE} {t : TA} {name : Str} {apos cpos : Pos} {id : String} {r : V → List V → Hp → VK → Prop}
end
/-! by value -/
section
variable {ta : TE} {we : WE} {tas : TA} {was : WA}
end
/-! ### range(a, b, -1) -/
section
variable {hs : List Addr} {H : Hp} {ta tb tc : TE} {wa wb wc : WE} {ε : Env} {N : Nat}
end
end Cg

set_option Elab.async false
set_option linter.all false
set_option maxRecDepth 100000
set_option maxHeartbeats 1000000
namespace Cg
open PySem PySem.Spec PyProof.Rows L2 Evl
/-! ### len(set(xs)), xs tuples of ints, no two alike -/
section
variable {X : Cx} {ta : TE} {we : WE}
end
end Cg

set_option Elab.async false
set_option linter.all false
set_option maxRecDepth 100000
set_option maxHeartbeats 1000000
namespace Cg
open PySem PySem.Spec PyProof.Rows L2 Evl
/-! ### str of a list or a tuple of data, where no repr is under way -/
def isSq (d : PyData) : Bool := isList d || isTuple d
def oStr : OC
  | [d], S => (isSq d = true ∧ okD d = true ∧ d.depth ≤ 40 ∧ wz d ≤ 1000000) ∧ S (.str d.shown)
  | _, _ => False
theorem oStr_list {xs : List PyData} {S : PyData → Prop} : oStr [.list xs] S = ((okD (.list xs) = true ∧ (PyData.list xs).depth ≤ 40 ∧ wz (.list xs) ≤ 1000000) ∧ S (.str (PyData.list xs).shown)) := by
  apply propext
  show ((isSq (.list xs) = true ∧ _) ∧ _) ↔ _
  rw [show isSq (.list xs) = true from rfl]
  simp only [true_and]
theorem oStr_tup {xs : List PyData} {S : PyData → Prop} : oStr [.tuple xs] S = ((okD (.tuple xs) = true ∧ (PyData.tuple xs).depth ≤ 40 ∧ wz (.tuple xs) ≤ 1000000) ∧ S (.str (PyData.tuple xs).shown)) := by
  apply propext
  show ((isSq (.tuple xs) = true ∧ _) ∧ _) ↔ _
  rw [show isSq (.tuple xs) = true from rfl]
  simp only [true_and]
end Cg

set_option Elab.async false
set_option linter.all false
set_option maxRecDepth 100000
set_option maxHeartbeats 1000000
namespace Cg
open PySem PySem.Spec PyProof.Rows L2 Evl
/-! ### lists at places, changed by their methods; other names of what stands at a place -/
section
variable {c : Base} {b bs cs F A B : List Addr} {σ τ : L2.St} {H H1 H2 H' : Hp} {ε δ : Env} {N N1 N2 N' : Nat} {u v : V} {t s : T} {d : PyData} {i : Nat} {π : List Nat} {ts : List T}
/-- a list at a place, and another one put there -/
theorem Rel.lstP (r : Rel c bs F σ H ε N) (h1 : σ[i]? = some (some v)) (h2 : ε[i]? = some (.is t)) (h3 : atP π t = some s) (h4 : VAt H v π u) (es : s = .lst ts ∨ ∃ a, s = .lsa a ts) :
    ∃ a vs A, u = .ref a ∧ H a = some (.lst vs) ∧ RepL bs H vs ts A ∧ A.Nodup ∧ a ∉ A ∧ a ∈ F ∧ (∀ x ∈ A, x ∈ F) ∧
    ∀ {us : List V} {ws : List T} {A' : List Addr}, RepL bs H us ws A' → A'.Nodup → a ∉ A' → (∀ x ∈ A', x ∈ A ∨ (x ∈ bs ∧ x ∉ F ∧ c.P x = none ∧ x ∉ c.bs0)) → ∃ F', Rel c bs F' σ (upd H a (.lst us)) (putAt ε i π (s.rekid ws)) N ∧ ∀ x ∈ F', (x ∈ F ∧ x ∉ a :: A) ∨ x ∈ a :: A' := by
  obtain ⟨B, rB, nB, sB, back⟩ := r.chgP h2 h1 h3 h4
  obtain ⟨a, vs, A, rfl, rfl, e, hl, mk⟩ := rB.ofL es
  obtain ⟨na, nA⟩ := List.nodup_cons.mp nB
  refine ⟨a, vs, A, rfl, e, hl, nA, na, sB a (List.mem_cons_self ..), fun x hx => sB x (List.mem_cons_of_mem _ hx), fun {us ws A'} hr nd na' hA => ?_⟩
  have abs : a ∈ bs := r.sub a (sB a (List.mem_cons_self ..))
  have kk : Same (hid bs H) (hid bs (upd H a (.lst us))) := (Keep.refl _ _).put abs
  obtain ⟨F', r', hF⟩ := back (cs := bs) (H' := upd H a (.lst us)) (N' := N) ((Keep.refl _ _).put (List.mem_append_left _ (List.mem_cons_self ..))) (fun x hx => (r.box x hx).put fun z => r.fb a (sB a (List.mem_cons_self ..)) (z ▸ hx)) (fun x hx => .inl hx) (fun x hx _ => hx) (fun x hx => by
    by_cases hxa : x = a
    · subst hxa; rw [upd_same]; exact fun z => nomatch z
    · rw [upd_ne hxa]; exact r.live x hx) (fun x hx xs z => by
    by_cases hxa : x = a
    · subst hxa; rw [upd_same] at z; cases z
    · rw [upd_ne hxa] at z; exact r.nt x hx xs z) (fun x hx => by
      rcases List.mem_cons.mp hx with rfl | hx
      · exact ⟨abs, .inl (List.mem_cons_self ..)⟩
      · exact (hA x hx).elim (fun z => ⟨r.sub x (sB x (List.mem_cons_of_mem _ z)), .inl (List.mem_cons_of_mem _ z)⟩) fun z => ⟨z.1, .inr z.2⟩) (List.nodup_cons.mpr ⟨na', nd⟩) (mk upd_same (hr.chg r.nt kk fun z hz y e => by rw [upd_ne (fun (q : z = a) => na' (q ▸ hz))]; exact e))
  refine ⟨F', ?_, hF⟩
  unfold putAt
  rw [h2]
  exact r'
end
section
variable {K : PySem.W.Frag} {te tp ta tk : TE} {we wk : WE} {wt : WT} {i j : Nat} {wp : WP}
/-- p.append(e) -/
def wPlApp (i : Nat) (wp : WP) (wt : WT) : WX := fun ε N R => wp ε N fun π N1 => atPl ε i π fun s => isLst s fun ts => wt ε N1 fun x N2 => ts.length ≤ 100000 ∧ R (.sh .none) (putAt ε i π (s.rekid (ts ++ [x]))) N2
/-- p.extend(e), e data -/
def wPlExt (i : Nat) (wp : WP) (we : WE) : WX := fun ε N R => wp ε N fun π N1 => atPl ε i π fun s => isLst s fun ts => we ε N1 fun d N2 => dList d fun ds => ts.length + ds.length ≤ 100000 ∧ R (.sh .none) (putAt ε i π (s.rekid (ts ++ ds.map T.sh))) N2
/-- p.pop(k) -/
def wPlPop (i : Nat) (wp : WP) (wk : WE) : WX := fun ε N R => wp ε N fun π N1 => atPl ε i π fun s => isLst s fun ts => wk ε N1 fun d N2 => dInt d fun k => (0 ≤ k ∧ k ≤ 1000000) ∧ ∃ x, ts[k.toNat]? = some x ∧ R x (putAt ε i π (s.rekid (ts.eraseIdx k.toNat))) N2
end
end Cg

set_option Elab.async false
set_option linter.all false
set_option maxRecDepth 100000
set_option maxHeartbeats 1000000
namespace Cg
open PySem PySem.Spec PyProof.Rows L2 Evl
/-! ### own things lent to a call: all slots but one are data meanwhile -/
def lendE : Nat → Env → Env
  | _, [] => []
  | 0, l :: ε => l :: viewE ε
  | i + 1, l :: ε => l.view :: lendE i ε
theorem lend_0 {l : Sl} {ε : Env} : lendE 0 (l :: ε) = l :: viewE ε := rfl
theorem lend_s {i : Nat} {l : Sl} {ε : Env} : lendE (i + 1) (l :: ε) = l.view :: lendE i ε := rfl
section
variable {c : Base} {b bs cs F A B : List Addr} {σ τ : L2.St} {H H1 H2 H' : Hp} {ε δ : Env} {N N1 N2 N' : Nat} {u v : V} {t s : T} {d : PyData} {i : Nat}
theorem lend_len : ∀ {i : Nat} {ε : Env}, (lendE i ε).length = ε.length
  | 0, [] => rfl
  | _ + 1, [] => rfl
  | 0, l :: ε => by show (viewE ε).length + 1 = ε.length + 1; unfold viewE; rw [List.length_map]
  | i + 1, l :: ε => by show (lendE i ε).length + 1 = ε.length + 1; rw [lend_len]
theorem lend_app : ∀ {i : Nat} {ε : Env}, i < ε.length → lendE i (ε ++ δ) = lendE i ε ++ viewE δ
  | _, [], h => by cases h
  | 0, l :: ε, h => by show l :: viewE (ε ++ δ) = l :: (viewE ε ++ viewE δ); unfold viewE; rw [List.map_append]
  | i + 1, l :: ε, h => by show l.view :: lendE i (ε ++ δ) = l.view :: (lendE i ε ++ viewE δ); rw [lend_app (Nat.lt_of_succ_lt_succ h)]
/-- slot i, the lent slots, and all slots when it stands otherwise -/
theorem lend_env : ∀ {i : Nat} {σ : L2.St} {ε : Env} {F : List Addr}, RelE b bs H σ ε F → ∀ {t : T}, ε[i]? = some (.is t) → ∃ v A F1 F2, σ[i]? = some (some v) ∧ F = F1 ++ (A ++ F2) ∧ Rep bs H v t A ∧
    (∀ {hs : List Addr}, NoTup hs H → (∀ a ∈ hs, a ∈ bs) → NoTup bs H → (∀ a ∈ F1 ++ F2, a ∉ hs) → RelE b hs H σ (lendE i ε) A) ∧
    ∀ {cs : List Addr} {H' : Hp} {s : T} {B : List Addr}, NoTup bs H → Same (hid bs H) (hid cs H') → (∀ a ∈ F1 ++ F2, ∀ o, H a = some o → H' a = some o) → Rep cs H' v s B → RelE b cs H' σ (ε.set i (.is s)) (F1 ++ (B ++ F2))
  | i, _, _, _, .nil, t, e => by cases e
  | 0, _, l :: ε, F, h, t, e => by
    obtain ⟨x, σ', A, G, rfl, rfl, hr, he⟩ := h.uncons
    have e' : l = .is t := Option.some.inj e
    subst e'
    cases hr with
    | is hr =>
      rename_i v
      refine ⟨v, A, [], G, rfl, rfl, hr, fun {hs} hn hc hb hh => ?_, fun {cs H' s B} hn k hk r => RelE.is (A := B) r (he.chg hn k hk)⟩
      have ra : Rep hs H v t A := Rep.chg hb (hid_less hc) (fun _ _ _ e => e) hr
      have rest : ∀ {σ : L2.St} {ε : Env} {F : List Addr}, RelE b bs H σ ε F → (∀ a ∈ F, a ∉ hs) → RelE b hs H σ (viewE ε) [] := fun {σ ε F} hE => by
        induction hE with
        | nil => intro _; exact .nil
        | no h ih => intro hF; exact .no (ih hF)
        | box e h ih => intro hF; exact .box e (ih hF)
        | is r h ih => intro hF; exact RelE.is (A := []) (.sh (Rep.data hn hc (fun a ha => hF a (List.mem_append_left _ ha)) r)) (ih fun a ha => hF a (List.mem_append_right _ ha))
        | dic e h ih => intro hF; exact .no (ih fun a ha => hF a (List.mem_append_right _ ha))
        | dcF e h ih => intro hF; exact .no (ih hF)
        | pin h ih => intro hF; exact .no (ih hF)
      have := RelE.is (b := b) ra (rest he hh)
      rw [List.append_nil] at this
      exact this
  | i + 1, _, l :: ε, F, h, t, e => by
    obtain ⟨x, σ', A, G, rfl, rfl, hr, he⟩ := h.uncons
    obtain ⟨v, A', F1, F2, p1, p2, p3, p4, p5⟩ := lend_env he (i := i) (t := t) e
    refine ⟨v, A', A ++ F1, F2, p1, by rw [p2, List.append_assoc], p3, fun {hs} hn hc hb hh => ?_, fun {cs H' s B} hn k hk r => ?_⟩
    · have q := p4 hn hc hb fun a ha => hh a (by rw [List.append_assoc]; exact List.mem_append_right _ ha)
      cases hr with
      | no => exact .no q
      | box e2 => exact .box e2 q
      | is r => exact RelE.is (A := []) (.sh (Rep.data hn hc (fun a ha => hh a (List.mem_append_left _ (List.mem_append_left _ ha))) r)) q
      | dic e => exact .no q
      | dcF e => exact .no q
      | pin => exact .no q
    · rw [List.append_assoc]
      have q := p5 hn k (fun a ha => hk a (by rw [List.append_assoc]; exact List.mem_append_right _ ha)) r
      refine RelE.cons ?_ q
      have hA : ∀ a ∈ A, ∀ o, H a = some o → H' a = some o := fun a ha => hk a (List.mem_append_left _ (List.mem_append_left _ ha))
      cases hr with
      | no => exact .no
      | box e2 => exact .box e2
      | is r => exact .is (Rep.chg hn k hA r)
      | dic e2 => exact .dic (hA _ (List.mem_singleton.mpr rfl) _ e2)
      | dcF e2 => exact .dcF (k _ _ e2)
      | pin => exact .pin
end
section
variable {te : TE} {wx : WX} {i : Nat}
def wLend (i : Nat) (wx : WX) : WX := fun ε N R => atIs ε[i]? fun _ => wx (lendE i ε) N fun t ε' N' => t.clean = true ∧ ∃ s, ε' = (lendE i ε).set i (.is s) ∧ s.clean = true ∧ R t (ε.set i (.is s)) N'
theorem sim_lend (h : SimX te wx) : SimX te (wLend i wx) := fun {c bs F σ τ H ε δ N R Q} hl r ww q => by
  obtain ⟨t0, et, ww⟩ := atIs_some ww
  have il : i < ε.length := (List.getElem?_eq_some_iff.mp et).1
  have et' : (ε ++ δ)[i]? = some (.is t0) := by rw [List.getElem?_append_left il]; exact et
  obtain ⟨v0, A, F1, F2, g1, g2, g3, g4, g5⟩ := lend_env r.env et'
  have mA : ∀ a ∈ A, a ∈ F := fun a ha => by rw [g2]; exact List.mem_append_right _ (List.mem_append_left _ ha)
  let hs := c.b ++ A
  have hsb : ∀ a ∈ hs, a ∈ bs := fun a ha => (List.mem_append.mp ha).elim (r.bin a) fun z => r.sub a (mA a z)
  have nd := r.nd
  rw [g2] at nd
  obtain ⟨n1, n2, n3⟩ := List.nodup_append.mp nd
  obtain ⟨n4, n5, n6⟩ := List.nodup_append.mp n2
  have mem0 : ∀ a, a ∈ F1 ++ F2 → a ∈ F ∧ a ∉ A := fun a ha => by
    rw [g2]
    rcases List.mem_append.mp ha with z | z
    · exact ⟨List.mem_append_left _ z, fun y => n3 a z a (List.mem_append_left _ y) rfl⟩
    · exact ⟨List.mem_append_right _ (List.mem_append_right _ z), fun y => n6 a y a z rfl⟩
  have out0 : ∀ a, a ∈ F1 ++ F2 → a ∉ hs := fun a ha z => (List.mem_append.mp z).elim (r.fb a (mem0 a ha).1) (mem0 a ha).2
  let c' : Base := ⟨c.b, c.b, hid hs H, hid hs H⟩
  have inner : Rel c' hs A (σ ++ τ) H (lendE i ε ++ viewE δ) N := by
    refine ⟨?_, n4, fun a ha => List.mem_append_right _ ha, fun a ha => hid_in (List.mem_append_right _ ha), fun a ha z => r.fb a (mA a ha) z, fun a ha => List.mem_append_left _ ha, fun a ha => ha, fun a ha => hid_in (List.mem_append_left _ ha), fun a ha => r.live a (hsb a ha), fun a ha xs z => r.nt a (hsb a ha) xs z, r.box, hid_same, Same.refl _⟩
    rw [← lend_app il]
    exact g4 (fun a ha xs z => r.nt a (hsb a ha) xs z) hsb r.nt out0
  refine h (hl.trans lend_len.symm) inner ww fun v t ε' N' bs' F' H' hR l r' => ?_
  obtain ⟨tc, s, rfl, sc, hR⟩ := hR
  have sl : ((σ ++ τ)).length = (((lendE i ε).set i (.is s)) ++ viewE δ).length := by
    have := r.env.len
    unfold viewE
    rw [List.length_append, List.length_append] at *
    rw [List.length_set, lend_len, List.length_map]
    exact this
  obtain ⟨G, At, r2, hr, ndt, hAt⟩ := r'.unpend sl
  have es : (((lendE i ε).set i (.is s)) ++ viewE δ)[i]? = some (.is s) := by
    rw [List.getElem?_append_left (by rw [List.length_set, lend_len]; exact il), List.getElem?_set_self (by rw [lend_len]; exact il)]
  obtain ⟨y, As, G1, G2, k1, k2, k3, _⟩ := r2.env.at es
  have ey : y = some v0 := Option.some.inj (k1.symm.trans g1)
  subst ey
  cases k2 with
  | is rs =>
    have mAs : ∀ a ∈ As, a ∈ G := fun a ha => by rw [k3]; exact List.mem_append_right _ (List.mem_append_left _ ha)
    have ndG := r2.nd
    rw [k3] at ndG
    have ndAs : As.Nodup := (List.nodup_append.mp (List.nodup_append.mp ndG).2.1).1
    have oldn : ∀ a, a ∉ c.b → hid hs H a = none → a ∈ A ∨ H a = none := fun a hb e => by
      by_cases ha : a ∈ A
      · exact .inl ha
      · rw [hid_out (fun z => (List.mem_append.mp z).elim hb ha)] at e
        exact .inr e
    have oAs : ∀ a ∈ As, a ∈ A ∨ H a = none := fun a ha => oldn a (r2.nb a (mAs a ha)) (r2.off a (mAs a ha))
    have oAt : ∀ a ∈ At, a ∈ A ∨ H a = none := fun a ha => oldn a (hAt a ha).2.2.2 (hAt a ha).2.2.1
    have pinned : ∀ a o, a ∉ hs → H a = some o → H' a = some o := fun a o hh e => r2.pin a o (by show hid hs H a = some o; rw [hid_out hh]; exact e)
    let bsN := bs.filter (fun a => !decide (a ∈ A)) ++ (At ++ As)
    have mN : ∀ a, a ∈ bsN ↔ (a ∈ bs ∧ a ∉ A) ∨ a ∈ At ∨ a ∈ As := fun a => by
      show a ∈ bs.filter _ ++ (At ++ As) ↔ _
      rw [List.mem_append, List.mem_filter, List.mem_append]
      simp
    have ntN : NoTup bsN H' := fun a ha xs z => by
      rcases (mN a).mp ha with ⟨h1, h2⟩ | h1 | h1
      · by_cases hb : a ∈ c.b
        · exact box_tup (r2.box a hb) z
        · cases e : H a with
          | none => exact r.live a h1 e
          | some o =>
            rw [pinned a o (fun w => (List.mem_append.mp w).elim hb h2) e] at z
            exact r.nt a h1 xs (e.trans z)
      · obtain ⟨o, e, no⟩ := hr.own a h1
        rw [e] at z
        exact no xs (Option.some.inj z)
      · obtain ⟨o, e, no⟩ := rs.own a h1
        rw [e] at z
        exact no xs (Option.some.inj z)
    have vis : Same (hid bs H) (hid bsN H') := fun a o e => by
      obtain ⟨h1, h2⟩ := hid_some e
      rw [hid_out fun z => ?_]
      · exact pinned a o (fun w => h1 (hsb a w)) h2
      · rcases (mN a).mp z with ⟨z1, _⟩ | z1 | z1
        · exact h1 z1
        · rcases oAt a z1 with w | w
          · exact h1 (r.sub a (mA a w))
          · rw [h2] at w; cases w
        · rcases oAs a z1 with w | w
          · exact h1 (r.sub a (mA a w))
          · rw [h2] at w; cases w
    have rsN : Rep bsN H' v0 s As := Rep.clean ntN rs sc
    have env := g5 (cs := bsN) (H' := H') r.nt vis (fun a ha o e => pinned a o (out0 a ha) e) rsN
    have notF : ∀ a, (a ∈ A ∨ H a = none) → a ∉ F1 ++ F2 := fun a ha z => by
      obtain ⟨z1, z2⟩ := mem0 a z
      rcases ha with w | w
      · exact z2 w
      · exact r.live a (r.sub a z1) w
    have facts : ∀ a, (a ∈ A ∨ H a = none) → c.P a = none ∧ a ∉ c.bs0 := fun a ha => by
      rcases ha with w | w
      · exact ⟨r.off a (mA a w), r.nb a (mA a w)⟩
      · exact ⟨pin_none r w, fun z => r.live a (r.up a z) w⟩
    have cases3 : ∀ a ∈ F1 ++ (As ++ F2), a ∈ F1 ++ F2 ∨ a ∈ As := fun a ha => by
      rcases List.mem_append.mp ha with z | z
      · exact .inl (List.mem_append_left _ z)
      · rcases List.mem_append.mp z with z | z
        · exact .inr z
        · exact .inl (List.mem_append_right _ z)
    have rN : Rel c bsN (F1 ++ (As ++ F2)) (σ ++ τ) H' ((ε ++ δ).set i (.is s)) N' := by
      refine ⟨env, nodup_mid (by rw [← g2]; exact r.nd) ndAs fun a ha => ⟨fun z => notF a (oAs a ha) (List.mem_append_left _ z), fun z => notF a (oAs a ha) (List.mem_append_right _ z)⟩, fun a ha => ?_, fun a ha => ?_, fun a ha => ?_, fun a ha => ?_, r.bb, r.offb, fun a ha => ?_, ntN, r2.box, fun a o e => ?_, r.vis.trans vis⟩
      · rcases cases3 a ha with z | z
        · exact (mN a).mpr (.inl ⟨r.sub a (mem0 a z).1, (mem0 a z).2⟩)
        · exact (mN a).mpr (.inr (.inr z))
      · rcases cases3 a ha with z | z
        · exact r.off a (mem0 a z).1
        · exact (facts a (oAs a z)).1
      · rcases cases3 a ha with z | z
        · exact r.nb a (mem0 a z).1
        · exact (facts a (oAs a z)).2
      · exact (mN a).mpr (.inl ⟨r.up a ha, fun z => r.nb a (mA a z) ha⟩)
      · rcases (mN a).mp ha with ⟨h1, h2⟩ | h1 | h1
        · by_cases hb : a ∈ c.b
          · exact (r2.box a hb).is
          · cases e : H a with
            | none => exact absurd e (r.live a h1)
            | some o => rw [pinned a o (fun w => (List.mem_append.mp w).elim hb h2) e]; exact fun z => nomatch z
        · exact own_some hr.own a h1
        · exact own_some rs.own a h1
      · refine pinned a o (fun w => ?_) (r.pin a o e)
        rcases List.mem_append.mp w with w | w
        · rw [r.offb a w] at e; cases e
        · rw [r.off a (mA a w)] at e; cases e
    have rP := rN.pend (Rep.clean ntN hr tc) ndt fun a ha => ⟨(mN a).mpr (.inr (.inl ha)), fun z => by
      rcases cases3 a z with w | w
      · exact notF a (oAt a ha) w
      · exact (hAt a ha).2.1 (mAs a w), (facts a (oAt a ha)).1, (facts a (oAt a ha)).2⟩
    rw [List.set_append_left _ _ il] at rP
    exact q v t _ N' _ _ H' hR (by rw [List.length_set]) rP
end
end Cg

set_option Elab.async false
set_option linter.all false
set_option maxRecDepth 100000
set_option maxHeartbeats 1000000
namespace Cg
open PySem PySem.Spec PyProof.Rows L2 Evl
/-! ### other names of what stands at a place -/
def atPin (o : Option Sl) (k : Addr → Prop) : Prop := match o with
  | some (.pin a) => k a
  | _ => False
theorem atPin_is {a : Addr} {k : Addr → Prop} : atPin (some (.pin a)) k = k a := propext Iff.rfl
theorem atPin_some {o : Option Sl} {k : Addr → Prop} (h : atPin o k) : ∃ a, o = some (.pin a) ∧ k a := by
  unfold atPin at h
  split at h
  · exact ⟨_, rfl, h⟩
  · exact h.elim
section
variable {c : Base} {b bs cs F A B : List Addr} {σ τ : L2.St} {H H1 H2 H' : Hp} {ε δ : Env} {N N1 N2 N' : Nat} {u v : V} {t s : T} {d : PyData} {i j : Nat} {π : List Nat}
theorem Rel.pin_val {a : Addr} (r : Rel c bs F σ H ε N) (e : ε[j]? = some (.pin a)) : σ[j]? = some (some (.ref a)) := by
  obtain ⟨x, A, F1, F2, h1, h2, _, _⟩ := r.env.at e
  cases h2 with
  | pin => exact h1
/-- what stands along the path -/
theorem Rel.along (r : Rel c bs F σ H ε N) (e : ε[i]? = some (.is t)) (h : atP π t = some s) : ∃ v u B, σ[i]? = some (some v) ∧ VAt H v π u ∧ Rep bs H u s B ∧ ∀ a ∈ B, a ∈ F := by
  obtain ⟨x, A, F1, F2, h1, h2, h3, _⟩ := r.env.at e
  cases h2 with
  | is hr =>
    obtain ⟨u, A1, B, A2, q1, q2, q3, _⟩ := hr.zoom h
    refine ⟨_, u, B, h1, q2, q3, fun a ha => ?_⟩
    rw [h3, q1]
    exact List.mem_append_right _ (List.mem_append_left _ (List.mem_append_right _ (List.mem_append_left _ ha)))
def wPA (j i : Nat) : WP := fun ε N R => atPin ε[j]? fun a => ∃ π, (atPl ε i π fun s => s.root = some a) ∧ R π N
def T.nm : T → Addr → T
  | .lst ts, a => .lsa a ts
  | t, _ => t
theorem nm_lst {ts : List T} {a : Addr} : (T.lst ts).nm a = .lsa a ts := rfl
theorem nm_lsa {ts : List T} {a b : Addr} : (T.lsa b ts).nm a = .lsa b ts := rfl
theorem nm_ins {x C a : Addr} {ns : List Str} {ts : List T} : (T.ins x C ns ts).nm a = .ins x C ns ts := rfl
theorem root_lsa {ts : List T} {a : Addr} : (T.lsa a ts).root = some a := rfl
theorem root_ins {x C : Addr} {ns : List Str} {ts : List T} : (T.ins x C ns ts).root = some x := rfl
theorem root_rc {x : Addr} {ns : List Str} {ts : List T} : (T.rc x ns ts).root = some x := rfl
theorem Rep.named (h : Rep bs H v s B) : ∃ a, (∀ {B : List Addr}, Rep bs H v s B → Rep bs H v (s.nm a) B) ∧ ∀ p, (s.nm a).root = some p → v = .ref p := by
  cases h with
  | lst e h => exact ⟨_, fun h => (by cases h with | lst e h => exact .lsa e h), fun p e => by cases e; rfl⟩
  | lsa e h => exact ⟨0, fun h => h, fun p e => by cases e; rfl⟩
  | ins e e2 l h => exact ⟨0, fun h => h, fun p e => by cases e; rfl⟩
  | rc e l h => exact ⟨0, fun h => h, fun p e => by cases e; rfl⟩
  | sh h => exact ⟨0, fun h => h, fun p e => by cases e⟩
  | tup e h => exact ⟨0, fun h => h, fun p e => by cases e⟩
  | dic e => exact ⟨0, fun h => h, fun p e => by cases e⟩
/-- told otherwise, the heap as it is -/
theorem Rel.retell (r : Rel c bs F σ H ε N) (k1 : σ[i]? = some (some v)) (e : ε[i]? = some (.is t)) (h : atP π t = some s) (k2 : VAt H v π u) {s' : T} (hs : ∀ {B : List Addr}, Rep bs H u s B → Rep bs H u s' B) : ∃ F', Rel c bs F' σ H (putAt ε i π s') N := by
  obtain ⟨B', q1, q2, q3, q4⟩ := r.chgP e k1 h k2
  obtain ⟨F', r', _⟩ := q4 (cs := bs) (H' := H) (s' := s') (B' := B') (N' := N) (Keep.refl _ _) r.box (fun a ha => .inl ha) (fun a ha _ => ha) r.live r.nt (fun a ha => ⟨r.sub a (q3 a ha), .inl ha⟩) q2 (hs q1)
  refine ⟨F', ?_⟩
  unfold putAt
  rw [e]
  exact r'
theorem Rel.pinned_slot {x : Addr} (r : Rel c bs F σ H ε N) : ∃ F', Rel c bs F' (σ.set j (some (.ref x))) H (ε.set j (.pin x)) N ∧ F'.Sublist F := by
  cases hl : ε[j]? with
  | none =>
    have hs : σ[j]? = none := by
      rw [List.getElem?_eq_none_iff] at hl ⊢
      rw [r.env.len]
      exact hl
    rw [set_beyond hl, set_beyond hs]
    exact ⟨F, r, List.Sublist.refl _⟩
  | some l =>
    obtain ⟨y, A, F1, F2, h1, h2, rfl, q4⟩ := r.env.at hl
    have env := q4 (cs := bs) (H' := H) (y := some (.ref x)) (m := .pin x) (B := []) r.nt (Same.refl _) (fun _ _ _ e => e) .pin
    have sl : (F1 ++ ([] ++ F2)).Sublist (F1 ++ (A ++ F2)) := List.Sublist.append_left (List.Sublist.append_right (List.nil_sublist _) _) _
    exact ⟨_, r.sub' env sl, sl⟩
end
section
variable {te tp ta : TE} {we : WE} {wt : WT} {wb : WB} {i j : Nat} {wp : WP} {wx : WX} {K : PySem.W.Frag}
/-- x = p[..], another name of what stands there -/
def wAl (j i : Nat) (wp : WP) : WS := fun D ε N => wp ε N fun π N1 => atPl ε i π fun s => ∀ a, ∃ x, (s.nm a).root = some x ∧ D.nx ((putAt ε i π (s.nm a)).set j (.pin x)) N1
/-! what is read by other names: the view, these names too -/
def viewA (ε0 : Env) : List (Nat × Nat) → Env → (Env → Prop) → Prop
  | [], ε, k => k ε
  | (j, i) :: l, ε, k => atPin ε0[j]? fun a => ∃ π, atPl ε0 i π fun s => s.root = some a ∧ viewA ε0 l (ε.set j (.is (.sh s.data))) k
theorem viewA_nil {ε0 ε : Env} {k : Env → Prop} : viewA ε0 [] ε k = k ε := propext Iff.rfl
theorem viewA_cons {ε0 ε : Env} {l : List (Nat × Nat)} {k : Env → Prop} : viewA ε0 ((j, i) :: l) ε k = atPin ε0[j]? fun a => ∃ π, atPl ε0 i π fun s => s.root = some a ∧ viewA ε0 l (ε.set j (.is (.sh s.data))) k := propext Iff.rfl
theorem view_al {c : Base} {bs F : List Addr} {σ : L2.St} {H : Hp} {ε0 : Env} {N : Nat} (r : Rel c bs F σ H ε0 N) : ∀ {l : List (Nat × Nat)} {ε : Env} {k : Env → Prop}, Rel { c with bs0 := c.b } c.b [] σ H ε N → viewA ε0 l ε k → ∃ ε', Rel { c with bs0 := c.b } c.b [] σ H ε' N ∧ k ε'
  | [], ε, k, rv, h => ⟨ε, rv, h⟩
  | (j, i) :: l, ε, k, rv, h => by
    obtain ⟨a, ej, π, h1⟩ := atPin_some h
    obtain ⟨t, s, e1, e2, er, h2⟩ := atPl_some h1
    obtain ⟨v, u, B, k1, k2, k3, k4⟩ := r.along e1 e2
    have eu := k3.root er
    subst eu
    have hd : Dq (hid c.b H) (.ref a) s.data := Rep.data (fun x hx => r.nt x (r.bin x hx)) r.bin (fun x hx => r.fb x (k4 x hx)) k3
    obtain ⟨F', r2, hF⟩ := rv.put (i := j) (x := .sh s.data) (A := []) (.sh hd) List.nodup_nil (fun _ z => nomatch z)
    have eF : F' = [] := List.eq_nil_iff_forall_not_mem.mpr fun x hx => (hF x hx).elim (fun z => nomatch z) fun z => nomatch z
    subst eF
    have es : σ.set j (some (.ref a)) = σ := set_same (r.pin_val ej)
    rw [es] at r2
    exact view_al r r2 h2
def wVwA (l : List (Nat × Nat)) (we : WE) : WE := fun ε N R => viewA ε l (viewE ε) fun ε' => we ε' N fun d N' => imm d = true ∧ R d N'
def wVbA (l : List (Nat × Nat)) (wb : WB) : WB := fun ε N R => viewA ε l (viewE ε) fun ε' => wb ε' N R
def wVtA (l : List (Nat × Nat)) (wt : WT) : WT := fun ε N R => viewA ε l (viewE ε) fun ε' => wt ε' N fun t N' => t.clean = true ∧ R t N'
theorem sim_vtA {l : List (Nat × Nat)} (h : SimT te wt) : SimT te (wVtA l wt) := fun {c bs F σ H ε N R Q} r w q => by
  obtain ⟨ε', rv, w'⟩ := view_al r r.view w
  refine h rv w' fun v t A N' H' hR o n => ?_
  have o' : Out c H H' N' := ⟨o.keep, o.box⟩
  exact q v t A N' H' hR.2 o' ⟨Rep.clean (own_notup n.rep.own (out_notup o' r.live r.nt)) n.rep hR.1, n.nd, n.new⟩
theorem wVwA_eq {l : List (Nat × Nat)} {ε : Env} {N : Nat} {R : PyData → Nat → Prop} : wVwA l we ε N R = viewA ε l (viewE ε) fun ε' => we ε' N fun d N' => imm d = true ∧ R d N' := propext Iff.rfl
theorem wVbA_eq {l : List (Nat × Nat)} {ε : Env} {N : Nat} {R : Bool → Nat → Prop} : wVbA l wb ε N R = viewA ε l (viewE ε) fun ε' => wb ε' N R := propext Iff.rfl
theorem wVtA_eq {l : List (Nat × Nat)} {ε : Env} {N : Nat} {R : T → Nat → Prop} : wVtA l wt ε N R = viewA ε l (viewE ε) fun ε' => wt ε' N fun t N' => t.clean = true ∧ R t N' := propext Iff.rfl
theorem wPA_eq {ε : Env} {N : Nat} {R : List Nat → Nat → Prop} : wPA j i ε N R = atPin ε[j]? fun a => ∃ π, (atPl ε i π fun s => s.root = some a) ∧ R π N := propext Iff.rfl
theorem wAl_eq {D : EW} {ε : Env} {N : Nat} : wAl j i wp D ε N = wp ε N fun π N1 => atPl ε i π fun s => ∀ a, ∃ x, (s.nm a).root = some x ∧ D.nx ((putAt ε i π (s.nm a)).set j (.pin x)) N1 := propext Iff.rfl
theorem wLend_eq {ε : Env} {N : Nat} {R : T → Env → Nat → Prop} : wLend i wx ε N R = atIs ε[i]? fun _ => wx (lendE i ε) N fun t ε' N' => t.clean = true ∧ ∃ s, ε' = (lendE i ε).set i (.is s) ∧ s.clean = true ∧ R t (ε.set i (.is s)) N' := propext Iff.rfl
theorem wPlApp_eq {ε : Env} {N : Nat} {R : T → Env → Nat → Prop} : wPlApp i wp wt ε N R = wp ε N fun π N1 => atPl ε i π fun s => isLst s fun ts => wt ε N1 fun x N2 => ts.length ≤ 100000 ∧ R (.sh .none) (putAt ε i π (s.rekid (ts ++ [x]))) N2 := propext Iff.rfl
theorem wPlExt_eq {ε : Env} {N : Nat} {R : T → Env → Nat → Prop} : wPlExt i wp we ε N R = wp ε N fun π N1 => atPl ε i π fun s => isLst s fun ts => we ε N1 fun d N2 => dList d fun ds => ts.length + ds.length ≤ 100000 ∧ R (.sh .none) (putAt ε i π (s.rekid (ts ++ ds.map T.sh))) N2 := propext Iff.rfl
theorem wPlPop_eq {ε : Env} {N : Nat} {R : T → Env → Nat → Prop} : wPlPop i wp we ε N R = wp ε N fun π N1 => atPl ε i π fun s => isLst s fun ts => we ε N1 fun d N2 => dInt d fun k => (0 ≤ k ∧ k ≤ 1000000) ∧ ∃ x, ts[k.toNat]? = some x ∧ R x (putAt ε i π (s.rekid (ts.eraseIdx k.toNat))) N2 := propext Iff.rfl
theorem view_pin {a : Addr} : (Sl.pin a).view = .no := rfl
end
end Cg

set_option Elab.async false
set_option linter.all false
set_option maxRecDepth 100000
set_option maxHeartbeats 1000000
namespace Cg
open PySem PySem.Spec PyProof.Rows L2 Evl
/-! ### own lists put away into another one, their names stay -/
section
variable {c : Base} {b bs cs F A B : List Addr} {σ τ : L2.St} {H H1 H2 H' : Hp} {ε δ : Env} {N N1 N2 N' : Nat} {u v : V} {t s : T} {d : PyData} {i j k : Nat} {π : List Nat}
/-- what a slot owns, taken out -/
theorem Rel.take (r : Rel c bs F σ H ε N) (e : ε[j]? = some (.is t)) : ∃ v F', σ[j]? = some (some v) ∧ Rel c bs F' (σ ++ [some v]) H (ε.set j .no ++ [.is t]) N := by
  obtain ⟨y, A, F1, F2, hx, hr, rfl, q4⟩ := r.env.at e
  cases hr with
  | is hr =>
    rename_i v
    have hA : ∀ a ∈ A, a ∈ F1 ++ (A ++ F2) := fun a ha => List.mem_append_right _ (List.mem_append_left _ ha)
    have env := q4 (cs := bs) (H' := H) (y := some v) (m := .no) (B := []) r.nt (Same.refl _) (fun _ _ _ e => e) .no
    rw [set_same hx] at env
    have sl : (F1 ++ ([] ++ F2)).Sublist (F1 ++ (A ++ F2)) := List.Sublist.append_left (List.Sublist.append_right (List.nil_sublist _) _) _
    obtain ⟨n1, n2, n3⟩ := List.nodup_append.mp r.nd
    obtain ⟨n4, n5, n6⟩ := List.nodup_append.mp n2
    refine ⟨v, _, hx, (r.sub' env sl).pend hr n4 fun a ha => ⟨r.sub a (hA a ha), fun z => ?_, r.off a (hA a ha), r.nb a (hA a ha)⟩⟩
    rcases List.mem_append.mp z with z | z
    · exact n3 a z a (List.mem_append_left _ ha) rfl
    · exact n6 a ha a z rfl
end
section
variable {K : PySem.W.Frag} {i j k : Nat}
/-- x.append((y, z)), y and z own: they are x's from now on, y and z other names of them -/
def wAppMv (i j k : Nat) : WS := fun D ε N => atOwn ε[i]? fun ts => atIs ε[j]? fun tj => atIs ε[k]? fun tk => ts.length ≤ 100000 ∧ ∀ a b, ∃ x y, (tj.nm a).root = some x ∧ (tk.nm b).root = some y ∧
  D.nx (((((ε.set j .no).set k .no).set i (.is (.lst (ts ++ [.tup [tj.nm a, tk.nm b]])))).set j (.pin x)).set k (.pin y)) N
theorem sim_appMv (hij : i ≠ j) (hik : i ≠ k) (hjk : j ≠ k) : SimS (tDrop (tBM K "list" rAppend (tVar i) (tCons (tTup (tCons (tVar j) (tCons (tVar k) tNil))) tNil))) (wAppMv i j k) := fun {c bs F σ H ε N DW D} r w m => by
  obtain ⟨ts, ei, w⟩ := atOwn_some w
  obtain ⟨tj, ej, w⟩ := atIs_some w
  obtain ⟨tk, ek, w⟩ := atIs_some w
  obtain ⟨hlen, w⟩ := w
  have il : i < ε.length := (List.getElem?_eq_some_iff.mp ei).1
  have jl : j < ε.length := (List.getElem?_eq_some_iff.mp ej).1
  have kl : k < ε.length := (List.getElem?_eq_some_iff.mp ek).1
  obtain ⟨v, G1, hv, r1⟩ := r.take ej
  have ek1 : (ε.set j .no ++ [Sl.is tj])[k]? = some (.is tk) := by rw [List.getElem?_append_left (by rw [List.length_set]; exact kl), List.getElem?_set_ne hjk]; exact ek
  obtain ⟨u, G2, hu, r2⟩ := r1.take ek1
  have hu' : σ[k]? = some (some u) := by rw [List.getElem?_append_left (by rw [r.env.len]; exact kl)] at hu; exact hu
  have e1 : (ε.set j .no ++ [Sl.is tj]).set k .no ++ [.is tk] = ((ε.set j .no).set k .no) ++ ([tj, tk].map Sl.is) := by rw [List.set_append_left _ _ (by rw [List.length_set]; exact kl), List.append_assoc]; rfl
  have e2 : (σ ++ [some v]) ++ [some u] = σ ++ [v, u].map some := by rw [List.append_assoc]; rfl
  rw [e1, e2] at r2
  obtain ⟨G, A, r3, hr, nd, hA⟩ := unpends (vs := [v, u]) (ts := [tj, tk]) rfl r2 (by rw [List.length_set, List.length_set]; exact r.env.len)
  -- their names
  have two : ∃ A1 A2, Rep bs H v tj A1 ∧ Rep bs H u tk A2 := by
    cases hr with
    | cons h1 h2 => cases h2 with
      | cons h2 h3 => exact ⟨_, _, h1, h2⟩
  obtain ⟨A1, A2, p1, p2⟩ := two
  obtain ⟨a, na, ra⟩ := p1.named
  obtain ⟨b, nb, rb⟩ := p2.named
  have hr' : RepL bs H [v, u] [tj.nm a, tk.nm b] A := by
    cases hr with
    | cons h1 h2 => cases h2 with
      | cons h2 h3 => exact .cons (na h1) (.cons (nb h2) h3)
  obtain ⟨x, y, ex, ey, hD⟩ := w a b
  have ev := ra x ex
  have eu := rb y ey
  subst ev
  subst eu
  have ei3 : ((ε.set j .no).set k .no)[i]? = some (.is (.lst ts)) := by rw [List.getElem?_set_ne (Ne.symm hik), List.getElem?_set_ne (Ne.symm hij)]; exact ei
  obtain ⟨z, A3, F1, F2, q1, q2, _, _⟩ := r3.env.at ei3
  cases q2 with
  | is q2 =>
    rename_i v0
    obtain ⟨a0, vs0, Ax, e0, k0, _⟩ := r3.lstP q1 ei3 (π := []) rfl rfl (.inl rfl)
    subst e0
    refine ⟨.ref a0, q1, .inl ⟨rfl, vs0, SqL.of k0⟩, ⟨_, hv, _, hu', by show 2 ≤ _; decide, fun p np => ?_⟩⟩
    have ext : Same H (upd H p (.tup [.ref x, .ref y])) := Ex.new np
    have r4 := r3.ext ext
    obtain ⟨a1, vs, A0, e1', k1, hl, nA0, na0, aG, AG, back⟩ := r4.lstP q1 ei3 (π := []) rfl rfl (.inl rfl)
    cases e1'
    have rp : Rep bs (upd H p (.tup [.ref x, .ref y])) (.ref p) (.tup [tj.nm a, tk.nm b]) A := .tup upd_same (hr'.chg r3.nt (same_hid ext) fun z _ o e => ext z o e)
    obtain ⟨F', r5, _⟩ := back (hl.append (RepL.one rp)) (nodup_app nA0 nd fun z hz y => (hA z y).2.1 (AG z hz)) (fun z => (List.mem_append.mp z).elim na0 fun z => (hA a0 z).2.1 aG) (fun z hz => (List.mem_append.mp hz).elim .inl fun y => .inr (hA z y))
    refine ⟨a0, vs, .ref p, rfl, rfl, k1, by rw [hl.len]; exact Nat.lt_of_le_of_lt hlen (by decide), ?_⟩
    have e3 : putAt ((ε.set j .no).set k .no) i [] ((T.lst ts).rekid (ts ++ [.tup [tj.nm a, tk.nm b]])) = ((ε.set j .no).set k .no).set i (.is (.lst (ts ++ [.tup [tj.nm a, tk.nm b]]))) := by unfold putAt; rw [ei3]; rfl
    rw [e3] at r5
    obtain ⟨F6, r6, _⟩ := r5.pinned_slot (j := j) (x := x)
    obtain ⟨F7, r7, _⟩ := r6.pinned_slot (j := k) (x := y)
    rw [set_same hv, set_same hu'] at r7
    exact m.nx r7 hD
/-- a slot's list gets a name -/
def wNm (i : Nat) (ws : WS) : WS := fun D ε N => atIs ε[i]? fun s => ∀ a, ws D (ε.set i (.is (s.nm a))) N
theorem sim_nm {ts : TS} {ws : WS} (h : SimS ts ws) : SimS ts (wNm i ws) := fun {c bs F σ H ε N DW D} r w m => by
  obtain ⟨s, e, w⟩ := atIs_some w
  obtain ⟨v, u, B, k1, k2, k3, _⟩ := r.along (π := []) e rfl
  have k2' : v = u := k2
  subst k2'
  obtain ⟨a, hn, _⟩ := k3.named
  obtain ⟨F', r'⟩ := r.retell k1 e (π := []) rfl rfl hn
  have e3 : putAt ε i [] (s.nm a) = ε.set i (.is (s.nm a)) := by unfold putAt; rw [e]; rfl
  rw [e3] at r'
  exact h r' (w a) m
theorem wAppMv_eq {D : EW} {ε : Env} {N : Nat} : wAppMv i j k D ε N = atOwn ε[i]? fun ts => atIs ε[j]? fun tj => atIs ε[k]? fun tk => ts.length ≤ 100000 ∧ ∀ a b, ∃ x y, (tj.nm a).root = some x ∧ (tk.nm b).root = some y ∧
  D.nx (((((ε.set j .no).set k .no).set i (.is (.lst (ts ++ [.tup [tj.nm a, tk.nm b]])))).set j (.pin x)).set k (.pin y)) N := propext Iff.rfl
theorem wNm_eq {ws : WS} {D : EW} {ε : Env} {N : Nat} : wNm i ws D ε N = atIs ε[i]? fun s => ∀ a, ws D (ε.set i (.is (s.nm a))) N := propext Iff.rfl
end
/-! a list that is walked, its parts changed one by one by an expression: [f(x) for x in xs] -/
section
variable {K : PySem.W.Frag} {i j : Nat} {te : TE} {wx : WX}
end
end Cg

set_option Elab.async false
set_option linter.all false
set_option maxRecDepth 100000
set_option maxHeartbeats 1000000
namespace Cg
open PySem PySem.Spec PyProof.Rows L2 Evl
/-! ### own lists that are walked, their parts changed by other names -/
def T.fg : T → T
  | .lsa _ ts => .lst ts
  | t => t
section
variable {c : Base} {b bs cs F A B : List Addr} {σ τ : L2.St} {H H1 H2 H' : Hp} {ε δ : Env} {N N1 N2 N' : Nat} {u v : V} {t s : T} {d : PyData} {i j k : Nat} {π : List Nat}
theorem Rep.fg (h : Rep bs H v t A) : Rep bs H v t.fg A := by
  cases h with
  | lsa e h => exact .lst e h
  | lst e h => exact .lst e h
  | ins e e2 l h => exact .ins e e2 l h
  | rc e l h => exact .rc e l h
  | sh h => exact .sh h
  | tup e h => exact .tup e h
  | dic e => exact .dic e
theorem RepL.fg : ∀ {vs : List V} {ts : List T} {A : List Addr}, RepL bs H vs ts A → RepL bs H vs (ts.map T.fg) A
  | _, _, _, .nil => .nil
  | _, _, _, .cons h t => .cons h.fg (RepL.fg t)
theorem fg_lst {ts : List T} : (T.lst ts).fg = .lst ts := rfl
theorem fg_lsa {a : Addr} {ts : List T} : (T.lsa a ts).fg = .lst ts := rfl
theorem fg_tup {ts : List T} : (T.tup ts).fg = .tup ts := rfl
theorem fg_ins {a C : Addr} {ns : List Str} {ts : List T} : (T.ins a C ns ts).fg = .ins a C ns ts := rfl
/-- what is bound in a turn -/
abbrev WT1 := Nat → Env → (Env → Prop) → Prop
end
section
variable {K : PySem.W.Frag} {i : Nat} {g : TG} {G : WT1} {ts : TS} {wb : WS}
end
section
variable {K : PySem.W.Frag} {tp : TE} {i : Nat} {wp : WP}
/-- p.clear() -/
def wPlClr (i : Nat) (wp : WP) : WX := fun ε N R => wp ε N fun π N1 => atPl ε i π fun s => isLst s fun _ => R (.sh .none) (putAt ε i π (s.rekid [])) N1
theorem wPlClr_eq {ε : Env} {N : Nat} {R : T → Env → Nat → Prop} : wPlClr i wp ε N R = wp ε N fun π N1 => atPl ε i π fun s => isLst s fun _ => R (.sh .none) (putAt ε i π (s.rekid [])) N1 := propext Iff.rfl
end
end Cg

set_option Elab.async false
set_option linter.all false
set_option maxRecDepth 100000
set_option maxHeartbeats 1000000
namespace Cg
open PySem PySem.Spec PyProof.Rows L2 Evl
/-! ### dict([(k, v), ..]), d.get(k, e) -/
def ipD (p : Int × Int) : PyData := .tuple [.int p.1, .int p.2]
section
variable {K : PySem.W.Frag} {te tf : TE} {we wf : WE} {i : Nat} {hs : List Addr} {H : Hp}
def wDictP (we : WE) : WT := fun ε N R => we ε N fun d N1 => ∃ ps : List (Int × Int), d = .list (ps.map ipD) ∧ (ps.map (·.1)).Nodup ∧ R (.dic ps) N1
def oIntE : Option Int → PyData → PyData
  | some v, _ => .int v
  | none, e => e
def wDGet2 (i : Nat) (we wf : WE) : WE := fun ε N R => atD ε[i]? fun kvs => we ε N fun d N1 => dInt d fun k => wf ε N1 fun e N2 => R (oIntE (valI kvs k) e) N2
theorem wDictP_eq {ε : Env} {N : Nat} {R : T → Nat → Prop} : wDictP we ε N R = we ε N fun d N1 => ∃ ps : List (Int × Int), d = .list (ps.map ipD) ∧ (ps.map (·.1)).Nodup ∧ R (.dic ps) N1 := propext Iff.rfl
theorem wDGet2_eq {ε : Env} {N : Nat} {R : PyData → Nat → Prop} : wDGet2 i we wf ε N R = atD ε[i]? fun kvs => we ε N fun d N1 => dInt d fun k => wf ε N1 fun e N2 => R (oIntE (valI kvs k) e) N2 := propext Iff.rfl
end
/-! any(xs), xs ints -/
section
variable {X : Cx}
def oAnyI : OC
  | [.list ds], S => ∃ ns : List Int, ds = ns.map PyData.int ∧ S (.bool (ns.any fun x => x != 0))
  | _, _ => False
theorem oAnyI_list {ds : List PyData} {S : PyData → Prop} : oAnyI [.list ds] S = (∃ ns : List Int, ds = ns.map PyData.int ∧ S (.bool (ns.any fun x => x != 0))) := rfl
end
end Cg

set_option Elab.async false
set_option linter.all false
set_option maxRecDepth 100000
set_option maxHeartbeats 1000000
namespace Cg
open PySem PySem.Spec PyProof.Rows L2 Evl
/-! ### own things given away to a call: several may be changed there, the giver has them no more -/
section
variable {c : Base} {b bs cs F G A B : List Addr} {σ τ : L2.St} {H H1 H2 H' : Hp} {ε δ : Env} {N N1 N2 N' : Nat} {u v : V} {t s : T} {d : PyData} {i j k : Nat}
theorem Rel.over (r : Rel c bs G σ H ε N) (hA : ∀ a ∈ A, a ∈ bs ∧ a ∉ G ∧ c.P a = none ∧ a ∉ c.bs0) (kp : Keep (A ++ c.b) H H') (bx : ∀ a ∈ c.b, Box H' a N') (c1 : ∀ a ∈ cs, a ∈ bs ∨ H a = none) (c2 : ∀ a ∈ bs, a ∉ A → a ∈ cs) (lv : Live cs H') (nt : NoTup cs H') : Rel c cs G σ H' ε N' := by
  have keep : ∀ a ∈ G, ∀ o, H a = some o → H' a = some o := fun a ha o e => kp.get (fun z => (List.mem_append.mp z).elim (fun z => (hA a z).2.1 ha) fun z => r.fb a ha z) e
  have vis : Same (hid bs H) (hid cs H') := fun a o e => by
    obtain ⟨h1, h2⟩ := hid_some e
    have h3 : a ∉ cs := fun z => (c1 a z).elim h1 fun z => by rw [h2] at z; cases z
    rw [hid_out h3]
    exact kp.get (fun z => (List.mem_append.mp z).elim (fun z => h1 (hA a z).1) fun z => h1 (r.bin a z)) h2
  refine ⟨RelE.chg r.nt vis keep r.env, r.nd, fun a ha => c2 a (r.sub a ha) fun z => (hA a z).2.1 ha, r.off, r.nb, fun a ha => c2 a (r.up a ha) fun z => (hA a z).2.2.2 ha, r.bb, r.offb, lv, nt, bx, fun a o e => ?_, r.vis.trans vis⟩
  refine kp.get (fun z => ?_) (r.pin a o e)
  rcases List.mem_append.mp z with z | z
  · rw [(hA a z).2.2.1] at e; cases e
  · rw [r.offb a z] at e; cases e
def wXTake (j : Nat) : WX := fun ε N R => atIs ε[j]? fun t => R t (ε.set j .no) N
def wXCallM (f : WFX) (nn : Nat) (ws : WXs) : WX := fun ε N R => ws ε N fun ts ε' N' => ts.length = nn ∧ f ts 0 fun ret _ _ => R ret ε' N'
theorem wXTake_eq {R : T → Env → Nat → Prop} : wXTake j ε N R = atIs ε[j]? fun t => R t (ε.set j .no) N := propext Iff.rfl
theorem wXCallM_eq {nn : Nat} {f : WFX} {ws : WXs} {R : T → Env → Nat → Prop} : wXCallM f nn ws ε N R = ws ε N fun ts ε' N' => ts.length = nn ∧ f ts 0 fun ret _ _ => R ret ε' N' := propext Iff.rfl
end
end Cg

set_option Elab.async false
set_option linter.all false
set_option maxRecDepth 100000
set_option maxHeartbeats 1000000
namespace Cg
open PySem PySem.Spec PyProof.Rows L2 Evl
/-! ### own things given to a call and given back: several may be changed -/
def backE : List (Option Nat) → List T → Env → Env
  | some i :: dst, t :: ts, ε => backE dst ts (ε.set i (.is t))
  | none :: dst, _ :: ts, ε => backE dst ts ε
  | _, _, ε => ε
theorem backE_nil {ts : List T} {ε : Env} : backE [] ts ε = ε := rfl
theorem backE_some {i : Nat} {dst : List (Option Nat)} {t : T} {ts : List T} {ε : Env} : backE (some i :: dst) (t :: ts) ε = backE dst ts (ε.set i (.is t)) := rfl
theorem backE_none {dst : List (Option Nat)} {t : T} {ts : List T} {ε : Env} : backE (none :: dst) (t :: ts) ε = backE dst ts ε := rfl
theorem backE_len : ∀ {dst : List (Option Nat)} {ts : List T} {ε : Env}, (backE dst ts ε).length = ε.length
  | [], _, _ => rfl
  | none :: _, [], _ => rfl
  | some _ :: _, [], _ => rfl
  | none :: dst, _ :: ts, ε => backE_len (dst := dst) (ts := ts)
  | some i :: dst, t :: ts, ε => by
    show (backE dst ts (ε.set i (.is t))).length = _
    rw [backE_len, List.length_set]
theorem backE_app : ∀ {dst : List (Option Nat)} {ts : List T} {ε δ : Env}, (∀ j i : Nat, dst[j]? = some (some i) → i < ε.length) → backE dst ts (ε ++ δ) = backE dst ts ε ++ δ
  | [], _, _, _, _ => rfl
  | none :: _, [], _, _, _ => rfl
  | some _ :: _, [], _, _, _ => rfl
  | none :: dst, _ :: ts, ε, δ, h => backE_app (dst := dst) (ts := ts) fun j i e => h (j + 1) i e
  | some i :: dst, t :: ts, ε, δ, h => by
    show backE dst ts ((ε ++ δ).set i (.is t)) = backE dst ts (ε.set i (.is t)) ++ δ
    rw [List.set_append_left _ _ (h 0 i rfl), backE_app fun j k e => by rw [List.length_set]; exact h (j + 1) k e]
section
variable {c : Base} {b bs cs F G A B : List Addr} {σ τ : L2.St} {H H1 H2 H' : Hp} {ε δ : Env} {N N1 N2 N' : Nat} {u v : V} {t s : T} {d : PyData} {i j k : Nat}
theorem Rel.backs : ∀ {dst : List (Option Nat)} {vs : List V} {ts : List T} {A F : List Addr} {ε : Env}, Rel c bs F σ H ε N → RepL bs H vs ts A → A.Nodup → (∀ a ∈ A, a ∈ bs ∧ a ∉ F ∧ c.P a = none ∧ a ∉ c.bs0) → (∀ j i : Nat, dst[j]? = some (some i) → ∃ v : V, vs[j]? = some v ∧ σ[i]? = some (some v)) → ∃ F', Rel c bs F' σ H (backE dst ts ε) N ∧ ∀ a ∈ F', a ∈ F ∨ a ∈ A
  | [], _, _, _, F, _, r, _, _, _, _ => ⟨F, r, fun a ha => .inl ha⟩
  | none :: _, _, _, _, F, _, r, .nil, _, _, _ => ⟨F, r, fun a ha => .inl ha⟩
  | some _ :: _, _, _, _, F, _, r, .nil, _, _, _ => ⟨F, r, fun a ha => .inl ha⟩
  | none :: dst, _, _, _, F, _, r, .cons (A := A1) (B := A2) h1 k1, nd, hA, hd => by
    obtain ⟨n1, n2, n3⟩ := List.nodup_append.mp nd
    obtain ⟨F', r', m⟩ := Rel.backs (dst := dst) r k1 n2 (fun a ha => hA a (List.mem_append_right _ ha)) fun j i e => hd (j + 1) i e
    exact ⟨F', r', fun a ha => (m a ha).imp id fun z => List.mem_append_right _ z⟩
  | some i :: dst, _, _, _, F, _, r, .cons (v := v) (A := A1) (B := A2) h1 k1, nd, hA, hd => by
    obtain ⟨n1, n2, n3⟩ := List.nodup_append.mp nd
    obtain ⟨F1, r2, m2⟩ := r.put (i := i) h1 n1 fun a ha => hA a (List.mem_append_left _ ha)
    obtain ⟨v', e1, e2⟩ := hd 0 i rfl
    have ev : v = v' := Option.some.inj e1
    subst ev
    rw [set_same e2] at r2
    obtain ⟨F', r', m⟩ := Rel.backs (dst := dst) r2 k1 n2 (fun a ha => by
      obtain ⟨f1, f2, f3⟩ := hA a (List.mem_append_right _ ha)
      refine ⟨f1, fun z => ?_, f3⟩
      rcases m2 a z with z | z
      · exact f2 z
      · exact n3 a z a ha rfl) fun j i e => hd (j + 1) i e
    refine ⟨F', r', fun a ha => ?_⟩
    rcases m a ha with z | z
    · exact (m2 a z).imp id fun y => List.mem_append_left _ y
    · exact .inr (List.mem_append_right _ z)
/-- arguments of which some are own things taken out of their slots -/
def SimXA (te : TA) (dst : List (Option Nat)) (wx : WXs) : Prop := ∀ {c : Base} {bs F : List Addr} {σ τ : L2.St} {H : Hp} {ε δ : Env} {N : Nat} {R : List T → Env → Nat → Prop} {Q : List V → Hp → Prop}, σ.length = ε.length → Rel c bs F (σ ++ τ) H (ε ++ δ) N → wx ε N R →
  (∀ vs ts ε' N' bs' F' H', R ts ε' N' → ε'.length = ε.length → vs.length = ts.length → (∀ j i : Nat, dst[j]? = some (some i) → i < σ.length ∧ ∃ v : V, vs[j]? = some v ∧ σ[i]? = some (some v)) → Rel c bs' F' ((σ ++ τ) ++ vs.map some) H' ((ε' ++ δ) ++ ts.map Sl.is) N' → Q vs H') → te σ H Q
theorem sim_xaN : SimXA tNil [] wXNil := fun {c bs F σ τ H ε δ N R Q} hl r w q => q [] [] ε N bs F H w rfl rfl (fun _ _ e => by cases e) (by simpa using r)
theorem xa_cons {vs : List V} {ts : List T} {ε1 ε2 : Env} {F2 bs2 : List Addr} (r2 : Rel c bs2 F2 ((σ ++ (τ ++ [some v])) ++ vs.map some) H2 ((ε2 ++ (δ ++ [.is t])) ++ ts.map Sl.is) N2) : Rel c bs2 F2 ((σ ++ τ) ++ (v :: vs).map some) H2 ((ε2 ++ δ) ++ (t :: ts).map Sl.is) N2 := by
  have e1 : (σ ++ τ) ++ (v :: vs).map some = (σ ++ (τ ++ [some v])) ++ vs.map some := by simp
  have e2 : (ε2 ++ δ) ++ (t :: ts).map Sl.is = (ε2 ++ (δ ++ [.is t])) ++ ts.map Sl.is := by simp
  rw [e1, e2]
  exact r2
theorem sim_xaD {te : TE} {tas : TA} {wx : WX} {ws : WXs} {dst : List (Option Nat)} (h : SimX te wx) (k : SimXA tas dst ws) : SimXA (tCons te tas) (none :: dst) (wXCons wx ws) := fun {c bs F σ τ H ε δ N R Q} hl r w q => by
  refine h hl r w fun v t ε1 N1 bs1 F1 H1 w1 l1 r1 => ?_
  have r1' : Rel c bs1 F1 (σ ++ (τ ++ [some v])) H1 (ε1 ++ (δ ++ [.is t])) N1 := by rw [← List.append_assoc, ← List.append_assoc]; exact r1
  refine k (hl.trans l1.symm) r1' w1 fun vs ts ε2 N2 bs2 F2 H2 w2 l2 lv hd r2 => ?_
  refine q (v :: vs) (t :: ts) ε2 N2 bs2 F2 H2 w2 (l2.trans l1) (by rw [List.length_cons, List.length_cons, lv]) (fun j i e => ?_) (xa_cons (ε1 := ε1) r2)
  cases j with
  | zero => cases e
  | succ j => exact hd j i e
theorem sim_xaT {tas : TA} {ws : WXs} {dst : List (Option Nat)} (k : SimXA tas dst ws) : SimXA (tCons (tVar j) tas) (some j :: dst) (wXCons (wXTake j) ws) := fun {c bs F σ τ H ε δ N R Q} hl r w q => by
  obtain ⟨t, et, w⟩ := atIs_some w
  have il : j < ε.length := (List.getElem?_eq_some_iff.mp et).1
  have et' : (ε ++ δ)[j]? = some (.is t) := by rw [List.getElem?_append_left il]; exact et
  obtain ⟨v, F', hv, r'⟩ := r.take et'
  rw [List.getElem?_append_left (hl ▸ il)] at hv
  have e2 : (ε ++ δ).set j .no = ε.set j .no ++ δ := by rw [List.set_append_left _ _ il]
  rw [e2] at r'
  refine ⟨v, hv, ?_⟩
  have r1' : Rel c bs F' (σ ++ (τ ++ [some v])) H (ε.set j .no ++ (δ ++ [.is t])) N := by rw [← List.append_assoc, ← List.append_assoc]; exact r'
  refine k (by rw [List.length_set]; exact hl) r1' w fun vs ts ε2 N2 bs2 F2 H2 w2 l2 lv hd r2 => ?_
  refine q (v :: vs) (t :: ts) ε2 N2 bs2 F2 H2 w2 (l2.trans (by rw [List.length_set])) (by rw [List.length_cons, List.length_cons, lv]) (fun k i e => ?_) (xa_cons (ε1 := ε) r2)
  cases k with
  | zero =>
    have e' : j = i := Option.some.inj (Option.some.inj e)
    subst e'
    exact ⟨hl ▸ il, v, rfl, hv⟩
  | succ k => exact hd k i e
def wXCallR (f : WFX) (nn : Nat) (dst : List (Option Nat)) (ws : WXs) : WX := fun ε N R => ws ε N fun ts ε' N' => ts.length = nn ∧ f ts 0 fun ret os _ => R ret (backE dst os ε') N'
def wXCallRB (jb : Nat) (f : WFX) (nn : Nat) (dst : List (Option Nat)) (ws : WXs) : WX := fun ε N R => isBox ε jb = true ∧ ws ε N fun ts ε' N' => ts.length = nn ∧ f ts N' fun ret os N2 => R ret (backE dst os ε') N2
theorem wXCallR_eq {nn : Nat} {f : WFX} {dst : List (Option Nat)} {ws : WXs} {R : T → Env → Nat → Prop} : wXCallR f nn dst ws ε N R = ws ε N fun ts ε' N' => ts.length = nn ∧ f ts 0 fun ret os _ => R ret (backE dst os ε') N' := propext Iff.rfl
theorem wXCallRB_eq {nn jb : Nat} {f : WFX} {dst : List (Option Nat)} {ws : WXs} {R : T → Env → Nat → Prop} : wXCallRB jb f nn dst ws ε N R = (isBox ε jb = true ∧ ws ε N fun ts ε' N' => ts.length = nn ∧ f ts N' fun ret os N2 => R ret (backE dst os ε') N2) := propext Iff.rfl
end
end Cg

set_option Elab.async false
set_option linter.all false
set_option maxRecDepth 100000
set_option maxHeartbeats 1000000
namespace Cg
open PySem PySem.Spec PyProof.Rows L2 Evl
/-! ### p[k], y = e, f: two data, one to a place, one to a name -/
section
variable {ta tb tk te : TE} {wa wb wk : WE} {tp : TE} {wp : WP} {i j : Nat}
def wSetPlN (i : Nat) (wp : WP) (wk wa : WE) (j : Nat) (wb : WE) : WS := fun D ε N => wa ε N fun d N1 => wb ε N1 fun e N2 => wp ε N2 fun π N3 => wk ε N3 fun dk N4 => dInt dk fun jj => atPl ε i π fun s => isLst s fun ts => ∃ n, ixN ts.length jj = some n ∧ D.nx ((putAt ε i π (s.rekid (ts.set n (.sh d)))).set j (.is (.sh e))) N4
theorem wSetPlN_eq {D : EW} {ε : Env} {N : Nat} : wSetPlN i wp wk wa j wb D ε N = wa ε N fun d N1 => wb ε N1 fun e N2 => wp ε N2 fun π N3 => wk ε N3 fun dk N4 => dInt dk fun jj => atPl ε i π fun s => isLst s fun ts => ∃ n, ixN ts.length jj = some n ∧ D.nx ((putAt ε i π (s.rekid (ts.set n (.sh d)))).set j (.is (.sh e))) N4 := propext Iff.rfl
/-- x, y = p, e: x another name of what stands at p, y data -/
def wParAl (j1 i : Nat) (wp : WP) (j2 : Nat) (we : WE) : WS := fun D ε N => wp ε N fun π N1 => we ε N1 fun d N2 => atPl ε i π fun s => ∀ a, ∃ x, (s.nm a).root = some x ∧ D.nx (((putAt ε i π (s.nm a)).set j1 (.pin x)).set j2 (.is (.sh d))) N2
theorem wParAl_eq {D : EW} {ε : Env} {N j1 j2 : Nat} {we : WE} : wParAl j1 i wp j2 we D ε N = wp ε N fun π N1 => we ε N1 fun d N2 => atPl ε i π fun s => ∀ a, ∃ x, (s.nm a).root = some x ∧ D.nx (((putAt ε i π (s.nm a)).set j1 (.pin x)).set j2 (.is (.sh d))) N2 := propext Iff.rfl
end
/-! ### the least of three -/
def min3I (i j k : Int) : Int := if k < (if j < i then j else i) then k else (if j < i then j else i)
def oMin3 : OC
  | [.int i, .int j, .int k], S => S (.int (min3I i j k))
  | _, _ => False
theorem oMin3_int {i j k : Int} {S : PyData → Prop} : oMin3 [.int i, .int j, .int k] S = S (.int (min3I i j k)) := propext Iff.rfl
end Cg
namespace Cg
open PySem PySem.Spec PyProof.Rows L2 Evl
end Cg

set_option Elab.async false
set_option linter.all false
set_option maxRecDepth 100000
set_option maxHeartbeats 1000000
namespace L2
open PySem PySem.Spec PyProof.Rows
section
variable {X : Cx} {CX : CXT} {k : Nat} {f C : Addr} {fd : FuncData} {ps : List Str} {sp : Sp} {E : XK}
end
end L2
namespace L2
open PySem PySem.Spec PyProof.Rows
/-- those at these places, in this order -/
def pick {α : Type} (idx : List Nat) (xs : List α) : List α := idx.filterMap fun k => xs[k]?
end L2
namespace Cg
open PySem PySem.Spec PyProof.Rows L2 Evl
end Cg
namespace Cg
open PySem PySem.Spec PyProof.Rows L2 Evl
section
variable {K : PySem.W.Frag} {te tp ta tb : TE} {we wa wb : WE} {wt : WT} {wx : WX} {C : Addr} {ns : List Str} {f m : Str} {k i : Nat} {wp : WP}
def wLenI (C : Addr) (ns : List Str) (f : WF) (we : WE) : WE := fun ε N R => we ε N fun d N1 => (∃ rs, d = recD (.int (C : Int)) ns rs) ∧ f [d] 0 fun t _ => ∃ n : Nat, t = .sh (.int (n : Int)) ∧ n ≤ 1000000 ∧ R (.int (n : Int)) N1
theorem wLenI_eq {w : WF} {ε : Env} {N : Nat} {R : PyData → Nat → Prop} : wLenI C ns w we ε N R = we ε N fun d N1 => (∃ rs, d = recD (.int (C : Int)) ns rs) ∧ w [d] 0 fun t _ => ∃ n : Nat, t = .sh (.int (n : Int)) ∧ n ≤ 1000000 ∧ R (.int (n : Int)) N1 := propext Iff.rfl
/-- p.f += e, two ints -/
def wFAug (i : Nat) (C : Addr) (ns : List Str) (k : Nat) (wp : WP) (we : WE) : WS := fun D ε N => wp ε N fun π N1 => atPl ε i π fun s => ∃ a ts x, s = .ins a C ns ts ∧ ts[k]? = some (.sh (.int x)) ∧ we ε N1 fun e N2 => dInt e fun y => D.nx (putAt ε i π (.ins a C ns (ts.set k (.sh (.int (x + y)))))) N2
theorem wFAug_eq {D : EW} {ε : Env} {N : Nat} : wFAug i C ns k wp we D ε N = wp ε N fun π N1 => atPl ε i π fun s => ∃ a ts x, s = .ins a C ns ts ∧ ts[k]? = some (.sh (.int x)) ∧ we ε N1 fun e N2 => dInt e fun y => D.nx (putAt ε i π (.ins a C ns (ts.set k (.sh (.int (x + y)))))) N2 := propext Iff.rfl
/-- x.append(e), e changes slots -/
def wAppX (i : Nat) (wx : WX) : WS := fun D ε N => atOwn ε[i]? fun _ => wx ε N fun t ε1 N1 => shT t fun d => atOwn ε1[i]? fun ts => ts.length ≤ 100000 ∧ D.nx (ε1.set i (.is (.lst (ts ++ [.sh d])))) N1
theorem wAppX_eq {D : EW} {ε : Env} {N : Nat} : wAppX i wx D ε N = atOwn ε[i]? fun _ => wx ε N fun t ε1 N1 => shT t fun d => atOwn ε1[i]? fun ts => ts.length ≤ 100000 ∧ D.nx (ε1.set i (.is (.lst (ts ++ [.sh d])))) N1 := propext Iff.rfl
/-- list(range(a, b)) -/
def wRgL2 (wa wb : WE) : WT := fun ε N R => wa ε N fun d N1 => wb ε N1 fun e N2 => dInt d fun a => dInt e fun b => (0 ≤ a ∧ a ≤ b ∧ b ≤ 100000) ∧ R (.lst ((List.range (b - a).toNat).map fun k : Nat => T.sh (.int (a + (k : Int))))) N2
theorem wRgL2_eq {ε : Env} {N : Nat} {R : T → Nat → Prop} : wRgL2 wa wb ε N R = wa ε N fun d N1 => wb ε N1 fun e N2 => dInt d fun a => dInt e fun b => (0 ≤ a ∧ a ≤ b ∧ b ≤ 100000) ∧ R (.lst ((List.range (b - a).toNat).map fun k : Nat => T.sh (.int (a + (k : Int))))) N2 := propext Iff.rfl
end
end Cg

set_option Elab.async false
set_option linter.all false
set_option maxRecDepth 100000
set_option maxHeartbeats 1000000
namespace Cg
open PySem PySem.Spec PyProof.Rows L2 Evl
/-! ### a def that is given some of its arguments: they may be bound anew there, and nothing of them comes back (0 data, 1 changed and given back, 2 given) -/
def kept {α : Type} : List Nat → List α → List α
  | 2 :: md, _ :: us => kept md us
  | _ :: md, u :: us => u :: kept md us
  | _, _ => []
def outG : List Nat → List T → Env → (List T → Prop) → Prop
  | [], [], _, k => k []
  | 0 :: md, .sh d :: ts, _ :: ε, k => outG md ts ε fun os => k (.sh d :: os)
  | 1 :: md, t :: ts, .is t' :: ε, k => t'.root = t.root ∧ t.root ≠ none ∧ outG md ts ε fun os => k (t' :: os)
  | 2 :: md, _ :: ts, _ :: ε, k => outG md ts ε k
  | _, _, _, _ => False
def EW.fnG (bx : Bool) (md : List Nat) (ts : List T) (R : T → List T → Nat → Prop) : EW :=
  ⟨fun ε N => dropB bx ε fun ε' => outG md ts ε' fun os => R (.sh .none) os N, fun _ _ => False, fun _ _ => False, fun _ _ => False, fun t ε N => dropB bx ε fun ε' => outG md ts ε' fun os => R t os N⟩
def wFnG (bx : Bool) (md : List Nat) (k : Nat) (ws : WS) : WFX := fun ts N R => ts.length = md.length ∧ ws (EW.fnG bx md ts R) (envX bx ts k) N
def spG (bx : Bool) (n : Nat) (md : List Nat) (w : WFX) : Sp := fun vs H Q _ => ∃ (b bs A : List Addr) (us : List V) (ts : List T) (N : Nat) (R : T → List T → Nat → Prop), vs = b.map V.ref ++ us ∧ b.length = (if bx then 1 else 0) ∧ us.length = n ∧ (∀ a ∈ b, a ∈ bs) ∧ Live bs H ∧ NoTup bs H ∧ (∀ a ∈ b, Box H a N) ∧
  RepL bs H us ts A ∧ A.Nodup ∧ (∀ a ∈ A, a ∈ bs ∧ a ∉ b) ∧ w ts N R ∧
  ∀ v t os At Ao cs N' H', R t os N' → Keep (A ++ b) H H' → (∀ a ∈ b, Box H' a N') → Rep cs H' v t At → RepL cs H' (kept md us) os Ao → (At ++ Ao).Nodup → (∀ a ∈ At ++ Ao, a ∈ cs ∧ (a ∈ A ∨ H a = none)) →
    (∀ a ∈ cs, a ∈ bs ∨ H a = none) → (∀ a ∈ bs, a ∉ A → a ∈ cs) → Live cs H' → NoTup cs H' → Q v H'
theorem spG_len {bx : Bool} {n : Nat} {md : List Nat} {w : WFX} {vs : List V} {H : Hp} {Q : VK} {E : XK} (h : spG bx n md w vs H Q E) : vs.length = (if bx then 1 else 0) + n := by
  obtain ⟨b, bs, A, us, ts, N, R, rfl, hb, hu, _⟩ := h
  rw [List.length_append, List.length_map, hb, hu]
section
variable {c : Base} {b bs cs F G A B : List Addr} {σ τ : L2.St} {H H1 H2 H' : Hp} {ε δ : Env} {N N1 N2 N' : Nat} {u v : V} {t s : T} {d : PyData} {ts : TS} {ws : WS}
theorem kept_hd : ∀ {md : List Nat} {dst : List (Option Nat)} {vs : List V}, (∀ j i : Nat, dst[j]? = some (some i) → i < σ.length ∧ ∃ v : V, vs[j]? = some v ∧ σ[i]? = some (some v)) → ∀ j i : Nat, (kept md dst)[j]? = some (some i) → i < σ.length ∧ ∃ v : V, (kept md vs)[j]? = some v ∧ σ[i]? = some (some v)
  | [], _, _, _ => fun j i e => by cases e
  | m :: md, [], _, _ => fun j i e => by rcases m with _ | _ | _ | m <;> cases e
  | m :: md, x :: dst, [], h => fun j i e => by
    have h' := kept_hd (md := md) (dst := dst) (vs := []) fun j i e => h (j + 1) i e
    have h0 : ∀ i, x = some i → False := fun i e => by
      obtain ⟨_, v, z, _⟩ := h 0 i (by rw [e]; rfl)
      cases z
    have nil : ∀ {md : List Nat}, kept md ([] : List V) = [] := fun {md} => by rcases md with _ | ⟨_ | _ | _ | m, md⟩ <;> rfl
    have go : ∀ j : Nat, (x :: kept md dst)[j]? = some (some i) → i < σ.length ∧ ∃ v : V, (kept (m :: md) ([] : List V))[j]? = some v ∧ σ[i]? = some (some v) := fun j e => by
      cases j with
      | zero => exact (h0 i (Option.some.inj e)).elim
      | succ j =>
        obtain ⟨_, v, z, _⟩ := h' j i e
        rw [nil] at z
        cases z
    rcases m with _ | _ | _ | m
    · exact go j e
    · exact go j e
    · obtain ⟨z1, v, z, z2⟩ := h' j i e
      rw [nil] at z
      cases z
    · exact go j e
  | m :: md, x :: dst, y :: vs, h => fun j i e => by
    have h' := kept_hd (md := md) (dst := dst) (vs := vs) fun j i e => h (j + 1) i e
    have go : ∀ j : Nat, (x :: kept md dst)[j]? = some (some i) → i < σ.length ∧ ∃ v : V, (y :: kept md vs)[j]? = some v ∧ σ[i]? = some (some v) := fun j e => by
      cases j with
      | zero => exact h 0 i e
      | succ j => exact h' j i e
    rcases m with _ | _ | _ | m
    · exact go j e
    · exact go j e
    · exact h' j i e
    · exact go j e
theorem outsG_rep {bs' : List Addr} (vis : Same (hid bs H) (hid bs' H')) : ∀ {md : List Nat} {ts : List T} {us : List V} {A F : List Addr} {σ : L2.St} {ε : Env} {k : List T → Prop}, RepL bs H us ts A → RelE b bs' H' σ ε F → outG md ts ε k → ∃ os Ao, k os ∧ RepL bs' H' (kept md us) os Ao ∧ Ao.Sublist F := fun {md} => by
  induction md with
  | nil =>
    intro ts us A F σ ε k hr he ho
    cases ts with
    | nil =>
      cases hr
      exact ⟨[], [], ho, .nil, List.nil_sublist _⟩
    | cons t ts => exact ho.elim
  | cons m md ih =>
    intro ts us A F σ ε k hr he ho
    cases hr with
    | nil => rcases m with _ | _ | _ | m <;> exact ho.elim
    | cons h1 h2 =>
      rename_i v vs t ts A1 A2
      cases ε with
      | nil => rcases m with _ | _ | _ | m <;> cases t <;> exact ho.elim
      | cons l ε =>
        obtain ⟨x, σ', A3, G, rfl, rfl, hl, he'⟩ := he.uncons
        rcases m with _ | _ | _ | m
        · cases t <;> first | exact ho.elim | skip
          rename_i d
          obtain ⟨os, Ao, p1, p2, p3⟩ := ih h2 he' ho
          cases h1 with
          | sh hd => exact ⟨.sh d :: os, Ao, p1, RepL.cons (A := []) (.sh (hd.mono vis)) p2, p3.trans (List.sublist_append_right ..)⟩
        · have ho' : ∃ t', l = .is t' ∧ t'.root = t.root ∧ t.root ≠ none ∧ outG md ts ε fun os => k (t' :: os) := by
            cases l with
            | is t' => exact ⟨t', rfl, ho⟩
            | _ => exact ho.elim
          obtain ⟨t', rfl, e1, e2, ho'⟩ := ho'
          cases hl with
          | is hl =>
            rename_i v'
            obtain ⟨os, Ao, p1, p2, p3⟩ := ih h2 he' ho'
            cases er : t.root with
            | none => exact (e2 er).elim
            | some a =>
              have ev : v' = v := (hl.root (e1.trans er)).trans (h1.root er).symm
              subst ev
              exact ⟨t' :: os, A3 ++ Ao, p1, .cons hl p2, List.Sublist.append (List.Sublist.refl _) p3⟩
        · obtain ⟨os, Ao, p1, p2, p3⟩ := ih h2 he' ho
          exact ⟨os, Ao, p1, p2, p3.trans (List.sublist_append_right ..)⟩
        · cases t <;> exact ho.elim
theorem run_g {bx : Bool} {md : List Nat} {k : Nat} {Nm : List Str} {vs : List V} {Q : VK} {E : XK} (h : SimS ts ws) (hN : Nm.length = (if bx then 1 else 0) + md.length + k) (sp : spG bx md.length md (wFnG bx md k ws) vs H Q E) : ts { nx := fun _ H' => Q .non H', rt := Q } (L2.start Nm vs) H := by
  have hl := spG_len sp
  obtain ⟨b, bs, A, us, tys, N, R, rfl, hb, hu, hsub, lv, nt, bx', hr, nA, hA, ⟨_, hw⟩, q⟩ := sp
  have es : L2.start Nm (b.map V.ref ++ us) = ((b.map V.ref ++ us).map some) ++ List.replicate k none := by
    unfold L2.start
    rw [hl, hN]
    congr 2
    omega
  rw [es]
  let bs0 := bs.filter fun a => !decide (a ∈ A)
  have h0 : ∀ a, a ∈ bs0 ↔ a ∈ bs ∧ a ∉ A := fun a => by
    show a ∈ bs.filter _ ↔ _
    rw [List.mem_filter]
    simp
  let c : Base := ⟨b, bs0, hid (A ++ b) H, hid bs H⟩
  have r : Rel c bs A (((b.map V.ref ++ us).map some) ++ List.replicate k none) H (envX bx tys k) N := ⟨envX_start hb hr k, nA, fun a ha => (hA a ha).1, fun a ha => hid_in (List.mem_append_left _ ha), fun a ha z => ((h0 a).mp z).2 ha, fun a ha => ((h0 a).mp ha).1, fun a ha => (h0 a).mpr ⟨hsub a ha, fun z => (hA a z).2 ha⟩, fun a ha => hid_in (List.mem_append_right _ ha), lv, nt, bx', hid_same, Same.refl _⟩
  have ret : ∀ {bs' F' At : List Addr} {σ' : L2.St} {H' : Hp} {ε' : Env} {M : Nat} {v : V} {t : T}, Rel c bs' F' σ' H' ε' M → Rep bs' H' v t At → At.Nodup → (∀ a ∈ At, a ∈ bs' ∧ a ∉ F' ∧ c.P a = none ∧ a ∉ c.bs0) → (dropB bx ε' fun ε2 => outG md tys ε2 fun os => R t os M) → Q v H' := fun {bs' F' At σ' H' ε' M v t} r2 hv nv hAt ho => by
    have vis : Same (hid bs H) (hid bs' H') := r2.vis
    have hout : ∃ os Ao, R t os M ∧ RepL bs' H' (kept md us) os Ao ∧ Ao.Sublist F' := by
      cases bx with
      | false => exact outsG_rep vis hr r2.env ho
      | true =>
        cases ε' with
        | nil => exact ho.elim
        | cons l ε2 =>
          obtain ⟨x, σ2, A3, G, _, rfl, _, he⟩ := r2.env.uncons
          obtain ⟨os, Ao, p1, p2, p3⟩ := outsG_rep vis hr he ho
          exact ⟨os, Ao, p1, p2, p3.trans (List.sublist_append_right ..)⟩
    obtain ⟨os, Ao, p1, p2, p3⟩ := hout
    have kp : Keep (A ++ b) H H' := fun a o e => by
      obtain ⟨h1, h2⟩ := hid_some e
      rw [hid_out h1]
      exact r2.pin a o e
    have fact : ∀ a ∈ At ++ Ao, a ∈ bs' ∧ c.P a = none ∧ a ∉ bs0 := fun a ha => by
      rcases List.mem_append.mp ha with z | z
      · exact ⟨(hAt a z).1, (hAt a z).2.2.1, (hAt a z).2.2.2⟩
      · exact ⟨r2.sub a (p3.subset z), r2.off a (p3.subset z), r2.nb a (p3.subset z)⟩
    have old : ∀ a ∈ At ++ Ao, a ∈ A ∨ H a = none := fun a ha => by
      by_cases hx : a ∈ A
      · exact .inl hx
      · obtain ⟨_, f2, f3⟩ := fact a ha
        have hn : a ∉ A ++ b := fun z => (List.mem_append.mp z).elim hx fun z => f3 ((h0 a).mpr ⟨hsub a z, hx⟩)
        have f2' : hid (A ++ b) H a = none := f2
        rw [hid_out hn] at f2'
        exact .inr f2'
    let cs := bs0 ++ (At ++ Ao)
    have hcs : ∀ a ∈ cs, a ∈ bs' := fun a ha => (List.mem_append.mp ha).elim (fun z => r2.up a z) fun z => (fact a z).1
    refine q v t os At Ao cs M H' p1 kp r2.box (hv.perm r2.nt hcs) (p2.perm r2.nt hcs) (nodup_app nv (r2.nd.sublist p3) fun a ha z => (hAt a ha).2.1 (p3.subset z)) (fun a ha => ⟨List.mem_append_right _ ha, old a ha⟩) (fun a ha => ?_) (fun a ha hx => List.mem_append_left _ ((h0 a).mpr ⟨ha, hx⟩)) (fun a ha => r2.live a (hcs a ha)) (fun a ha => r2.nt a (hcs a ha))
    rcases List.mem_append.mp ha with z | z
    · exact .inl ((h0 a).mp z).1
    · exact (old a z).imp (fun y => (hA a y).1) id
  exact h r hw ⟨fun r2 w2 => ret (At := []) r2 (.sh .non) List.nodup_nil (fun _ z => nomatch z) w2, fun _ w2 => w2.elim, fun _ w2 => w2.elim, fun _ w2 => w2.elim, fun r2 hv nv hA w2 => ret r2 hv nv hA w2⟩
end
section
variable {c : Base} {b bs cs F G A B : List Addr} {σ τ : L2.St} {H H1 H2 H' : Hp} {ε δ : Env} {N N1 N2 N' : Nat} {u v : V} {t s : T} {d : PyData} {i j k : Nat}
theorem callG_core {vs : List V} {ts : List T} {ε' : Env} {dst : List (Option Nat)} {bs' F' : List Addr} {bx : Bool} {nn : Nat} {md : List Nat} {f : WFX} {R : T → Env → Nat → Prop} {Q : VK} (r' : Rel c bs' F' ((σ ++ τ) ++ vs.map some) H' ((ε' ++ δ) ++ ts.map Sl.is) N') (lv : vs.length = ts.length) (hs : σ.length = ε'.length) (hl : (σ ++ τ).length = (ε' ++ δ).length)
    (hd : ∀ j i : Nat, dst[j]? = some (some i) → i < σ.length ∧ ∃ v : V, vs[j]? = some v ∧ σ[i]? = some (some v)) (hb : (boxOf c bx).length = if bx then 1 else 0) (hn : ts.length = nn)
    (w : f ts (if bx then N' else 0) fun ret os N2 => R ret (backE (kept md dst) os ε') (if bx then N2 else N'))
    (q : ∀ v t ε2 N2 bs2 F2 H2, R t ε2 N2 → ε2.length = ε'.length → Rel c bs2 F2 ((σ ++ τ) ++ [some v]) H2 ((ε2 ++ δ) ++ [.is t]) N2 → Q v H2) : spG bx nn md f ((boxOf c bx).map V.ref ++ vs) H' Q E0 := by
  have hd2 := kept_hd (md := md) hd
  obtain ⟨G, A, rG, rep, nA, hA⟩ := unpends lv r' hl
  have bB : ∀ a ∈ boxOf c bx, a ∈ c.b := fun a ha => by
    unfold boxOf at ha
    split at ha
    · exact ha
    · cases ha
  refine ⟨boxOf c bx, bs', A, vs, ts, _, _, rfl, hb, lv.trans hn, fun a ha => r'.bin a (bB a ha), r'.live, r'.nt, fun a ha => ?_, rep, nA, fun a ha => ⟨(hA a ha).1, fun z => (hA a ha).2.2.2 (r'.bb a (bB a z))⟩, w, ?_⟩
  · cases bx with
    | true => exact r'.box a (bB a ha)
    | false => cases ha
  intro v t os At Ao cs N2 H2 hR kp bx' rt ro nd hAA c1 c2 lv2 nt
  have kp' : Keep (A ++ c.b) H' H2 := kp.more fun a ha => (List.mem_append.mp ha).elim (List.mem_append_left _) fun z => List.mem_append_right _ (bB a z)
  have bx2 : ∀ a ∈ c.b, Box H2 a (if bx then N2 else N') := fun a ha => by
    cases bx with
    | true => exact bx' a ha
    | false =>
      obtain ⟨x, y, z, e, rest⟩ := r'.box a ha
      exact ⟨x, y, z, kp.get (fun z => (List.mem_append.mp z).elim (fun z => (hA a z).2.2.2 (r'.bb a ha)) fun z => nomatch z) e, rest⟩
  obtain ⟨n1, n2, n3⟩ := List.nodup_append.mp nd
  have fact : ∀ a ∈ At ++ Ao, a ∈ cs ∧ a ∉ G ∧ c.P a = none ∧ a ∉ c.bs0 := fun a ha => by
    obtain ⟨f1, f2⟩ := hAA a ha
    rcases f2 with f2 | f2
    · exact ⟨f1, (hA a f2).2.1, (hA a f2).2.2.1, (hA a f2).2.2.2⟩
    · exact ⟨f1, fun z => rG.live a (rG.sub a z) f2, pin_none rG f2, fun z => rG.live a (rG.up a z) f2⟩
  obtain ⟨F2, r2, m2⟩ := (rG.over hA kp' bx2 c1 c2 lv2 nt).backs (dst := kept md dst) ro n2 (fun a ha => fact a (List.mem_append_right _ ha)) fun j i e => by
    obtain ⟨h1, v, h2, h3⟩ := hd2 j i e
    exact ⟨v, h2, by rw [List.getElem?_append_left h1]; exact h3⟩
  rw [backE_app fun j i e => hs ▸ (hd2 j i e).1] at r2
  refine q v t _ _ cs _ H2 hR backE_len (r2.pend rt n1 fun a ha => ?_)
  obtain ⟨f1, f2, f3⟩ := fact a (List.mem_append_left _ ha)
  refine ⟨f1, fun z => ?_, f3⟩
  rcases m2 a z with z | z
  · exact f2 z
  · exact n3 a ha a z rfl
def wXCallG (f : WFX) (nn : Nat) (md : List Nat) (dst : List (Option Nat)) (ws : WXs) : WX := fun ε N R => ws ε N fun ts ε' N' => ts.length = nn ∧ f ts 0 fun ret os _ => R ret (backE (kept md dst) os ε') N'
def wXCallGB (jb : Nat) (f : WFX) (nn : Nat) (md : List Nat) (dst : List (Option Nat)) (ws : WXs) : WX := fun ε N R => isBox ε jb = true ∧ ws ε N fun ts ε' N' => ts.length = nn ∧ f ts N' fun ret os N2 => R ret (backE (kept md dst) os ε') N2
theorem sim_xcallGB {nn jb : Nat} {md : List Nat} {f : WFX} {ws : WXs} {tas : TA} {dst : List (Option Nat)} (h : SimXA tas dst ws) : SimX (tCall (spG true nn md f) [] E0 (tCons (tVar jb) tas)) (wXCallGB jb f nn md dst ws) := fun {c bs F σ τ H ε δ N R Q} hl r w q => by
  obtain ⟨hb, w⟩ := w
  obtain ⟨G, r0, hG⟩ := r.cut hl
  obtain ⟨a, eb, hs⟩ := box_slot r0 hb
  refine ⟨.ref a, hs, h hl r w fun vs ts ε' N' bs' F' H' hR l lv hd r' => ?_⟩
  obtain ⟨hn, w'⟩ := hR
  show spG true nn md f ((.ref a :: vs) ++ []) H' Q E0
  rw [List.append_nil]
  have := callG_core (bx := true) (Q := Q) (R := R) r' lv (hl.trans l.symm) (len2 r l) hd (by show c.b.length = 1; rw [eb]; rfl) hn w' fun v t ε2 N2 bs2 F2 H2 w2 l2 r2 => q v t ε2 N2 bs2 F2 H2 w2 (l2.trans l) r2
  have e : (boxOf c true).map V.ref = [.ref a] := by show c.b.map V.ref = _; rw [eb]; rfl
  rw [e] at this
  exact this
theorem wXCallG_eq {nn : Nat} {md : List Nat} {f : WFX} {dst : List (Option Nat)} {ws : WXs} {R : T → Env → Nat → Prop} : wXCallG f nn md dst ws ε N R = ws ε N fun ts ε' N' => ts.length = nn ∧ f ts 0 fun ret os _ => R ret (backE (kept md dst) os ε') N' := propext Iff.rfl
theorem wXCallGB_eq {nn jb : Nat} {md : List Nat} {f : WFX} {dst : List (Option Nat)} {ws : WXs} {R : T → Env → Nat → Prop} : wXCallGB jb f nn md dst ws ε N R = (isBox ε jb = true ∧ ws ε N fun ts ε' N' => ts.length = nn ∧ f ts N' fun ret os N2 => R ret (backE (kept md dst) os ε') N2) := propext Iff.rfl
end
section
variable {ε : Env} {N : Nat} {k : Nat}
theorem fnG_nx {bx : Bool} {md : List Nat} {ts : List T} {R : T → List T → Nat → Prop} : (EW.fnG bx md ts R).nx ε N = dropB bx ε fun ε' => outG md ts ε' fun os => R (.sh .none) os N := propext Iff.rfl
theorem fnG_rx {bx : Bool} {md : List Nat} {ts : List T} {t : T} {R : T → List T → Nat → Prop} : (EW.fnG bx md ts R).rx t ε N = dropB bx ε fun ε' => outG md ts ε' fun os => R t os N := propext Iff.rfl
theorem outG_nil {q : List T → Prop} : outG [] [] ε q = q [] := propext Iff.rfl
theorem outG_0 {md : List Nat} {d : PyData} {ts : List T} {l : Sl} {q : List T → Prop} : outG (0 :: md) (.sh d :: ts) (l :: ε) q = outG md ts ε fun os => q (.sh d :: os) := propext Iff.rfl
theorem outG_2 {md : List Nat} {t : T} {ts : List T} {l : Sl} {q : List T → Prop} : outG (2 :: md) (t :: ts) (l :: ε) q = outG md ts ε q := propext Iff.rfl
theorem outG_ins {md : List Nat} {a C' C : Addr} {ms ms' : List Str} {us us' ts : List T} {q : List T → Prop} : outG (1 :: md) (.ins a C ms us :: ts) (.is (.ins a C' ms' us') :: ε) q = outG md ts ε fun os => q (.ins a C' ms' us' :: os) := propext ⟨fun h => h.2.2, fun h => ⟨rfl, (fun z => nomatch z), h⟩⟩
theorem outG_lsa {md : List Nat} {a : Addr} {us us' ts : List T} {q : List T → Prop} : outG (1 :: md) (.lsa a us :: ts) (.is (.lsa a us') :: ε) q = outG md ts ε fun os => q (.lsa a us' :: os) := propext ⟨fun h => h.2.2, fun h => ⟨rfl, (fun z => nomatch z), h⟩⟩
theorem kept_nil {α : Type} : kept [] ([] : List α) = [] := rfl
theorem kept_0 {α : Type} {md : List Nat} {x : α} {xs : List α} : kept (0 :: md) (x :: xs) = x :: kept md xs := rfl
theorem kept_1 {α : Type} {md : List Nat} {x : α} {xs : List α} : kept (1 :: md) (x :: xs) = x :: kept md xs := rfl
theorem kept_2 {α : Type} {md : List Nat} {x : α} {xs : List α} : kept (2 :: md) (x :: xs) = kept md xs := rfl
end
section
variable {K : PySem.W.Frag} {i j : Nat}
/-- x.append(y), y own: it is x's from now on -/
def wAppOwn (i j : Nat) : WS := fun D ε N => atOwn ε[i]? fun ts => atIs ε[j]? fun tj => ts.length ≤ 100000 ∧ D.nx ((ε.set j .no).set i (.is (.lst (ts ++ [tj])))) N
theorem sim_appOwn (hij : i ≠ j) : SimS (tDrop (tBM K "list" rAppend (tVar i) (tCons (tVar j) tNil))) (wAppOwn i j) := fun {c bs F σ H ε N DW D} r w m => by
  obtain ⟨ts, ei, w⟩ := atOwn_some w
  obtain ⟨tj, ej, w⟩ := atIs_some w
  obtain ⟨hlen, hD⟩ := w
  have jl : j < ε.length := (List.getElem?_eq_some_iff.mp ej).1
  obtain ⟨v, G1, hv, r1⟩ := r.take ej
  obtain ⟨G, A, r3, hr, nd, hA⟩ := unpends (vs := [v]) (ts := [tj]) rfl r1 (by rw [List.length_set]; exact r.env.len)
  have ei3 : (ε.set j .no)[i]? = some (.is (.lst ts)) := by rw [List.getElem?_set_ne (Ne.symm hij)]; exact ei
  obtain ⟨z, A3, F1, F2, q1, q2, _, _⟩ := r3.env.at ei3
  cases q2 with
  | is q2 =>
    rename_i v0
    obtain ⟨a0, vs0, Ax, e0, k0, _⟩ := r3.lstP q1 ei3 (π := []) rfl rfl (.inl rfl)
    subst e0
    refine ⟨.ref a0, q1, .inl ⟨rfl, vs0, SqL.of k0⟩, ⟨_, hv, ?_⟩⟩
    obtain ⟨a1, vs, A0, e1', k1, hl, nA0, na0, aG, AG, back⟩ := r3.lstP q1 ei3 (π := []) rfl rfl (.inl rfl)
    cases e1'
    obtain ⟨F', r5, _⟩ := back (hl.append hr) (nodup_app nA0 nd fun z hz y => (hA z y).2.1 (AG z hz)) (fun z => (List.mem_append.mp z).elim na0 fun z => (hA a0 z).2.1 aG) (fun z hz => (List.mem_append.mp hz).elim .inl fun y => .inr (hA z y))
    refine ⟨a0, vs, v, rfl, rfl, k1, by rw [hl.len]; exact Nat.lt_of_le_of_lt hlen (by decide), ?_⟩
    have e3 : putAt (ε.set j .no) i [] ((T.lst ts).rekid (ts ++ [tj])) = (ε.set j .no).set i (.is (.lst (ts ++ [tj]))) := by unfold putAt; rw [ei3]; rfl
    rw [e3] at r5
    exact m.nx r5 hD
theorem wAppOwn_eq {D : EW} {ε : Env} {N : Nat} : wAppOwn i j D ε N = atOwn ε[i]? fun ts => atIs ε[j]? fun tj => ts.length ≤ 100000 ∧ D.nx ((ε.set j .no).set i (.is (.lst (ts ++ [tj])))) N := propext Iff.rfl
end
end Cg

set_option Elab.async false
set_option linter.all false
set_option maxRecDepth 100000
set_option maxHeartbeats 1000000
namespace Cg
open PySem PySem.Spec PyProof.Rows L2 Evl
/-! ### pointers under their shares, what moves on (as in k19) -/
theorem nx_first {ms : List Int} {p i : Nat} (h : nxO ms p = some i) : ∃ k, k < ms.length ∧ (p + k) % ms.length = i ∧ ∀ s, s < k → ms.getD ((p + s) % ms.length) 0 ≠ 1 := by
  unfold nxO at h
  cases e : (List.range ms.length).find? (hitB ms p) with
  | none => rw [e] at h; cases h
  | some s =>
    rw [e] at h
    have h' : (p + s) % ms.length = i := Option.some.inj h
    rw [List.find?_range_eq_some] at e
    obtain ⟨_, h2, h3⟩ := e
    refine ⟨s, List.mem_range.mp h2, h', fun j hj z => ?_⟩
    have := h3 j hj
    unfold hitB at this
    rw [z] at this
    cases this
/-- every pointer's count is under its share -/
def Cnt (m : Nat) (parts : Mat) (qs : List Pr) : Prop := ∀ j, j < m → ((qs.getD j (0, 0)).2 : Int) < (parts.getD j []).getD (qs.getD j (0, 0)).1 0
section
variable {n m : Nat} {parts : Mat} {qs : List Pr} {pl : List Nat}
theorem part_pos (g : Gst n m parts qs pl) {j i : Nat} (hj : j < m) (hi : i < n) : 1 ≤ (parts.getD j []).getD i 0 ∧ (parts.getD j []).getD i 0 ≤ 9 := by
  obtain ⟨h1, h2⟩ := g.part hj
  have hl : i < (parts.getD j []).length := by omega
  rw [List.getD_eq_getElem?_getD, List.getElem?_eq_getElem hl, Option.getD_some]
  exact h2 _ (List.getElem_mem hl)
theorem rep_get {α : Type} {d x : α} {k j : Nat} (h : j < k) : (List.replicate k x).getD j d = x := by
  rw [List.getD_eq_getElem?_getD, List.getElem?_eq_getElem (by rw [List.length_replicate]; exact h), List.getElem_replicate]
  rfl
theorem cnt_0 (g : Gst n m parts (List.replicate m (0, 0)) pl) : Cnt m parts (List.replicate m (0, 0)) := fun j hj => by
  rw [rep_get hj]
  have := part_pos g hj (i := 0) (by have := g.n1; omega)
  show (0 : Int) < (parts.getD j []).getD 0 0
  omega
theorem psN_cnt {ps : List Int} {q : Pr} {i : Nat} (hi : i < ps.length) (h1 : ∀ k, k < ps.length → 1 ≤ ps.getD k 0) : ((psN ps q i).2 : Int) < ps.getD (psN ps q i).1 0 := by
  unfold psN
  by_cases hc : (((if q.1 = i then q.2 + 1 else 1 : Nat) : Int) < ps.getD i 0)
  · rw [if_pos hc]; exact hc
  · rw [if_neg hc]
    have := h1 ((i + 1) % ps.length) (Nat.mod_lt _ (by omega))
    show (0 : Int) < ps.getD ((i + 1) % ps.length) 0
    omega
theorem set_gP {α : Type} {xs : List α} {i : Nat} {x d : α} (h : i < xs.length) : (xs.set i x).getD i d = x := by
  rw [List.getD_eq_getElem?_getD, List.getElem?_set_self h]
  rfl
theorem set_gP_ne {α : Type} {xs : List α} {i j : Nat} {x d : α} (h : i ≠ j) : (xs.set i x).getD j d = xs.getD j d := by
  rw [List.getD_eq_getElem?_getD, List.getElem?_set_ne h, ← List.getD_eq_getElem?_getD]
theorem mv1_cnt {s : List Pr × List Nat} {p : Pr} (g : Gst n m parts s.1 s.2) (hi : p.1 < n) (hj : p.2 < m) (h : Cnt m parts s.1) : Cnt m parts (mvF m parts s p).1 := fun j hjm => by
  unfold mvF
  show (((s.1.set p.2 _).getD j (0, 0)).2 : Int) < (parts.getD j []).getD ((s.1.set p.2 _).getD j (0, 0)).1 0
  by_cases e : p.2 = j
  · subst e
    rw [set_gP (by rw [g.qs.1]; exact hj)]
    have hl := (g.part hj).1
    exact psN_cnt (by rw [hl]; exact hi) fun k hk => (part_pos g hj (by rw [← hl]; exact hk)).1
  · rw [set_gP_ne e]
    exact h j hjm
theorem mv_cnt : ∀ {A : List Pr} {s : List Pr × List Nat}, Gst n m parts s.1 s.2 → (∀ p ∈ A, p.1 < n ∧ p.2 < m) → Cnt m parts s.1 → Cnt m parts (mvN m parts A s).1
  | [], _, _, _, h => h
  | p :: A, s, g, hA, h => by
    have hp := hA p (List.mem_cons_self ..)
    exact mv_cnt (A := A) (g.mv1 hp.1 hp.2) (fun q hq => hA q (List.mem_cons_of_mem _ hq)) (mv1_cnt g hp.1 hp.2 h)
theorem mv_on : ∀ {A : List Pr} {s : List Pr × List Nat} {x : Pr}, Gst n m parts s.1 s.2 → (∀ p ∈ A, p.1 < n ∧ p.2 < m) → Apart A → x ∈ A → (mvN m parts A s).1.getD x.2 (0, 0) = psN (parts.getD x.2 []) (s.1.getD x.2 (0, 0)) x.1 ∧ (mvN m parts A s).2.getD x.1 0 = (x.2 + 1) % m
  | [], _, _, _, _, _, h => nomatch h
  | y :: A, s, x, g, hA, hap, h => by
    have hy := hA y (List.mem_cons_self ..)
    have hc := List.pairwise_cons.mp hap
    show (mvN m parts A (mvF m parts s y)).1.getD x.2 (0, 0) = _ ∧ (mvN m parts A (mvF m parts s y)).2.getD x.1 0 = _
    rcases List.mem_cons.mp h with rfl | h'
    · rw [mv_off (s := mvF m parts s x) (fun z => by
        obtain ⟨k, hk⟩ := mem_vs.mp z
        exact (hc.1 _ hk).2 rfl), mv_offp (s := mvF m parts s x) (fun z => by
        obtain ⟨k, hk⟩ := mem_ks.mp z
        exact (hc.1 _ hk).1 rfl)]
      exact ⟨set_gP (by rw [g.qs.1]; exact hy.2), set_gP (by rw [g.pl.1]; exact hy.1)⟩
    · obtain ⟨h1, h2⟩ := hc.1 x h'
      obtain ⟨e1, e2⟩ := mv_on (s := mvF m parts s y) (g.mv1 hy.1 hy.2) (fun q hq => hA q (List.mem_cons_of_mem _ hq)) hc.2 h'
      rw [e1, e2]
      refine ⟨?_, rfl⟩
      rw [show (mvF m parts s y).1.getD x.2 (0, 0) = s.1.getD x.2 (0, 0) from set_gP_ne h2]
/-- what an outlet grants: the first that asks from its pointer on -/
theorem gr_first {L : Mat} {x : Pr} (hL : SzM n m L) (h : x ∈ grN m L qs) : ∃ k, k < n ∧ ((qs.getD x.1 (0, 0)).1 + k) % n = x.2 ∧ ∀ s, s < k → cell L (((qs.getD x.1 (0, 0)).1 + s) % n) x.1 ≠ 1 := by
  obtain ⟨j, hj, e⟩ := List.mem_filterMap.mp h
  unfold grF at e
  obtain ⟨i, hi, rfl⟩ := Option.map_eq_some_iff.mp e
  obtain ⟨k, h1, h2, h3⟩ := nx_first hi
  rw [List.length_map, hL.1] at h1 h2
  refine ⟨k, h1, h2, fun s hs => ?_⟩
  have := h3 s hs
  rw [List.length_map, hL.1, col_at (by rw [hL.1]; exact Nat.mod_lt _ (by omega))] at this
  exact this
end
/-! ### what is left falls: a pointer that moves on by a winner ahead of an ask stands nearer to it -/
def SP (n : Nat) (ps : List Int) (p k : Nat) : Int := ((List.range k).map fun s => ps.getD ((p + s) % n) 0).sum
theorem SP_succ {n : Nat} {ps : List Int} {p k : Nat} : SP n ps p (k + 1) = SP n ps p k + ps.getD ((p + k) % n) 0 := by
  unfold SP
  rw [List.range_succ, List.map_append, List.sum_append]
  simp
theorem SP_add {n : Nat} {ps : List Int} {p e : Nat} : ∀ {k : Nat}, SP n ps p (e + k) = SP n ps p e + SP n ps ((p + e) % n) k
  | 0 => by
    show SP n ps p e = SP n ps p e + 0
    omega
  | k + 1 => by
    have ih := SP_add (n := n) (ps := ps) (p := p) (e := e) (k := k)
    rw [← Nat.add_assoc, SP_succ, ih, SP_succ, show (p + (e + k)) % n = ((p + e) % n + k) % n by rw [Nat.mod_add_mod, Nat.add_assoc]]
    omega
theorem SP_nn {n : Nat} {ps : List Int} (h : ∀ x ∈ ps, 1 ≤ x ∧ x ≤ 9) {p : Nat} : ∀ {k : Nat}, 0 ≤ SP n ps p k
  | 0 => Int.le_refl _
  | k + 1 => by
    have ih := SP_nn (n := n) h (p := p) (k := k)
    rw [SP_succ]
    have : 0 ≤ ps.getD ((p + k) % n) 0 := by
      rw [List.getD_eq_getElem?_getD]
      cases e : ps[(p + k) % n]? with
      | none => exact Int.le_refl _
      | some x =>
        have := h x (List.mem_of_getElem? e)
        show 0 ≤ x
        omega
    omega
theorem SP_one {n : Nat} {ps : List Int} {p : Nat} (hp : p < n) : SP n ps p 1 = ps.getD p 0 := by
  rw [show (1 : Nat) = 0 + 1 from rfl, SP_succ, Nat.add_zero, Nat.mod_eq_of_lt hp]
  show (0 : Int) + _ = _
  omega
/-- how many steps from p to i -/
def stp (n p i : Nat) : Nat := (i + n - p) % n
theorem stp_lt {n p i : Nat} (hn : 0 < n) : stp n p i < n := Nat.mod_lt _ hn
theorem stp_at {n p i : Nat} (hp : p < n) (hi : i < n) : (p + stp n p i) % n = i := by
  unfold stp
  by_cases h : p ≤ i
  · rw [show i + n - p = (i - p) + n by omega, Nat.add_mod_right, Nat.mod_eq_of_lt (by omega : i - p < n), show p + (i - p) = i by omega, Nat.mod_eq_of_lt hi]
  · rw [Nat.mod_eq_of_lt (by omega : i + n - p < n), show p + (i + n - p) = i + n by omega, Nat.add_mod_right, Nat.mod_eq_of_lt hi]
theorem stp_of {n p k : Nat} (hp : p < n) (hk : k < n) : stp n p ((p + k) % n) = k := by
  unfold stp
  by_cases h : p + k < n
  · rw [Nat.mod_eq_of_lt h, show p + k + n - p = k + n by omega, Nat.add_mod_right, Nat.mod_eq_of_lt hk]
  · rw [show p + k = (p + k - n) + n by omega, Nat.add_mod_right, Nat.mod_eq_of_lt (by omega : p + k - n < n), show p + k - n + n - p = k by omega, Nat.mod_eq_of_lt hk]
theorem stp_zero {n p i : Nat} (hp : p < n) (hi : i < n) : stp n p i = 0 ↔ p = i := by
  constructor
  · intro h
    have := stp_at hp hi
    rw [h, Nat.add_zero, Nat.mod_eq_of_lt hp] at this
    exact this
  · intro h
    subst h
    unfold stp
    rw [show p + n - p = n by omega, Nat.mod_self]
theorem stp_sub {n p w i : Nat} (hp : p < n) (hw : w < n) (hi : i < n) (h : stp n p w ≤ stp n p i) : stp n w i = stp n p i - stp n p w := by
  have e1 := stp_at hp hw
  have e2 := stp_at hp hi
  have hl := stp_lt (n := n) (p := p) (i := i) (by omega)
  generalize stp n p w = a at *
  generalize stp n p i = b at *
  have : i = (w + (b - a)) % n := by
    rw [← e1, Nat.mod_add_mod, ← e2]
    congr 1
    omega
  rw [this]
  exact stp_of hw (by omega)
theorem ahead_eq {n : Nat} {ps : List Int} {q : Pr} {i : Nat} : aheadN n ps q i = if q.1 = i then 0 else SP n ps q.1 (stp n q.1 i) - (q.2 : Int) := rfl
theorem ahead_fall {n : Nat} {ps : List Int} (h : ∀ x ∈ ps, 1 ≤ x ∧ x ≤ 9) (hl : ps.length = n) {q : Pr} {w i : Nat} (hq : q.1 < n) (hc : (q.2 : Int) < ps.getD q.1 0) (hw : w < n) (hi : i < n) (hn : stp n q.1 w < stp n q.1 i) : aheadN n ps (psN ps q w) i < aheadN n ps q i := by
  obtain ⟨p, c⟩ := q
  have hq : p < n := hq
  have hc : (c : Int) < ps.getD p 0 := hc
  have hn : stp n p w < stp n p i := hn
  have hpi : p ≠ i := fun e => by
    have := (stp_zero hq hi).mpr e
    omega
  have ew := stp_sub hq hw hi (Nat.le_of_lt hn)
  have hw2 := stp_at hq hw
  have split1 : SP n ps p (stp n p i) = SP n ps p (stp n p w) + SP n ps w (stp n w i) := by
    have := SP_add (n := n) (ps := ps) (p := p) (e := stp n p w) (k := stp n w i)
    rw [hw2, show stp n p w + stp n w i = stp n p i by omega] at this
    exact this
  have hwi : w ≠ i := fun e => by
    have := (stp_zero hw hi).mpr e
    omega
  have low : stp n p w = 0 ∨ (c : Int) < SP n ps p (stp n p w) := by
    rcases Nat.eq_zero_or_pos (stp n p w) with z | z
    · exact .inl z
    · right
      have := SP_add (n := n) (ps := ps) (p := p) (e := 1) (k := stp n p w - 1)
      rw [show 1 + (stp n p w - 1) = stp n p w by omega, SP_one hq] at this
      have := SP_nn (n := n) h (p := (p + 1) % n) (k := stp n p w - 1)
      omega
  have e0 : aheadN n ps (p, c) i = SP n ps p (stp n p w) + SP n ps w (stp n w i) - (c : Int) := by
    rw [ahead_eq]
    show (if p = i then (0 : Int) else SP n ps p (stp n p i) - (c : Int)) = _
    rw [if_neg hpi, split1]
  rw [e0]
  unfold psN
  show aheadN n ps (if (((if p = w then c + 1 else 1 : Nat) : Int) < ps.getD w 0) then (w, if p = w then c + 1 else 1) else ((w + 1) % ps.length, 0)) i < _
  have hs0 : SP n ps p 0 = 0 := rfl
  by_cases hk : (((if p = w then c + 1 else 1 : Nat) : Int) < ps.getD w 0)
  · rw [if_pos hk, ahead_eq]
    show (if w = i then (0 : Int) else SP n ps w (stp n w i) - ((if p = w then c + 1 else 1 : Nat) : Int)) < _
    rw [if_neg hwi]
    by_cases e : p = w
    · rw [if_pos e]
      have := (stp_zero hq hw).mpr e
      rw [this, hs0]
      omega
    · rw [if_neg e]
      rcases low with z | z
      · exact absurd ((stp_zero hq hw).mp z) e
      · omega
  · rw [if_neg hk, ahead_eq, hl]
    have hd : stp n w i = 1 + (stp n w i - 1) := by
      have : stp n w i ≠ 0 := fun z => hwi ((stp_zero hw hi).mp z)
      omega
    have split2 : SP n ps w (stp n w i) = ps.getD w 0 + SP n ps ((w + 1) % n) (stp n w i - 1) := by
      have := SP_add (n := n) (ps := ps) (p := w) (e := 1) (k := stp n w i - 1)
      rw [← hd, SP_one hw] at this
      exact this
    have hw1 : (w + 1) % n < n := Nat.mod_lt _ (by omega)
    have hlt := stp_lt (n := n) (p := w) (i := i) (by omega)
    have e3 : stp n ((w + 1) % n) i = stp n w i - 1 := by
      have h1 : stp n w ((w + 1) % n) = 1 := stp_of hw (by omega)
      rw [stp_sub hw hw1 hi (by omega), h1]
    have hge : ps.getD w 0 ≥ 1 := by
      rw [List.getD_eq_getElem?_getD, List.getElem?_eq_getElem (by rw [hl]; exact hw)]
      exact (h _ (List.getElem_mem _)).1
    have key : SP n ps ((w + 1) % n) (stp n w i - 1) < SP n ps p (stp n p w) + SP n ps w (stp n w i) - (c : Int) := by
      rw [split2]
      rcases low with z | z
      · have := (stp_zero hq hw).mp z
        subst this
        rw [z, hs0]
        omega
      · omega
    show (if (w + 1) % n = i then (0 : Int) else SP n ps ((w + 1) % n) (stp n ((w + 1) % n) i) - ((0 : Nat) : Int)) < _
    by_cases e : (w + 1) % n = i
    · rw [if_pos e]
      have := SP_nn (n := n) h (p := (w + 1) % n) (k := stp n w i - 1)
      omega
    · rw [if_neg e, e3]
      omega
section
variable {n m : Nat} {parts L : Mat} {q : List Pr} {pl : List Nat}
/-- a beat with an ask (i, j) that is not taken: it stands ahead nearer, or its winner stands nearer to it -/
theorem left_beat {i j : Nat} (g : Gst n m parts q pl) (hc : Cnt m parts q) (hL : SzM n m L) (hij : cell L i j = 1) (hno : (i, j) ∉ acN n m (grN m L q) pl) :
    ∃ w, nxO (L.map fun r => r.getD j 0) (q.getD j (0, 0)).1 = some w ∧ w < n ∧ cell L w j = 1 ∧ (∀ i', cell L i' j = 1 → stp n (q.getD j (0, 0)).1 w ≤ stp n (q.getD j (0, 0)).1 i') ∧
      (aheadN n (parts.getD j []) ((mvN m parts (acN n m (grN m L q) pl) (q, pl)).1.getD j (0, 0)) i < aheadN n (parts.getD j []) (q.getD j (0, 0)) i ∨
        ((mvN m parts (acN n m (grN m L q) pl) (q, pl)).1.getD j (0, 0) = q.getD j (0, 0) ∧ stp m ((mvN m parts (acN n m (grN m L q) pl) (q, pl)).2.getD w 0) j < stp m (pl.getD w 0) j ∧ ∃ j', j' ≠ j ∧ (w, j') ∈ acN n m (grN m L q) pl)) := by
  obtain ⟨hi, hj⟩ := cell_bd hL hij
  obtain ⟨w, e⟩ := grF_on hL.1 (g.ptr hj) hij
  have hm : (j, w) ∈ grN m L q := List.mem_filterMap.mpr ⟨j, List.mem_range.mpr hj, e⟩
  obtain ⟨_, hw, hwc⟩ := gr_mem hL.1 hm
  have hw : w < n := hw
  have hwc : cell L w j = 1 := hwc
  have hp := g.ptr hj
  obtain ⟨k, hk, ek, hlow⟩ := gr_first hL hm
  have ek : ((q.getD j (0, 0)).1 + k) % n = w := ek
  have hlow : ∀ s, s < k → cell L (((q.getD j (0, 0)).1 + s) % n) j ≠ 1 := hlow
  have esw : stp n (q.getD j (0, 0)).1 w = k := by rw [← ek]; exact stp_of hp hk
  have hfirst : ∀ i', cell L i' j = 1 → stp n (q.getD j (0, 0)).1 w ≤ stp n (q.getD j (0, 0)).1 i' := fun i' hi' => by
    rw [esw]
    refine Nat.le_of_not_lt fun z => ?_
    have := hlow _ z
    rw [stp_at hp (cell_bd hL hi').1] at this
    exact this hi'
  have hA : ∀ x ∈ acN n m (grN m L q) pl, x.1 < n ∧ x.2 < m := fun x hx => ⟨(ac_mem hx).1, (ac_mem hx).2.1⟩
  have hap : Apart (acN n m (grN m L q) pl) := ac_apart
  have hnx : nxO (L.map fun r => r.getD j 0) (q.getD j (0, 0)).1 = some w := by
    unfold grF at e
    obtain ⟨b, hb, eb⟩ := Option.map_eq_some_iff.mp e
    have : b = w := congrArg Prod.snd eb
    rw [← this]
    exact hb
  refine ⟨w, hnx, hw, hwc, hfirst, ?_⟩
  by_cases hin : (w, j) ∈ acN n m (grN m L q) pl
  · left
    have hne : w ≠ i := fun e => hno (e ▸ hin)
    obtain ⟨e1, _⟩ := mv_on (s := (q, pl)) (x := (w, j)) g hA hap hin
    have e1 : (mvN m parts (acN n m (grN m L q) pl) (q, pl)).1.getD j (0, 0) = psN (parts.getD j []) (q.getD j (0, 0)) w := e1
    rw [e1]
    obtain ⟨pl1, pl2⟩ := g.part hj
    refine ahead_fall pl2 pl1 hp (hc j hj) hw hi ?_
    rcases Nat.lt_or_ge (stp n (q.getD j (0, 0)).1 w) (stp n (q.getD j (0, 0)).1 i) with z | z
    · exact z
    · exfalso
      have z2 := Nat.le_antisymm (hfirst i hij) z
      have h1 := stp_at hp hw
      rw [z2, stp_at hp hi] at h1
      exact hne h1.symm
  · right
    have hoff : j ∉ Vs (acN n m (grN m L q) pl) := fun z => by
      obtain ⟨y, hy, ey⟩ := List.mem_map.mp z
      have hy3 := (ac_mem hy).2.2
      have ey : y.2 = j := ey
      rw [ey] at hy3
      have := gr_fun hy3 hm
      apply hin
      rw [show ((w, j) : Pr) = y from Prod.ext this.symm ey.symm]
      exact hy
    have ef := ac_fst g (G := grN m L q) (fun y hy => (gr_mem hL.1 hy).1)
    have hwin : w ∈ (List.range n).filter fun i => ((grN m L q).map (·.2)).contains i := List.mem_filter.mpr ⟨List.mem_range.mpr hw, by
      rw [List.contains_iff_mem]
      exact List.mem_map_of_mem (f := (·.2)) hm⟩
    rw [← ef] at hwin
    obtain ⟨x, hx, ex⟩ := List.mem_map.mp hwin
    have ex : x.1 = w := ex
    obtain ⟨j', rfl⟩ : ∃ j', x = (w, j') := ⟨x.2, Prod.ext ex rfl⟩
    have hjj : j' ≠ j := fun e => hin (e ▸ hx)
    have hj' : j' < m := (hA _ hx).2
    have hpl := g.plc hw
    obtain ⟨_, e2⟩ := mv_on (s := (q, pl)) (x := (w, j')) g hA hap hx
    have e2 : (mvN m parts (acN n m (grN m L q) pl) (q, pl)).2.getD w 0 = (j' + 1) % m := e2
    refine ⟨mv_off hoff, ?_, j', hjj, hx⟩
    rw [e2]
    -- what w accepts is the first that grants
    obtain ⟨a, ha, ea⟩ := List.mem_filterMap.mp hx
    unfold acF at ea
    obtain ⟨b, hb, eb⟩ := Option.map_eq_some_iff.mp ea
    obtain ⟨rfl, rfl⟩ : a = w ∧ b = j' := ⟨congrArg Prod.fst eb, congrArg Prod.snd eb⟩
    obtain ⟨k2, h1, h2, h3⟩ := nx_first hb
    rw [List.length_map, List.length_range] at h1 h2
    have es : stp m (pl.getD a 0) b = k2 := by rw [← h2]; exact stp_of hpl h1
    have hle : k2 ≤ stp m (pl.getD a 0) j := Nat.le_of_not_lt fun z => by
      have := h3 _ z
      rw [List.length_map, List.length_range, stp_at hpl hj] at this
      apply this
      rw [List.getD_eq_getElem?_getD, List.getElem?_map, List.getElem?_range hj]
      exact if_pos hm
    have hne : k2 ≠ stp m (pl.getD a 0) j := fun z => hjj (by
      have h4 := stp_at hpl hj
      rw [← z, h2] at h4
      exact h4)
    have hlm := stp_lt (n := m) (p := pl.getD a 0) (i := j) (by omega)
    have es2 : stp m (pl.getD a 0) ((b + 1) % m) = k2 + 1 := by
      rw [show (b + 1) % m = (pl.getD a 0 + (k2 + 1)) % m by rw [← h2, Nat.mod_add_mod, Nat.add_assoc]]
      exact stp_of hpl (by omega)
    rw [stp_sub hpl (Nat.mod_lt _ (by omega)) hj (by omega), es2]
    omega
theorem nx_stp {L : Mat} {p w j : Nat} (hL : SzM n m L) (hp : p < n) (hj : j < m) (h : nxO (L.map fun r => r.getD j 0) p = some w) : w < n ∧ cell L w j = 1 ∧ ∀ i', i' < n → cell L i' j = 1 → stp n p w ≤ stp n p i' := by
  obtain ⟨h1, h2⟩ := nx_some h
  rw [List.length_map, hL.1] at h1
  rw [col_at (by rw [hL.1]; exact h1)] at h2
  obtain ⟨k, hk, ek, hlow⟩ := nx_first h
  rw [List.length_map, hL.1] at hk ek
  refine ⟨h1, h2, fun i' hi' hc' => ?_⟩
  have es : stp n p w = k := by rw [← ek]; exact stp_of hp hk
  rw [es]
  refine Nat.le_of_not_lt fun z => ?_
  have := hlow _ z
  rw [List.length_map, hL.1, stp_at hp hi', col_at (by rw [hL.1]; exact hi')] at this
  exact this hc'
/-- what is left of an ask that stays falls, as words do -/
theorem left_falls {i j r w w' : Nat} {L' : Mat} (g : Gst n m parts q pl) (hc : Cnt m parts q) (hL : SzM n m L) (hL' : SzM n m L') (hij : cell L i j = 1) (hno : (i, j) ∉ accP (rdsP n m q pl (r + 1) L)) (hkeep : ∀ y, cell L y j = 1 → (y, j) ∉ accP (rdsP n m q pl (r + 1) L) → cell L' y j = 1)
    (hw : nxO (L.map fun r => r.getD j 0) (q.getD j (0, 0)).1 = some w) (hw' : nxO (L'.map fun r => r.getD j 0) ((behP n m parts (r + 1) L q pl).1.getD j (0, 0)).1 = some w') :
    aheadN n (parts.getD j []) ((behP n m parts (r + 1) L q pl).1.getD j (0, 0)) i < aheadN n (parts.getD j []) (q.getD j (0, 0)) i ∨
      (aheadN n (parts.getD j []) ((behP n m parts (r + 1) L q pl).1.getD j (0, 0)) i = aheadN n (parts.getD j []) (q.getD j (0, 0)) i ∧
        (stp n ((behP n m parts (r + 1) L q pl).1.getD j (0, 0)).1 w' < stp n (q.getD j (0, 0)).1 w ∨
          (stp n ((behP n m parts (r + 1) L q pl).1.getD j (0, 0)).1 w' = stp n (q.getD j (0, 0)).1 w ∧ stp m ((behP n m parts (r + 1) L q pl).2.getD w' 0) j < stp m (pl.getD w 0) j))) := by
  obtain ⟨hi, hj⟩ := cell_bd hL hij
  have hp := g.ptr hj
  have hG : grN m L q ≠ [] := fun z => (gr_empty g hL).mp z i j hij
  have eb : behP n m parts (r + 1) L q pl = mvN m parts (acN n m (grN m L q) pl) (q, pl) := if_neg fun z => z.elim (fun z => by omega) hG
  have sub : ∀ y ∈ acN n m (grN m L q) pl, y ∈ accP (rdsP n m q pl (r + 1) L) := fun y hy => by
    show y ∈ accP (if grN m L q = [] then [] else (grN m L q, acN n m (grN m L q) pl) :: rdsP n m q pl r (nextL (acN n m (grN m L q) pl) L))
    rw [if_neg hG, accP_cons]
    exact List.mem_append_left _ hy
  obtain ⟨w0, e0, hw0, hwc, hfirst, hcase⟩ := left_beat g hc hL hij fun z => hno (sub _ z)
  have : w0 = w := Option.some.inj (e0.symm.trans hw)
  subst this
  rw [eb] at hw' ⊢
  rcases hcase with h1 | ⟨h1, h2, j', h3, h4⟩
  · exact .inl h1
  · right
    rw [h1] at hw' ⊢
    refine ⟨rfl, ?_⟩
    have hnot : (w0, j) ∉ accP (rdsP n m q pl (r + 1) L) := fun z => by
      have hap := acc_apart (n := n) (m := m) (q := q) (p := pl) (r := r + 1) hL
      obtain ⟨k1, _⟩ := apart_iff.mp hap
      have hz : ((w0, j) : Pr) = (w0, j') := by
        obtain ⟨a, ha, ea⟩ := List.mem_iff_getElem.mp z
        obtain ⟨b, hb, eb⟩ := List.mem_iff_getElem.mp (sub _ h4)
        rcases Nat.lt_trichotomy a b with c | c | c
        · have := List.pairwise_iff_getElem.mp hap a b ha hb c
          rw [ea, eb] at this
          exact absurd rfl this.1
        · subst c
          exact ea.symm.trans eb
        · have := List.pairwise_iff_getElem.mp hap b a hb ha c
          rw [ea, eb] at this
          exact absurd rfl this.1
      exact h3 (congrArg Prod.snd hz).symm
    have hcw := hkeep w0 hwc hnot
    obtain ⟨n1, n2, n3⟩ := nx_stp hL' hp hj hw'
    rcases Nat.lt_or_ge (stp n (q.getD j (0, 0)).1 w') (stp n (q.getD j (0, 0)).1 w0) with z | z
    · exact .inl z
    · have z2 := Nat.le_antisymm (n3 w0 hw0 hcw) z
      have ew : w' = w0 := by
        have h5 := stp_at hp n1
        rw [z2, stp_at hp hw0] at h5
        exact h5.symm
      subst ew
      exact .inr ⟨rfl, h2⟩
end
end Cg

set_option Elab.async false
set_option linter.all false
set_option maxRecDepth 100000
set_option maxHeartbeats 1000000
namespace Cg
open PySem PySem.Spec PyProof.Rows L2 Evl
/-! ### t >= u, t > u of tuples of ints -/
def geAt (ns ms : List Int) : Bool := Ob.lexAt (fun j => decide (ns.getD j 0 = ms.getD j 0)) (fun j => decide (ms.getD j 0 ≤ ns.getD j 0)) (decide (ns.length ≥ ms.length)) 0 (min ns.length ms.length)
def rGeT (K : PySem.W.Frag) : R2 := fun x y H Q => ∃ (a b : Addr) (ns ms : List Int), x = .ref a ∧ y = .ref b ∧ SqT K H a (ns.map V.int) ∧ SqT K H b (ms.map V.int) ∧ Q (.bl (geAt ns ms)) H
theorem op_geT {X : Cx} (hu : X.A.units < cLine) : OpR X (compareOp .GtE) (rGeT X.K) := by
  intro pins s σ H x y v u Q I rx ry h
  obtain ⟨a, b, ns, ms, rfl, rfl, ha, hb, q⟩ := h
  cases rx
  cases ry
  obtain ⟨its, r1, p1, _⟩ := I.tuple ha
  obtain ⟨its2, r2, p2, _⟩ := I.tuple hb
  have i1 : IntsAre its ns := Vals.ints r1
  have i2 : IntsAre its2 ms := Vals.ints r2
  have e1 : its.toArray.size = ns.length := by rw [List.size_toArray]; exact i1.length
  have e2 : its2.toArray.size = ms.length := by rw [List.size_toArray]; exact i2.length
  have at1 : ∀ j (h1 : j < its.toArray.size), ∃ t, its.toArray[j] = .int (ns.getD j 0) t := fun j h1 => PyProof.Rows.IntsAre.int_at i1 _ _ (by simp at h1; simp [h1])
  have at2 : ∀ j (h1 : j < its2.toArray.size), ∃ t, its2.toArray[j] = .int (ms.getD j 0) t := fun j h1 => PyProof.Rows.IntsAre.int_at i2 _ _ (by simp at h1; simp [h1])
  have R := Ob.RcOp.tuples_ge (A := X.A) (s := s) (e := fun j => decide (ns.getD j 0 = ms.getD j 0)) (r := fun j => decide (ms.getD j 0 ≤ ns.getD j 0)) p1 p2 hu (fun j h1 h2 => by
    obtain ⟨t, et⟩ := at1 j h1
    obtain ⟨t', et'⟩ := at2 j h2
    rw [et, et']
    have z : (ns.getD j 0 == ms.getD j 0) = decide (ns.getD j 0 = ms.getD j 0) := by
      by_cases q : ns.getD j 0 = ms.getD j 0
      · rw [decide_eq_true q]; exact beq_iff_eq.mpr q
      · rw [decide_eq_false q]; exact beq_eq_false_iff_ne.mpr q
    rw [← z]
    exact SeqAt.EqAt.int_int _ _ _ _) (fun j h1 h2 _ => by
    obtain ⟨t, et⟩ := at1 j h1
    obtain ⟨t', et'⟩ := at2 j h2
    rw [et, et']
    exact Ob.RcOp.ge_int _ _ _ _)
  rw [e1, e2] at R
  have z : wpAny (model X.prog X.w) X.A (compareOp .GtE (.ref a) (.ref b)) (EP X pins σ Q) X.xe s := R X.prog X.w X.xe (EP X pins σ Q) ⟨.bl _, H, I, rfl, q⟩
  exact z
theorem geTK (K : PySem.W.Frag) {X : Cx} (hu : X.A.units < cLine) (hK : X.K = K := by rfl) : OpR X (compareOp .GtE) (rGeT K) := by subst hK; exact op_geT hu
def oGeT : O2 := fun d e S => match d, e with
  | .tuple a, .tuple b => match intsOf a, intsOf b with
    | some ns, some ms => S (.bool (geAt ns ms))
    | _, _ => False
  | _, _ => False
theorem od_geT {K : PySem.W.Frag} : OpD (rGeT K) oGeT := fun {hs H x y d e S Q} l hx hy w q => by
  unfold oGeT at w
  split at w
  · rename_i a b
    split at w
    · rename_i ns ms e1 e2
      obtain ⟨p, xs, rfl, hp, h1⟩ := hx.tup_inv
      obtain ⟨p2, xs2, rfl, hp2, h2⟩ := hy.tup_inv
      have f1 := ints_of h1 e1
      have f2 := ints_of h2 e2
      subst f1 f2
      exact ⟨p, p2, ns, ms, rfl, rfl, SqT.of (hid_some hp).2, SqT.of (hid_some hp2).2, q _ _ H w (Same.refl _) (.bl _)⟩
    · exact w.elim
  · exact w.elim
theorem oGeT_3 {a b c a' b' c' : Int} {S : PyData → Prop} : oGeT (.tuple [.int a, .int b, .int c]) (.tuple [.int a', .int b', .int c']) S = S (.bool (if a = a' then if b = b' then if c = c' then true else decide (c' ≤ c) else decide (b' ≤ b) else decide (a' ≤ a))) := by
  show S (.bool (geAt [a, b, c] [a', b', c'])) = _
  unfold geAt
  show S (.bool (if decide (a = a') = true then (if decide (b = b') = true then (if decide (c = c') = true then true else decide (c' ≤ c)) else decide (b' ≤ b)) else decide (a' ≤ a))) = _
  simp only [decide_eq_true_eq]
/-! ### a triple that falls, as words do, ends -/
def Lex3 (a b c a' b' c' : Int) : Prop := a < a' ∨ (a = a' ∧ (b < b' ∨ (b = b' ∧ c < c')))
theorem Lex3.no_ge {a b c a' b' c' : Int} (h : Lex3 a b c a' b' c') : (if a = a' then if b = b' then if c = c' then true else decide (c' ≤ c) else decide (b' ≤ b) else decide (a' ≤ a)) = false := by
  rcases h with h | ⟨rfl, h | ⟨rfl, h⟩⟩
  · rw [if_neg (by omega), decide_eq_false (by omega)]
  · rw [if_pos rfl, if_neg (by omega), decide_eq_false (by omega)]
  · rw [if_pos rfl, if_pos rfl, if_neg (by omega), decide_eq_false (by omega)]
theorem Lex3.le {a b c a' b' c' : Int} (h : Lex3 a b c a' b' c') : a ≤ a' := by
  rcases h with h | ⟨rfl, _⟩ <;> omega
/-- a lesser triple, counted -/
theorem Lex3.meas {n m a b c a' b' c' : Int} (hm : 0 < m) (h : Lex3 a b c a' b' c') (b1 : 0 ≤ b) (hb : b < n) (hc : c < m) (b0 : 0 ≤ b') (c0 : 0 ≤ c') : a * (n * m) + b * m + c < a' * (n * m) + b' * m + c' := by
  rcases h with h | ⟨rfl, h | ⟨rfl, h⟩⟩
  · have h1 := Int.mul_le_mul_of_nonneg_right (show b + 1 ≤ n by omega) (Int.le_of_lt hm)
    have h2 : 0 ≤ n * m := Int.mul_nonneg (by omega) (Int.le_of_lt hm)
    have h3 := Int.mul_le_mul_of_nonneg_right (show a + 1 ≤ a' by omega) h2
    have h4 : 0 ≤ b' * m := Int.mul_nonneg b0 (Int.le_of_lt hm)
    rw [Int.add_mul] at h1 h3
    omega
  · have := Int.mul_le_mul_of_nonneg_right (show b + 1 ≤ b' by omega) (Int.le_of_lt hm)
    rw [Int.add_mul] at this
    omega
  · omega
/-! ### counts are kept; what is ahead, from 0 to nine for each inlet -/
section
variable {n m r : Nat} {parts L : Mat} {q : List Pr} {pl : List Nat}
theorem beh_cnt (g : Gst n m parts q pl) (hL : SzM n m L) (hc : Cnt m parts q) : Cnt m parts (behP n m parts r L q pl).1 := by
  unfold behP
  split
  · exact hc
  · exact mv_cnt (A := acN n m (grN m L q) pl) (s := (q, pl)) g (fun x hx => ⟨(ac_mem hx).1, (ac_mem hx).2.1⟩) hc
theorem SP_le {ps : List Int} (h : ∀ x ∈ ps, 1 ≤ x ∧ x ≤ 9) {p : Nat} : ∀ {k : Nat}, SP n ps p k ≤ 9 * (k : Int)
  | 0 => Int.le_refl _
  | k + 1 => by
    have ih := SP_le h (p := p) (k := k)
    rw [SP_succ]
    have : ps.getD ((p + k) % n) 0 ≤ 9 := by
      rw [List.getD_eq_getElem?_getD]
      cases e : ps[(p + k) % n]? with
      | none => show (0 : Int) ≤ 9; omega
      | some x => exact (h x (List.mem_of_getElem? e)).2
    omega
theorem ahead_le {ps : List Int} (h : ∀ x ∈ ps, 1 ≤ x ∧ x ≤ 9) {x : Pr} {i : Nat} (hn : 0 < n) : aheadN n ps x i ≤ 9 * (n : Int) := by
  rw [ahead_eq]
  have := stp_lt (n := n) (p := x.1) (i := i) hn
  have := SP_le (n := n) h (p := x.1) (k := stp n x.1 i)
  split <;> omega
theorem ahead_nn {ps : List Int} (h : ∀ x ∈ ps, 1 ≤ x ∧ x ≤ 9) {x : Pr} {i : Nat} (hx : x.1 < n) (hi : i < n) (hc : (x.2 : Int) < ps.getD x.1 0) : 0 ≤ aheadN n ps x i := by
  rw [ahead_eq]
  split
  · exact Int.le_refl _
  · rename_i e
    have h0 : stp n x.1 i ≠ 0 := fun z => e ((stp_zero hx hi).mp z)
    have := SP_add (n := n) (ps := ps) (p := x.1) (e := 1) (k := stp n x.1 i - 1)
    rw [show 1 + (stp n x.1 i - 1) = stp n x.1 i by omega, SP_one hx] at this
    have := SP_nn (n := n) h (p := (x.1 + 1) % n) (k := stp n x.1 i - 1)
    omega
theorem nx_on {i j : Nat} (hL : SzM n m L) (hq : (q.getD j (0, 0)).1 < n) (hc : cell L i j = 1) : ∃ w, nxO (L.map fun r => r.getD j 0) (q.getD j (0, 0)).1 = some w ∧ w < n := by
  obtain ⟨w, e⟩ := grF_on hL.1 hq hc
  unfold grF at e
  obtain ⟨k, hk, _⟩ := Option.map_eq_some_iff.mp e
  refine ⟨k, hk, ?_⟩
  have := (nx_some hk).1
  rw [List.length_map, hL.1] at this
  exact this
end
end Cg

set_option Elab.async false
set_option linter.all false
set_option maxRecDepth 100000
set_option maxHeartbeats 1000000
namespace K23
open PySem PySem.Spec PyProof.Rows L2 Evl Cg
def topS (i : Nat) : Stmt := PySem.Challenge.pw_crossgrants_k23_what_is_left_falls.main.body.getD i (.Pass ⟨0, 0, 0, 0⟩)
def ns_Grants : List Str := ["inlets", "outlets", "shares", "outlet_pointers", "inlet_places"]
theorem fx_Grants_inlets : fidx ns_Grants "inlets" = some 0 := by decide +kernel
theorem fx_Grants_outlets : fidx ns_Grants "outlets" = some 1 := by decide +kernel
theorem fx_Grants_shares : fidx ns_Grants "shares" = some 2 := by decide +kernel
theorem fx_Grants_outlet_pointers : fidx ns_Grants "outlet_pointers" = some 3 := by decide +kernel
theorem fx_Grants_inlet_places : fidx ns_Grants "inlet_places" = some 4 := by decide +kernel
def ns_Grants_1 : List Str := ["inlets"]
def ns_Grants_2 : List Str := ["inlets", "outlets"]
def ns_Grants_3 : List Str := ["inlets", "outlets", "shares"]
def ns_Grants_4 : List Str := ["inlets", "outlets", "shares", "outlet_pointers"]
theorem fz_Grants_0 : fidx [] "inlets" = none := by decide +kernel
theorem fz_Grants_1 : fidx ns_Grants_1 "outlets" = none := by decide +kernel
theorem fz_Grants_2 : fidx ns_Grants_2 "shares" = none := by decide +kernel
theorem fz_Grants_3 : fidx ns_Grants_3 "outlet_pointers" = none := by decide +kernel
theorem fz_Grants_4 : fidx ns_Grants_4 "inlet_places" = none := by decide +kernel
theorem fn_Grants_beat : fidx ns_Grants "beat" = none := by decide +kernel
theorem fn_Grants_turn : fidx ns_Grants "turn" = none := by decide +kernel
theorem fn_Grants_pointers : fidx ns_Grants "pointers" = none := by decide +kernel
theorem fn_Grants_places : fidx ns_Grants "places" = none := by decide +kernel
section
variable {P : Program} {w : World} {K : PySem.W.Frag} {mg : Str → Option Value} {base : Heap} {κ : Nat → Addr}
abbrev st_is_number : Stmt := topS 6
theorem sc_is_number : FnScope ["thing"] ["thing"] (defScope st_is_number) := ⟨rfl, rfl, rfl, by decide +kernel, rfl, by decide +kernel, by decide +kernel⟩
def w_is_number : WF := wFn false 1 0 (wRet (wSh (wAndV (wIs isInt (wVar 0)) (wNotV (wIs isBool (wVar 0))))))
theorem w_is_number_len {ds : List PyData} {N : Nat} {R : T → Nat → Prop} (h : w_is_number ds N R) : ds.length = 1 := h.1
theorem ok_is_number {f : Addr} {fd : FuncData} (F : Fun K "is_number" "is_number" st_is_number f fd) (B : Bm mg)  : FnOk P w K mg base CX0 1 f fd ["thing"] (spW false 1 w_is_number) := by
  refine F.ok sc_is_number (fun vs H Q E h => spW_len h) (fun cdv A outer s H vs Q E hr h => ?_)
  refine ⟨_, (pss_one (ps_ret (pe_and (pe_callB (isiK K) (by rfl) B.isinstance (by decide +kernel) (pa_cons (pv 0) (pa_cons (pe_bltn (v := .ty "int") (by rfl) B.int (by decide +kernel) rfl) pa_nil))) (pe_one (pe_not (pe_callB (isiK K) (by rfl) B.isinstance (by decide +kernel) (pa_cons (pv 0) (pa_cons (pe_bltn (v := .ty "bool") (by rfl) B.bool (by decide +kernel) rfl) pa_nil)))))))), ?_⟩
  exact run_w (k := 0) ((sim_ret (sim_sh (sim_andV (sim_isi kit_int sim_var) (sim_notV (sim_isi kit_bool sim_var)))))) rfl h
abbrev st_is_between : Stmt := topS 7
theorem sc_is_between : FnScope ["thing", "least", "most"] ["thing", "least", "most"] (defScope st_is_between) := ⟨rfl, rfl, rfl, by decide +kernel, rfl, by decide +kernel, by decide +kernel⟩
def w_is_between : WF := wFn false 3 0 (wRet (wSh (wAndV (wCall w_is_number (wCons (wVar 0) wNil)) (wChain oLe oLe (wVar 1) (wVar 0) (wVar 2)))))
theorem w_is_between_len {ds : List PyData} {N : Nat} {R : T → Nat → Prop} (h : w_is_between ds N R) : ds.length = 3 := h.1
theorem ok_is_between {f : Addr} {fd : FuncData} (F : Fun K "is_between" "is_between" st_is_between f fd) (B : Bm mg) {f_is_number : Addr} {fd_is_number : FuncData} (d_is_number : Df P w K mg base 1 "is_number" st_is_number ["thing"] f_is_number fd_is_number (spW false 1 w_is_number)) : FnOk P w K mg base CX0 2 f fd ["thing", "least", "most"] (spW false 3 w_is_between) := by
  refine F.ok sc_is_between (fun vs H Q E h => spW_len h) (fun cdv A outer s H vs Q E hr h => ?_)
  refine ⟨_, (pss_one (ps_ret (pe_and (pe_call d_is_number.G (hr.mono (by omega)) (by rfl) d_is_number.g d_is_number.F.kp d_is_number.b .nil pass0 (pa_cons (pv 0) pa_nil)) (pe_one (pe_chain op_le op_le (pv 1) (pv 0) (pv 2)))))), ?_⟩
  exact run_w (k := 0) ((sim_ret (sim_sh (sim_andV (sim_call w_is_number_len (sim_cons sim_var sim_nil)) (sim_chain od_le od_le sim_var sim_var sim_var))))) rfl h
abbrev st_is_place : Stmt := topS 8
theorem sc_is_place : FnScope ["thing", "many"] ["thing", "many"] (defScope st_is_place) := ⟨rfl, rfl, rfl, by decide +kernel, rfl, by decide +kernel, by decide +kernel⟩
def w_is_place : WF := wFn false 2 0 (wRet (wSh (wCall w_is_between (wCons (wVar 0) (wCons (wC (.int 0)) (wCons (wOp oSub (wVar 1) (wC (.int 1))) wNil))))))
theorem w_is_place_len {ds : List PyData} {N : Nat} {R : T → Nat → Prop} (h : w_is_place ds N R) : ds.length = 2 := h.1
theorem ok_is_place {f : Addr} {fd : FuncData} (F : Fun K "is_place" "is_place" st_is_place f fd) (B : Bm mg) {f_is_between : Addr} {fd_is_between : FuncData} (d_is_between : Df P w K mg base 2 "is_between" st_is_between ["thing", "least", "most"] f_is_between fd_is_between (spW false 3 w_is_between)) : FnOk P w K mg base CX0 3 f fd ["thing", "many"] (spW false 2 w_is_place) := by
  refine F.ok sc_is_place (fun vs H Q E h => spW_len h) (fun cdv A outer s H vs Q E hr h => ?_)
  refine ⟨_, (pss_one (ps_ret (pe_call d_is_between.G (hr.mono (by omega)) (by rfl) d_is_between.g d_is_between.F.kp d_is_between.b .nil pass0 (pa_cons (pv 0) (pa_cons pe_int (pa_cons (pe_op op_sub (pv 1) pe_int) pa_nil)))))), ?_⟩
  exact run_w (k := 0) ((sim_ret (sim_sh (sim_call w_is_between_len (sim_cons sim_var (sim_cons sim_int (sim_cons (sim_op od_sub sim_var sim_int) sim_nil))))))) rfl h
abbrev st_is_list_or_tuple : Stmt := topS 9
theorem sc_is_list_or_tuple : FnScope ["thing"] ["thing"] (defScope st_is_list_or_tuple) := ⟨rfl, rfl, rfl, by decide +kernel, rfl, by decide +kernel, by decide +kernel⟩
def w_is_list_or_tuple : WF := wFn false 1 0 (wRet (wSh (wIs (fun d => isList d || isTuple d) (wVar 0))))
theorem w_is_list_or_tuple_len {ds : List PyData} {N : Nat} {R : T → Nat → Prop} (h : w_is_list_or_tuple ds N R) : ds.length = 1 := h.1
theorem ok_is_list_or_tuple {f : Addr} {fd : FuncData} (F : Fun K "is_list_or_tuple" "is_list_or_tuple" st_is_list_or_tuple f fd) (B : Bm mg)  : FnOk P w K mg base CX0 1 f fd ["thing"] (spW false 1 w_is_list_or_tuple) := by
  refine F.ok sc_is_list_or_tuple (fun vs H Q E h => spW_len h) (fun cdv A outer s H vs Q E hr h => ?_)
  refine ⟨_, (pss_one (ps_ret (pe_callB (isiTK K) (by rfl) B.isinstance (by decide +kernel) (pa_cons (pv 0) (pa_cons (pe_tup (pa_cons (pe_bltn (v := .ty "list") (by rfl) B.list (by decide +kernel) rfl) (pa_cons (pe_bltn (v := .ty "tuple") (by rfl) B.tuple (by decide +kernel) rfl) pa_nil))) pa_nil))))), ?_⟩
  exact run_w (k := 0) ((sim_ret (sim_sh (sim_isi2 sim_var)))) rfl h
abbrev st_is_size : Stmt := topS 12
theorem sc_is_size : FnScope ["thing"] ["thing"] (defScope st_is_size) := ⟨rfl, rfl, rfl, by decide +kernel, rfl, by decide +kernel, by decide +kernel⟩
def w_is_size : WF := wFn false 1 0 (wRet (wSh (wCall w_is_between (wCons (wVar 0) (wCons (wC (.int 1)) (wCons (wC (.int 12)) wNil))))))
theorem w_is_size_len {ds : List PyData} {N : Nat} {R : T → Nat → Prop} (h : w_is_size ds N R) : ds.length = 1 := h.1
theorem ok_is_size {f : Addr} {fd : FuncData} (F : Fun K "is_size" "is_size" st_is_size f fd) (B : Bm mg) {tk_MOST_PLACES : Tok} (C_MOST_PLACES : mg "MOST_PLACES" = some (.int 12 tk_MOST_PLACES)) {f_is_between : Addr} {fd_is_between : FuncData} (d_is_between : Df P w K mg base 2 "is_between" st_is_between ["thing", "least", "most"] f_is_between fd_is_between (spW false 3 w_is_between)) : FnOk P w K mg base CX0 3 f fd ["thing"] (spW false 1 w_is_size) := by
  refine F.ok sc_is_size (fun vs H Q E h => spW_len h) (fun cdv A outer s H vs Q E hr h => ?_)
  refine ⟨_, (pss_one (ps_ret (pe_call d_is_between.G (hr.mono (by omega)) (by rfl) d_is_between.g d_is_between.F.kp d_is_between.b .nil pass0 (pa_cons (pv 0) (pa_cons pe_int (pa_cons (pe_glob (v := .int 12) (by rfl) C_MOST_PLACES ⟨_, rfl⟩) pa_nil)))))), ?_⟩
  exact run_w (k := 0) ((sim_ret (sim_sh (sim_call w_is_between_len (sim_cons sim_var (sim_cons sim_int (sim_cons sim_int sim_nil))))))) rfl h
abbrev st_outlets_in : Stmt := topS 13
theorem sc_outlets_in : FnScope ["table"] ["table"] (defScope st_outlets_in) := ⟨rfl, rfl, rfl, by decide +kernel, rfl, by decide +kernel, by decide +kernel⟩
def w_outlets_in : WF := wFn false 1 0 (wRet (wSh (wIf (wTru (wVar 0)) (wCb oLen (wCons (wOp oIx (wVar 0) (wC (.int 0))) wNil)) (wC (.int 0)))))
theorem w_outlets_in_len {ds : List PyData} {N : Nat} {R : T → Nat → Prop} (h : w_outlets_in ds N R) : ds.length = 1 := h.1
theorem ok_outlets_in {f : Addr} {fd : FuncData} (F : Fun K "outlets_in" "outlets_in" st_outlets_in f fd) (B : Bm mg)  : FnOk P w K mg base CX0 1 f fd ["table"] (spW false 1 w_outlets_in) := by
  refine F.ok sc_outlets_in (fun vs H Q E h => spW_len h) (fun cdv A outer s H vs Q E hr h => ?_)
  refine ⟨_, (pss_one (ps_ret (pe_ifExp (pt_truthK K (pv 0) (by intro _; rfl)) (pe_callB (lenK K) (by rfl) B.len (by decide +kernel) (pa_cons (pe_ix (ixSK K) (pv 0) pe_int (fun _ _ => rfl)) pa_nil)) pe_int))), ?_⟩
  exact run_w (k := 0) ((sim_ret (sim_sh (sim_if (sim_tru sim_var) (sim_cb cb_len (sim_cons (sim_op od_ix sim_var sim_int) sim_nil)) sim_int)))) rfl h
abbrev st_turned : Stmt := topS 14
theorem sc_turned : FnScope ["table", "column"] ["table"] (defScope st_turned) := ⟨rfl, rfl, rfl, by decide +kernel, rfl, by decide +kernel, by decide +kernel⟩
def w_turned : WF := wFn false 1 1 (wRet (wLcT (wZipN (wVar 0)) (wName 1) wYes (wCbT oList (wCons (wVar 1) wNil)) [1]))
theorem w_turned_len {ds : List PyData} {N : Nat} {R : T → Nat → Prop} (h : w_turned ds N R) : ds.length = 1 := h.1
theorem ok_turned {f : Addr} {fd : FuncData} (F : Fun K "turned" "turned" st_turned f fd) (B : Bm mg)  : FnOk P w K mg base CX0 1 f fd ["table"] (spW false 1 w_turned) := by
  refine F.ok sc_turned (fun vs H Q E h => spW_len h) (fun cdv A outer s H vs Q E hr h => ?_)
  refine ⟨_, (pss_one (ps_ret (pe_lc (own := [("column", 1)]) rfl sc_turned.nd (pi_zipN K (by rfl) B.zip (pv 0)) (blkOk_by (own := [("column", 1)]) (by kernel_rfl)) (fun _ _ _ _ _ => (pg_name (i := 1) sc_turned.nd rfl (.inl rfl))) (fun _ _ _ _ _ => pts_nil) (fun _ _ _ _ _ => (pe_callTy (listK K) (by rfl) B.list (by decide +kernel) (pa_cons (pv 1) pa_nil)))))), ?_⟩
  exact run_w (k := 1) ((sim_ret (sim_lcT (sim_zipN sim_var) (sim_name (vs := [1]) (by decide)) sim_yes (sim_cbT cn_list (sim_cons sim_var sim_nil))))) rfl h
abbrev st_left_out : Stmt := topS 15
theorem sc_left_out : FnScope ["table", "inlets", "outlets", "inlet", "row", "outlet", "mark"] ["table", "inlets", "outlets"] (defScope st_left_out) := ⟨rfl, rfl, rfl, by decide +kernel, rfl, by decide +kernel, by decide +kernel⟩
def w_left_out : WF := wFn false 3 4 (wRet (wLcT (wEnum (wVar 0)) (wGTup 2 (wGCons (wName 3) (wGCons (wName 4) wGNil))) wYes (wLcT (wEnum (wVar 4)) (wGTup 2 (wGCons (wName 5) (wGCons (wName 6) wGNil))) wYes (wSh (wIf (wOr (wTest (wOp (oIn false) (wVar 3) (wVar 1))) (wTest (wOp (oIn false) (wVar 5) (wVar 2)))) (wC (.int 0)) (wVar 6))) [5, 6]) [3, 4]))
theorem w_left_out_len {ds : List PyData} {N : Nat} {R : T → Nat → Prop} (h : w_left_out ds N R) : ds.length = 3 := h.1
theorem ok_left_out {f : Addr} {fd : FuncData} (F : Fun K "left_out" "left_out" st_left_out f fd) (B : Bm mg)  : FnOk P w K mg base CX0 1 f fd ["table", "inlets", "outlets"] (spW false 3 w_left_out) := by
  refine F.ok sc_left_out (fun vs H Q E h => spW_len h) (fun cdv A outer s H vs Q E hr h => ?_)
  refine ⟨_, (pss_one (ps_ret (pe_lc (own := [("inlet", 3), ("row", 4)]) rfl sc_left_out.nd (pi_enumS K (by rfl) B.enumerate (pa_cons (pv 0) pa_nil)) (blkOk_by (own := [("inlet", 3), ("row", 4)]) (by kernel_rfl)) (fun _ _ _ _ _ => (pg_tupK K (n := 2) rfl (pgs_cons (pg_name (i := 3) sc_left_out.nd rfl (by first | exact Or.inl rfl | exact Or.inr rfl)) (pgs_cons (pg_name (i := 4) sc_left_out.nd rfl (by first | exact Or.inl rfl | exact Or.inr rfl)) pgs_nil)))) (fun _ _ _ _ _ => pts_nil) (fun _ _ _ _ _ => (pe_lc (own := [("outlet", 5), ("mark", 6)]) rfl sc_left_out.nd (pi_enumS K (by rfl) B.enumerate (pa_cons (pv 4) pa_nil)) (blkOk_by (own := [("outlet", 5), ("mark", 6)]) (by kernel_rfl)) (fun _ _ _ _ _ => (pg_tupK K (n := 2) rfl (pgs_cons (pg_name (i := 5) sc_left_out.nd rfl (.inl rfl)) (pgs_cons (pg_name (i := 6) sc_left_out.nd rfl (.inl rfl)) pgs_nil)))) (fun _ _ _ _ _ => pts_nil) (fun _ _ _ _ _ => (pe_ifExp (PW.pt (pw_or (pt_cmpR (inK K) (pv 3) (pv 1) (by with_unfolding_all rfl)) (pw_or1 (pt_cmpR (inK K) (pv 5) (pv 2) (by with_unfolding_all rfl))))) pe_int (pv 6)))))))), ?_⟩
  exact run_w (k := 4) ((sim_ret (sim_lcT (sim_enum sim_var) (sim_gtup (sim_gcons (sim_name (vs := [3, 4]) (by decide)) (sim_gcons (sim_name (vs := [3, 4]) (by decide)) sim_gnil))) sim_yes (sim_lcT (sim_enum sim_var) (sim_gtup (sim_gcons (sim_name (vs := [5, 6]) (by decide)) (sim_gcons (sim_name (vs := [5, 6]) (by decide)) sim_gnil))) sim_yes (sim_sh (sim_if (sim_or (sim_test (sim_op od_in sim_var sim_var)) (sim_test (sim_op od_in sim_var sim_var))) sim_int sim_var)))))) rfl h
abbrev st_is_ask : Stmt := topS 17
theorem sc_is_ask : FnScope ["table", "thing", "inlet", "outlet"] ["table", "thing"] (defScope st_is_ask) := ⟨rfl, rfl, rfl, by decide +kernel, rfl, by decide +kernel, by decide +kernel⟩
def w_is_ask : WF := wFn false 2 2 (wSeq (wIfS (wOr (wNot (wTest (wIs isTuple (wVar 1)))) (wTest (wOp oNe (wCb oLen (wCons (wVar 1) wNil)) (wC (.int 2)))))
 (wRet (wSh (wC (.bool false))))
 wSkip)
 (wSeq (wAsg (wVar 1) (wGTup 2 (wGCons (wName 2) (wGCons (wName 3) wGNil))))
 (wRet (wSh (wAndV (wCall w_is_place (wCons (wVar 2) (wCons (wCb oLen (wCons (wVar 0) wNil)) wNil))) (wAndV (wCall w_is_place (wCons (wVar 3) (wCons (wCall w_outlets_in (wCons (wVar 0) wNil)) wNil))) (wOp oEq (wOp oIx (wOp oIx (wVar 0) (wVar 2)) (wVar 3)) (wC (.int 1)))))))))
theorem w_is_ask_len {ds : List PyData} {N : Nat} {R : T → Nat → Prop} (h : w_is_ask ds N R) : ds.length = 2 := h.1
theorem ok_is_ask {f : Addr} {fd : FuncData} (F : Fun K "is_ask" "is_ask" st_is_ask f fd) (B : Bm mg) {f_is_place : Addr} {fd_is_place : FuncData} (d_is_place : Df P w K mg base 3 "is_place" st_is_place ["thing", "many"] f_is_place fd_is_place (spW false 2 w_is_place)) {f_outlets_in : Addr} {fd_outlets_in : FuncData} (d_outlets_in : Df P w K mg base 1 "outlets_in" st_outlets_in ["table"] f_outlets_in fd_outlets_in (spW false 1 w_outlets_in)) : FnOk P w K mg base CX0 4 f fd ["table", "thing"] (spW false 2 w_is_ask) := by
  refine F.ok sc_is_ask (fun vs H Q E h => spW_len h) (fun cdv A outer s H vs Q E hr h => ?_)
  refine ⟨_, (pss_cons (ps_if (PW.pt (pw_or (pt_not (pt_val (pe_callB (isiK K) (by rfl) B.isinstance (by decide +kernel) (pa_cons (pv 1) (pa_cons (pe_bltn (v := .ty "tuple") (by rfl) B.tuple (by decide +kernel) rfl) pa_nil))))) (pw_or1 (pt_cmpR (op_neU K hr.units) (pe_callB (lenK K) (by rfl) B.len (by decide +kernel) (pa_cons (pv 1) pa_nil)) pe_int (nomark _)))))
 (pss_one (ps_ret pe_bl))
 pss_nil)
 (pss_cons (ps_asg (pv 1) (pg_tupK K (n := 2) rfl (pgs_cons (pg_name (i := 2) sc_is_ask.nd rfl (.inl rfl)) (pgs_cons (pg_name (i := 3) sc_is_ask.nd rfl (.inl rfl)) pgs_nil))))
 (pss_one (ps_ret (pe_and (pe_call d_is_place.G (hr.mono (by omega)) (by rfl) d_is_place.g d_is_place.F.kp d_is_place.b .nil pass0 (pa_cons (pv 2) (pa_cons (pe_callB (lenK K) (by rfl) B.len (by decide +kernel) (pa_cons (pv 0) pa_nil)) pa_nil))) (pe_and (pe_call d_is_place.G (hr.mono (by omega)) (by rfl) d_is_place.g d_is_place.F.kp d_is_place.b .nil pass0 (pa_cons (pv 3) (pa_cons (pe_call d_outlets_in.G (hr.mono (by omega)) (by rfl) d_outlets_in.g d_outlets_in.F.kp d_outlets_in.b .nil pass0 (pa_cons (pv 0) pa_nil)) pa_nil))) (pe_one (pe_cmpR (op_eqU K hr.units) (pe_ix (ixSK K) (pe_ix (ixSK K) (pv 0) (pv 2) (fun _ _ => rfl)) (pv 3) (fun _ _ => rfl)) pe_int (nomark _))))))))), ?_⟩
  exact run_w (k := 2) ((sim_seq (sim_ifS (sim_or (sim_not (sim_tB (sim_isi kit_tuple sim_var))) (sim_test (sim_op od_ne (sim_cb cb_len (sim_cons sim_var sim_nil)) sim_int)))
 (sim_ret (sim_sh sim_bl))
 sim_skip)
 (sim_seq (sim_asg sim_var (sim_gtup (sim_gcons (sim_name (vs := [2, 3]) (by decide)) (sim_gcons (sim_name (vs := [2, 3]) (by decide)) sim_gnil))))
 (sim_ret (sim_sh (sim_andV (sim_call w_is_place_len (sim_cons sim_var (sim_cons (sim_cb cb_len (sim_cons sim_var sim_nil)) sim_nil))) (sim_andV (sim_call w_is_place_len (sim_cons sim_var (sim_cons (sim_call w_outlets_in_len (sim_cons sim_var sim_nil)) sim_nil))) (sim_op od_eq (sim_op od_ix (sim_op od_ix sim_var sim_var) sim_var) sim_int)))))))) rfl h
abbrev st_inlets_of : Stmt := topS 18
theorem sc_inlets_of : FnScope ["pairs", "inlet", "outlet"] ["pairs"] (defScope st_inlets_of) := ⟨rfl, rfl, rfl, by decide +kernel, rfl, by decide +kernel, by decide +kernel⟩
def w_inlets_of : WF := wFn false 1 2 (wRet (wLcT (wIt (wVar 0)) (wGTup 2 (wGCons (wName 1) (wGCons (wName 2) wGNil))) wYes (wSh (wVar 1)) [1, 2]))
theorem w_inlets_of_len {ds : List PyData} {N : Nat} {R : T → Nat → Prop} (h : w_inlets_of ds N R) : ds.length = 1 := h.1
theorem ok_inlets_of {f : Addr} {fd : FuncData} (F : Fun K "inlets_of" "inlets_of" st_inlets_of f fd) (B : Bm mg)  : FnOk P w K mg base CX0 1 f fd ["pairs"] (spW false 1 w_inlets_of) := by
  refine F.ok sc_inlets_of (fun vs H Q E h => spW_len h) (fun cdv A outer s H vs Q E hr h => ?_)
  refine ⟨_, (pss_one (ps_ret (pe_lc (own := [("inlet", 1), ("outlet", 2)]) rfl sc_inlets_of.nd (pi_seq K (pv 0)) (blkOk_by (own := [("inlet", 1), ("outlet", 2)]) (by kernel_rfl)) (fun _ _ _ _ _ => (pg_tupK K (n := 2) rfl (pgs_cons (pg_name (i := 1) sc_inlets_of.nd rfl (.inl rfl)) (pgs_cons (pg_name (i := 2) sc_inlets_of.nd rfl (.inl rfl)) pgs_nil)))) (fun _ _ _ _ _ => pts_nil) (fun _ _ _ _ _ => (pv 1))))), ?_⟩
  exact run_w (k := 2) ((sim_ret (sim_lcT (sim_it sim_var) (sim_gtup (sim_gcons (sim_name (vs := [1, 2]) (by decide)) (sim_gcons (sim_name (vs := [1, 2]) (by decide)) sim_gnil))) sim_yes (sim_sh sim_var)))) rfl h
abbrev st_outlets_of : Stmt := topS 19
theorem sc_outlets_of : FnScope ["pairs", "inlet", "outlet"] ["pairs"] (defScope st_outlets_of) := ⟨rfl, rfl, rfl, by decide +kernel, rfl, by decide +kernel, by decide +kernel⟩
def w_outlets_of : WF := wFn false 1 2 (wRet (wLcT (wIt (wVar 0)) (wGTup 2 (wGCons (wName 1) (wGCons (wName 2) wGNil))) wYes (wSh (wVar 2)) [1, 2]))
theorem w_outlets_of_len {ds : List PyData} {N : Nat} {R : T → Nat → Prop} (h : w_outlets_of ds N R) : ds.length = 1 := h.1
theorem ok_outlets_of {f : Addr} {fd : FuncData} (F : Fun K "outlets_of" "outlets_of" st_outlets_of f fd) (B : Bm mg)  : FnOk P w K mg base CX0 1 f fd ["pairs"] (spW false 1 w_outlets_of) := by
  refine F.ok sc_outlets_of (fun vs H Q E h => spW_len h) (fun cdv A outer s H vs Q E hr h => ?_)
  refine ⟨_, (pss_one (ps_ret (pe_lc (own := [("inlet", 1), ("outlet", 2)]) rfl sc_outlets_of.nd (pi_seq K (pv 0)) (blkOk_by (own := [("inlet", 1), ("outlet", 2)]) (by kernel_rfl)) (fun _ _ _ _ _ => (pg_tupK K (n := 2) rfl (pgs_cons (pg_name (i := 1) sc_outlets_of.nd rfl (.inl rfl)) (pgs_cons (pg_name (i := 2) sc_outlets_of.nd rfl (.inl rfl)) pgs_nil)))) (fun _ _ _ _ _ => pts_nil) (fun _ _ _ _ _ => (pv 2))))), ?_⟩
  exact run_w (k := 2) ((sim_ret (sim_lcT (sim_it sim_var) (sim_gtup (sim_gcons (sim_name (vs := [1, 2]) (by decide)) (sim_gcons (sim_name (vs := [1, 2]) (by decide)) sim_gnil))) sim_yes (sim_sh sim_var)))) rfl h
abbrev st_asks_left : Stmt := topS 20
theorem sc_asks_left : FnScope ["table", "pairs"] ["table", "pairs"] (defScope st_asks_left) := ⟨rfl, rfl, rfl, by decide +kernel, rfl, by decide +kernel, by decide +kernel⟩
def w_asks_left : WF := wFn false 2 0 (wRet (wCallT w_left_out (wCons (wVar 0) (wCons (wCall w_inlets_of (wCons (wVar 1) wNil)) (wCons (wCall w_outlets_of (wCons (wVar 1) wNil)) wNil)))))
theorem w_asks_left_len {ds : List PyData} {N : Nat} {R : T → Nat → Prop} (h : w_asks_left ds N R) : ds.length = 2 := h.1
theorem ok_asks_left {f : Addr} {fd : FuncData} (F : Fun K "asks_left" "asks_left" st_asks_left f fd) (B : Bm mg) {f_inlets_of : Addr} {fd_inlets_of : FuncData} (d_inlets_of : Df P w K mg base 1 "inlets_of" st_inlets_of ["pairs"] f_inlets_of fd_inlets_of (spW false 1 w_inlets_of)) {f_left_out : Addr} {fd_left_out : FuncData} (d_left_out : Df P w K mg base 1 "left_out" st_left_out ["table", "inlets", "outlets"] f_left_out fd_left_out (spW false 3 w_left_out)) {f_outlets_of : Addr} {fd_outlets_of : FuncData} (d_outlets_of : Df P w K mg base 1 "outlets_of" st_outlets_of ["pairs"] f_outlets_of fd_outlets_of (spW false 1 w_outlets_of)) : FnOk P w K mg base CX0 2 f fd ["table", "pairs"] (spW false 2 w_asks_left) := by
  refine F.ok sc_asks_left (fun vs H Q E h => spW_len h) (fun cdv A outer s H vs Q E hr h => ?_)
  refine ⟨_, (pss_one (ps_ret (pe_call d_left_out.G (hr.mono (by omega)) (by rfl) d_left_out.g d_left_out.F.kp d_left_out.b .nil pass0 (pa_cons (pv 0) (pa_cons (pe_call d_inlets_of.G (hr.mono (by omega)) (by rfl) d_inlets_of.g d_inlets_of.F.kp d_inlets_of.b .nil pass0 (pa_cons (pv 1) pa_nil)) (pa_cons (pe_call d_outlets_of.G (hr.mono (by omega)) (by rfl) d_outlets_of.g d_outlets_of.F.kp d_outlets_of.b .nil pass0 (pa_cons (pv 1) pa_nil)) pa_nil)))))), ?_⟩
  exact run_w (k := 0) ((sim_ret (sim_callT w_left_out_len (sim_cons sim_var (sim_cons (sim_call w_inlets_of_len (sim_cons sim_var sim_nil)) (sim_cons (sim_call w_outlets_of_len (sim_cons sim_var sim_nil)) sim_nil)))))) rfl h
abbrev st_first_from : Stmt := topS 22
theorem sc_first_from : FnScope ["marks", "place", "step", "turning"] ["marks", "place"] (defScope st_first_from) := ⟨rfl, rfl, rfl, by decide +kernel, rfl, by decide +kernel, by decide +kernel⟩
def w_first_from : WF := wFn false 2 2 (wSeq (wFor (wRng1 (wCb oLen (wCons (wVar 0) wNil))) (wName 2)
 (wSeq (wAsg (wOp oMod (wOp oAdd (wVar 1) (wVar 2)) (wCb oLen (wCons (wVar 0) wNil))) (wName 3))
 (wIfS (wTest (wOp oEq (wOp oIx (wVar 0) (wVar 3)) (wC (.int 1))))
 (wRet (wSh (wVar 3)))
 wSkip)))
 (wRet (wSh (wC .none))))
theorem w_first_from_len {ds : List PyData} {N : Nat} {R : T → Nat → Prop} (h : w_first_from ds N R) : ds.length = 2 := h.1
theorem ok_first_from {f : Addr} {fd : FuncData} (F : Fun K "first_from" "first_from" st_first_from f fd) (B : Bm mg)  : FnOk P w K mg base CX0 1 f fd ["marks", "place"] (spW false 2 w_first_from) := by
  refine F.ok sc_first_from (fun vs H Q E h => spW_len h) (fun cdv A outer s H vs Q E hr h => ?_)
  refine ⟨_, (pss_cons (ps_for PassesOwn.never rfl (pi_range1 (by rfl) B.range (pa_cons (pe_callB (lenK K) (by rfl) B.len (by decide +kernel) (pa_cons (pv 0) pa_nil)) pa_nil)) (pg_name (i := 2) sc_first_from.nd rfl (.inl rfl))
 (pss_cons (ps_set (i := 3) sc_first_from.nd rfl (.inl rfl) (pe_op op_mod (pe_op op_addU (pv 1) (pv 2)) (pe_callB (lenK K) (by rfl) B.len (by decide +kernel) (pa_cons (pv 0) pa_nil))))
 (pss_one (ps_if (pt_cmpR (op_eqU K hr.units) (pe_ix (ixSK K) (pv 0) (pv 3) (fun _ _ => rfl)) pe_int (nomark _))
 (pss_one (ps_ret (pv 3)))
 pss_nil))))
 (pss_one (ps_ret pe_non))), ?_⟩
  exact run_w (k := 2) ((sim_seq (sim_for (sim_r1 (sim_cb cb_len (sim_cons sim_var sim_nil))) (sim_name (vs := [2]) (by decide))
 (sim_seq (sim_asg (sim_op od_mod (sim_op od_add sim_var sim_var) (sim_cb cb_len (sim_cons sim_var sim_nil))) (sim_name (vs := [3]) (by decide)))
 (sim_ifS (sim_test (sim_op od_eq (sim_op od_ix sim_var sim_var) sim_int))
 (sim_ret (sim_sh sim_var))
 sim_skip)))
 (sim_ret (sim_sh sim_non)))) rfl h
abbrev st_granted : Stmt := topS 23
theorem sc_granted : FnScope ["asking", "pointer", "place", "count"] ["asking", "pointer"] (defScope st_granted) := ⟨rfl, rfl, rfl, by decide +kernel, rfl, by decide +kernel, by decide +kernel⟩
def w_granted : WF := wFn false 2 2 (wSeq (wAsg (wVar 1) (wGTup 2 (wGCons (wName 2) (wGCons (wName 3) wGNil))))
 (wRet (wSh (wCall w_first_from (wCons (wVar 0) (wCons (wVar 2) wNil))))))
theorem w_granted_len {ds : List PyData} {N : Nat} {R : T → Nat → Prop} (h : w_granted ds N R) : ds.length = 2 := h.1
theorem ok_granted {f : Addr} {fd : FuncData} (F : Fun K "granted" "granted" st_granted f fd) (B : Bm mg) {f_first_from : Addr} {fd_first_from : FuncData} (d_first_from : Df P w K mg base 1 "first_from" st_first_from ["marks", "place"] f_first_from fd_first_from (spW false 2 w_first_from)) : FnOk P w K mg base CX0 2 f fd ["asking", "pointer"] (spW false 2 w_granted) := by
  refine F.ok sc_granted (fun vs H Q E h => spW_len h) (fun cdv A outer s H vs Q E hr h => ?_)
  refine ⟨_, (pss_cons (ps_asg (pv 1) (pg_tupK K (n := 2) rfl (pgs_cons (pg_name (i := 2) sc_granted.nd rfl (.inl rfl)) (pgs_cons (pg_name (i := 3) sc_granted.nd rfl (.inl rfl)) pgs_nil))))
 (pss_one (ps_ret (pe_call d_first_from.G (hr.mono (by omega)) (by rfl) d_first_from.g d_first_from.F.kp d_first_from.b .nil pass0 (pa_cons (pv 0) (pa_cons (pv 2) pa_nil)))))), ?_⟩
  exact run_w (k := 2) ((sim_seq (sim_asg sim_var (sim_gtup (sim_gcons (sim_name (vs := [2, 3]) (by decide)) (sim_gcons (sim_name (vs := [2, 3]) (by decide)) sim_gnil))))
 (sim_ret (sim_sh (sim_call w_first_from_len (sim_cons sim_var (sim_cons sim_var sim_nil))))))) rfl h
abbrev st_accepted : Stmt := topS 24
theorem sc_accepted : FnScope ["granting", "place"] ["granting", "place"] (defScope st_accepted) := ⟨rfl, rfl, rfl, by decide +kernel, rfl, by decide +kernel, by decide +kernel⟩
def w_accepted : WF := wFn false 2 0 (wRet (wSh (wCall w_first_from (wCons (wVar 0) (wCons (wVar 1) wNil)))))
theorem w_accepted_len {ds : List PyData} {N : Nat} {R : T → Nat → Prop} (h : w_accepted ds N R) : ds.length = 2 := h.1
theorem ok_accepted {f : Addr} {fd : FuncData} (F : Fun K "accepted" "accepted" st_accepted f fd) (B : Bm mg) {f_first_from : Addr} {fd_first_from : FuncData} (d_first_from : Df P w K mg base 1 "first_from" st_first_from ["marks", "place"] f_first_from fd_first_from (spW false 2 w_first_from)) : FnOk P w K mg base CX0 2 f fd ["granting", "place"] (spW false 2 w_accepted) := by
  refine F.ok sc_accepted (fun vs H Q E h => spW_len h) (fun cdv A outer s H vs Q E hr h => ?_)
  refine ⟨_, (pss_one (ps_ret (pe_call d_first_from.G (hr.mono (by omega)) (by rfl) d_first_from.g d_first_from.F.kp d_first_from.b .nil pass0 (pa_cons (pv 0) (pa_cons (pv 1) pa_nil))))), ?_⟩
  exact run_w (k := 0) ((sim_ret (sim_sh (sim_call w_first_from_len (sim_cons sim_var (sim_cons sim_var sim_nil)))))) rfl h
abbrev st_passed : Stmt := topS 25
theorem sc_passed : FnScope ["pointer", "inlet", "shares", "many", "place", "count"] ["pointer", "inlet", "shares"] (defScope st_passed) := ⟨rfl, rfl, rfl, by decide +kernel, rfl, by decide +kernel, by decide +kernel⟩
def w_passed : WF := wFn false 3 3 (wSeq (wAsg (wVar 0) (wGTup 2 (wGCons (wName 4) (wGCons (wName 5) wGNil))))
 (wSeq (wAsg (wIf (wTest (wOp oEq (wVar 4) (wVar 1))) (wOp oAdd (wVar 5) (wC (.int 1))) (wC (.int 1))) (wName 3))
 (wSeq (wIfS (wTest (wOp oLt (wVar 3) (wOp oIx (wVar 2) (wVar 1))))
 (wRet (wSh (wTup (wCons (wVar 1) (wCons (wVar 3) wNil)))))
 wSkip)
 (wRet (wSh (wTup (wCons (wOp oMod (wOp oAdd (wVar 1) (wC (.int 1))) (wCb oLen (wCons (wVar 2) wNil))) (wCons (wC (.int 0)) wNil))))))))
theorem w_passed_len {ds : List PyData} {N : Nat} {R : T → Nat → Prop} (h : w_passed ds N R) : ds.length = 3 := h.1
theorem ok_passed {f : Addr} {fd : FuncData} (F : Fun K "passed" "passed" st_passed f fd) (B : Bm mg)  : FnOk P w K mg base CX0 1 f fd ["pointer", "inlet", "shares"] (spW false 3 w_passed) := by
  refine F.ok sc_passed (fun vs H Q E h => spW_len h) (fun cdv A outer s H vs Q E hr h => ?_)
  refine ⟨_, (pss_cons (ps_asg (pv 0) (pg_tupK K (n := 2) rfl (pgs_cons (pg_name (i := 4) sc_passed.nd rfl (.inl rfl)) (pgs_cons (pg_name (i := 5) sc_passed.nd rfl (.inl rfl)) pgs_nil))))
 (pss_cons (ps_set (i := 3) sc_passed.nd rfl (.inl rfl) (pe_ifExp (pt_cmpR (op_eqU K hr.units) (pv 4) (pv 1) (nomark _)) (pe_op op_addU (pv 5) pe_int) pe_int))
 (pss_cons (ps_if (pt_cmpR op_lt (pv 3) (pe_ix (ixSK K) (pv 2) (pv 1) (fun _ _ => rfl)) (nomark _))
 (pss_one (ps_ret (pe_tup (pa_cons (pv 1) (pa_cons (pv 3) pa_nil)))))
 pss_nil)
 (pss_one (ps_ret (pe_tup (pa_cons (pe_op op_mod (pe_op op_addU (pv 1) pe_int) (pe_callB (lenK K) (by rfl) B.len (by decide +kernel) (pa_cons (pv 2) pa_nil))) (pa_cons pe_int pa_nil)))))))), ?_⟩
  exact run_w (k := 3) ((sim_seq (sim_asg sim_var (sim_gtup (sim_gcons (sim_name (vs := [4, 5]) (by decide)) (sim_gcons (sim_name (vs := [4, 5]) (by decide)) sim_gnil))))
 (sim_seq (sim_asg (sim_if (sim_test (sim_op od_eq sim_var sim_var)) (sim_op od_add sim_var sim_int) sim_int) (sim_name (vs := [3]) (by decide)))
 (sim_seq (sim_ifS (sim_test (sim_op od_lt sim_var (sim_op od_ix sim_var sim_var)))
 (sim_ret (sim_sh (sim_tup (sim_cons sim_var (sim_cons sim_var sim_nil)))))
 sim_skip)
 (sim_ret (sim_sh (sim_tup (sim_cons (sim_op od_mod (sim_op od_add sim_var sim_int) (sim_cb cb_len (sim_cons sim_var sim_nil))) (sim_cons sim_int sim_nil))))))))) rfl h
abbrev st_steps_to : Stmt := topS 27
theorem sc_steps_to : FnScope ["target", "place", "many"] ["target", "place", "many"] (defScope st_steps_to) := ⟨rfl, rfl, rfl, by decide +kernel, rfl, by decide +kernel, by decide +kernel⟩
def w_steps_to : WF := wFn false 3 0 (wRet (wSh (wOp oMod (wOp oSub (wVar 0) (wVar 1)) (wVar 2))))
theorem w_steps_to_len {ds : List PyData} {N : Nat} {R : T → Nat → Prop} (h : w_steps_to ds N R) : ds.length = 3 := h.1
theorem ok_steps_to {f : Addr} {fd : FuncData} (F : Fun K "steps_to" "steps_to" st_steps_to f fd) (B : Bm mg)  : FnOk P w K mg base CX0 1 f fd ["target", "place", "many"] (spW false 3 w_steps_to) := by
  refine F.ok sc_steps_to (fun vs H Q E h => spW_len h) (fun cdv A outer s H vs Q E hr h => ?_)
  refine ⟨_, (pss_one (ps_ret (pe_op op_mod (pe_op op_sub (pv 0) (pv 1)) (pv 2)))), ?_⟩
  exact run_w (k := 0) ((sim_ret (sim_sh (sim_op od_mod (sim_op od_sub sim_var sim_var) sim_var)))) rfl h
abbrev st_is_share : Stmt := topS 34
theorem sc_is_share : FnScope ["thing"] ["thing"] (defScope st_is_share) := ⟨rfl, rfl, rfl, by decide +kernel, rfl, by decide +kernel, by decide +kernel⟩
def w_is_share : WF := wFn false 1 0 (wRet (wSh (wCall w_is_between (wCons (wVar 0) (wCons (wC (.int 1)) (wCons (wC (.int 9)) wNil))))))
theorem w_is_share_len {ds : List PyData} {N : Nat} {R : T → Nat → Prop} (h : w_is_share ds N R) : ds.length = 1 := h.1
theorem ok_is_share {f : Addr} {fd : FuncData} (F : Fun K "is_share" "is_share" st_is_share f fd) (B : Bm mg) {tk_MOST_SHARE : Tok} (C_MOST_SHARE : mg "MOST_SHARE" = some (.int 9 tk_MOST_SHARE)) {f_is_between : Addr} {fd_is_between : FuncData} (d_is_between : Df P w K mg base 2 "is_between" st_is_between ["thing", "least", "most"] f_is_between fd_is_between (spW false 3 w_is_between)) : FnOk P w K mg base CX0 3 f fd ["thing"] (spW false 1 w_is_share) := by
  refine F.ok sc_is_share (fun vs H Q E h => spW_len h) (fun cdv A outer s H vs Q E hr h => ?_)
  refine ⟨_, (pss_one (ps_ret (pe_call d_is_between.G (hr.mono (by omega)) (by rfl) d_is_between.g d_is_between.F.kp d_is_between.b .nil pass0 (pa_cons (pv 0) (pa_cons pe_int (pa_cons (pe_glob (v := .int 9) (by rfl) C_MOST_SHARE ⟨_, rfl⟩) pa_nil)))))), ?_⟩
  exact run_w (k := 0) ((sim_ret (sim_sh (sim_call w_is_between_len (sim_cons sim_var (sim_cons sim_int (sim_cons sim_int sim_nil))))))) rfl h
abbrev st_are_shares : Stmt := topS 35
theorem sc_are_shares : FnScope ["thing", "inlets", "share"] ["thing", "inlets"] (defScope st_are_shares) := ⟨rfl, rfl, rfl, by decide +kernel, rfl, by decide +kernel, by decide +kernel⟩
def w_are_shares : WF := wFn false 2 1 (wRet (wSh (wAndV (wCall w_is_list_or_tuple (wCons (wVar 0) wNil)) (wAndV (wOp oEq (wCb oLen (wCons (wVar 0) wNil)) (wVar 1)) (wCb oAll (wCons (wLc (wIt (wVar 0)) (wName 2) wYes (wCall w_is_share (wCons (wVar 2) wNil)) [2]) wNil))))))
theorem w_are_shares_len {ds : List PyData} {N : Nat} {R : T → Nat → Prop} (h : w_are_shares ds N R) : ds.length = 2 := h.1
theorem ok_are_shares {f : Addr} {fd : FuncData} (F : Fun K "are_shares" "are_shares" st_are_shares f fd) (B : Bm mg) {f_is_list_or_tuple : Addr} {fd_is_list_or_tuple : FuncData} (d_is_list_or_tuple : Df P w K mg base 1 "is_list_or_tuple" st_is_list_or_tuple ["thing"] f_is_list_or_tuple fd_is_list_or_tuple (spW false 1 w_is_list_or_tuple)) {f_is_share : Addr} {fd_is_share : FuncData} (d_is_share : Df P w K mg base 3 "is_share" st_is_share ["thing"] f_is_share fd_is_share (spW false 1 w_is_share)) : FnOk P w K mg base CX0 4 f fd ["thing", "inlets"] (spW false 2 w_are_shares) := by
  refine F.ok sc_are_shares (fun vs H Q E h => spW_len h) (fun cdv A outer s H vs Q E hr h => ?_)
  refine ⟨_, (pss_one (ps_ret (pe_and (pe_call d_is_list_or_tuple.G (hr.mono (by omega)) (by rfl) d_is_list_or_tuple.g d_is_list_or_tuple.F.kp d_is_list_or_tuple.b .nil pass0 (pa_cons (pv 0) pa_nil)) (pe_and (pe_cmpR (op_eqU K hr.units) (pe_callB (lenK K) (by rfl) B.len (by decide +kernel) (pa_cons (pv 0) pa_nil)) (pv 1) (nomark _)) (pe_one (pe_callB (allK K) (by rfl) B.all (by decide +kernel) (pa_cons (pe_lc (own := [("share", 2)]) rfl sc_are_shares.nd (pi_seq K (pv 0)) (blkOk_by (own := [("share", 2)]) (by kernel_rfl)) (fun _ _ _ _ _ => (pg_name (i := 2) sc_are_shares.nd rfl (.inl rfl))) (fun _ _ _ _ _ => pts_nil) (fun _ _ _ _ _ => (pe_call d_is_share.G (hr.mono (by omega)) (by rfl) d_is_share.g d_is_share.F.kp d_is_share.b .nil pass0 (pa_cons (pv 2) pa_nil)))) pa_nil))))))), ?_⟩
  exact run_w (k := 1) ((sim_ret (sim_sh (sim_andV (sim_call w_is_list_or_tuple_len (sim_cons sim_var sim_nil)) (sim_andV (sim_op od_eq (sim_cb cb_len (sim_cons sim_var sim_nil)) sim_var) (sim_cb cb_all (sim_cons (sim_lc (sim_it sim_var) (sim_name (vs := [2]) (by decide)) sim_yes (sim_call w_is_share_len (sim_cons sim_var sim_nil))) sim_nil))))))) rfl h
abbrev st_shares_for : Stmt := topS 36
theorem sc_shares_for : FnScope ["inlets", "outlets", "shares", "outlet", "thing", "row"] ["inlets", "outlets", "shares"] (defScope st_shares_for) := ⟨rfl, rfl, rfl, by decide +kernel, rfl, by decide +kernel, by decide +kernel⟩
def w_shares_for : WF := wFn false 3 3 (wSeq (wIfS (wTest (wOp oIs (wVar 2) (wC .none)))
 (wRet (wLcT (wRng1 (wVar 1)) (wName 3) wYes (wOpT oRep (wLst (wCons (wC (.int 1)) wNil)) (wVar 0)) [3]))
 wSkip)
 (wSeq (wIfS (wOr (wNot (wTest (wCall w_is_list_or_tuple (wCons (wVar 2) wNil)))) (wTest (wOp oNe (wCb oLen (wCons (wVar 2) wNil)) (wVar 1))))
 wNever
 wSkip)
 (wSeq (wFor (wEnum (wVar 2)) (wGTup 2 (wGCons (wName 3) (wGCons (wName 4) wGNil)))
 (wIfS (wNot (wTest (wCall w_are_shares (wCons (wVar 4) (wCons (wVar 0) wNil)))))
 wNever
 wSkip))
 (wRet (wLcT (wIt (wVar 2)) (wName 5) wYes (wCbT oList (wCons (wVar 5) wNil)) [5])))))
theorem w_shares_for_len {ds : List PyData} {N : Nat} {R : T → Nat → Prop} (h : w_shares_for ds N R) : ds.length = 3 := h.1
theorem ok_shares_for {f : Addr} {fd : FuncData} (F : Fun K "shares_for" "shares_for" st_shares_for f fd) (B : Bm mg) {f_are_shares : Addr} {fd_are_shares : FuncData} (d_are_shares : Df P w K mg base 4 "are_shares" st_are_shares ["thing", "inlets"] f_are_shares fd_are_shares (spW false 2 w_are_shares)) {f_is_list_or_tuple : Addr} {fd_is_list_or_tuple : FuncData} (d_is_list_or_tuple : Df P w K mg base 1 "is_list_or_tuple" st_is_list_or_tuple ["thing"] f_is_list_or_tuple fd_is_list_or_tuple (spW false 1 w_is_list_or_tuple)) : FnOk P w K mg base CX0 5 f fd ["inlets", "outlets", "shares"] (spW false 3 w_shares_for) := by
  refine F.ok sc_shares_for (fun vs H Q E h => spW_len h) (fun cdv A outer s H vs Q E hr h => ?_)
  refine ⟨_, (pss_cons (ps_if (pt_cmpR op_isN (pv 2) pe_non (nomark _))
 (pss_one (ps_ret (pe_lc (own := [("outlet", 3)]) rfl sc_shares_for.nd (pi_range1 (by rfl) B.range (pa_cons (pv 1) pa_nil)) (blkOk_by (own := [("outlet", 3)]) (by kernel_rfl)) (fun _ _ _ _ _ => (pg_name (i := 3) sc_shares_for.nd rfl (.inl rfl))) (fun _ _ _ _ _ => pts_nil) (fun _ _ _ _ _ => (pe_op op_mulU (pe_lst (pa_cons pe_int pa_nil)) (pv 0))))))
 pss_nil)
 (pss_cons (ps_if (PW.pt (pw_or (pt_not (pt_val (pe_call d_is_list_or_tuple.G (hr.mono (by omega)) (by rfl) d_is_list_or_tuple.g d_is_list_or_tuple.F.kp d_is_list_or_tuple.b .nil pass0 (pa_cons (pv 2) pa_nil)))) (pw_or1 (pt_cmpR (op_neU K hr.units) (pe_callB (lenK K) (by rfl) B.len (by decide +kernel) (pa_cons (pv 2) pa_nil)) (pv 1) (nomark _)))))
 (pss_one ps_never)
 pss_nil)
 (pss_cons (ps_for PassesOwn.never rfl (pi_enumS K (by rfl) B.enumerate (pa_cons (pv 2) pa_nil)) (pg_tupK K (n := 2) rfl (pgs_cons (pg_name (i := 3) sc_shares_for.nd rfl (.inl rfl)) (pgs_cons (pg_name (i := 4) sc_shares_for.nd rfl (.inl rfl)) pgs_nil)))
 (pss_one (ps_if (pt_not (pt_val (pe_call d_are_shares.G (hr.mono (by omega)) (by rfl) d_are_shares.g d_are_shares.F.kp d_are_shares.b .nil pass0 (pa_cons (pv 4) (pa_cons (pv 0) pa_nil)))))
 (pss_one ps_never)
 pss_nil)))
 (pss_one (ps_ret (pe_lc (own := [("row", 5)]) rfl sc_shares_for.nd (pi_seq K (pv 2)) (blkOk_by (own := [("row", 5)]) (by kernel_rfl)) (fun _ _ _ _ _ => (pg_name (i := 5) sc_shares_for.nd rfl (.inl rfl))) (fun _ _ _ _ _ => pts_nil) (fun _ _ _ _ _ => (pe_callTy (listK K) (by rfl) B.list (by decide +kernel) (pa_cons (pv 5) pa_nil))))))))), ?_⟩
  exact run_w (k := 3) ((sim_seq (sim_ifS (sim_test (sim_op od_is sim_var sim_non))
 (sim_ret (sim_lcT (sim_r1 sim_var) (sim_name (vs := [3]) (by decide)) sim_yes (sim_opT on_mulU (sim_lst (sim_cons sim_int sim_nil)) sim_var)))
 sim_skip)
 (sim_seq (sim_ifS (sim_or (sim_not (sim_tB (sim_call w_is_list_or_tuple_len (sim_cons sim_var sim_nil)))) (sim_test (sim_op od_ne (sim_cb cb_len (sim_cons sim_var sim_nil)) sim_var)))
 sim_never
 sim_skip)
 (sim_seq (sim_for (sim_enum sim_var) (sim_gtup (sim_gcons (sim_name (vs := [3, 4]) (by decide)) (sim_gcons (sim_name (vs := [3, 4]) (by decide)) sim_gnil)))
 (sim_ifS (sim_not (sim_tB (sim_call w_are_shares_len (sim_cons sim_var (sim_cons sim_var sim_nil)))))
 sim_never
 sim_skip))
 (sim_ret (sim_lcT (sim_it sim_var) (sim_name (vs := [5]) (by decide)) sim_yes (sim_cbT cn_list (sim_cons sim_var sim_nil)))))))) rfl h
abbrev st_grants_by : Stmt := topS 37
theorem sc_grants_by : FnScope ["table", "pointers", "grants", "outlet", "asking", "inlet"] ["table", "pointers"] (defScope st_grants_by) := ⟨rfl, rfl, rfl, by decide +kernel, rfl, by decide +kernel, by decide +kernel⟩
def w_grants_by : WF := wFn false 2 4 (wSeq (wAsgT 2 (wLstT wNilT))
 (wSeq (wFor (wEnum (wCall w_turned (wCons (wVar 0) wNil))) (wGTup 2 (wGCons (wName 3) (wGCons (wName 4) wGNil)))
 (wSeq (wAsg (wCall w_granted (wCons (wVar 4) (wCons (wOp oIx (wVar 1) (wVar 3)) wNil))) (wName 5))
 (wIfS (wTest (wOp oIsNot (wVar 5) (wC .none)))
 (wApp 2 (wSh (wTup (wCons (wVar 3) (wCons (wVar 5) wNil)))))
 wSkip)))
 (wRetV 2)))
theorem w_grants_by_len {ds : List PyData} {N : Nat} {R : T → Nat → Prop} (h : w_grants_by ds N R) : ds.length = 2 := h.1
theorem ok_grants_by {f : Addr} {fd : FuncData} (F : Fun K "grants_by" "grants_by" st_grants_by f fd) (B : Bm mg) {f_granted : Addr} {fd_granted : FuncData} (d_granted : Df P w K mg base 2 "granted" st_granted ["asking", "pointer"] f_granted fd_granted (spW false 2 w_granted)) {f_turned : Addr} {fd_turned : FuncData} (d_turned : Df P w K mg base 1 "turned" st_turned ["table"] f_turned fd_turned (spW false 1 w_turned)) : FnOk P w K mg base CX0 3 f fd ["table", "pointers"] (spW false 2 w_grants_by) := by
  refine F.ok sc_grants_by (fun vs H Q E h => spW_len h) (fun cdv A outer s H vs Q E hr h => ?_)
  refine ⟨_, (pss_cons (ps_set (i := 2) sc_grants_by.nd rfl (.inl rfl) (pe_lst pa_nil))
 (pss_cons (ps_for PassesOwn.never rfl (pi_enumS K (by rfl) B.enumerate (pa_cons (pe_call d_turned.G (hr.mono (by omega)) (by rfl) d_turned.g d_turned.F.kp d_turned.b .nil pass0 (pa_cons (pv 0) pa_nil)) pa_nil)) (pg_tupK K (n := 2) rfl (pgs_cons (pg_name (i := 3) sc_grants_by.nd rfl (.inl rfl)) (pgs_cons (pg_name (i := 4) sc_grants_by.nd rfl (.inl rfl)) pgs_nil)))
 (pss_cons (ps_set (i := 5) sc_grants_by.nd rfl (.inl rfl) (pe_call d_granted.G (hr.mono (by omega)) (by rfl) d_granted.g d_granted.F.kp d_granted.b .nil pass0 (pa_cons (pv 4) (pa_cons (pe_ix (ixSK K) (pv 1) (pv 3) (fun _ _ => rfl)) pa_nil))))
 (pss_one (ps_if (pt_cmpR op_notN (pv 5) pe_non (nomark _))
 (pss_one (ps_expr (pe_bm PySem.F.plainAttrs_list PySem.F.slot_list_append PySem.F.type_list_append mt_append (pv 2) (pa_cons (pe_tup (pa_cons (pv 3) (pa_cons (pv 5) pa_nil))) pa_nil))))
 pss_nil))))
 (pss_one (ps_ret (pv 2))))), ?_⟩
  exact run_w (k := 4) ((sim_seq (sim_asgT (sim_lstT sim_nilT))
 (sim_seq (sim_for (sim_enum (sim_call w_turned_len (sim_cons sim_var sim_nil))) (sim_gtup (sim_gcons (sim_name (vs := [3, 4]) (by decide)) (sim_gcons (sim_name (vs := [3, 4]) (by decide)) sim_gnil)))
 (sim_seq (sim_asg (sim_call w_granted_len (sim_cons sim_var (sim_cons (sim_op od_ix sim_var sim_var) sim_nil))) (sim_name (vs := [5]) (by decide)))
 (sim_ifS (sim_test (sim_op od_isnot sim_var sim_non))
 (sim_app (sim_sh (sim_tup (sim_cons sim_var (sim_cons sim_var sim_nil)))))
 sim_skip)))
 sim_retV))) rfl h
abbrev st_accepts_by : Stmt := topS 38
theorem sc_accepts_by : FnScope ["grants", "places", "outlets", "accepts", "inlet", "place", "granting", "taken", "outlet"] ["grants", "places", "outlets"] (defScope st_accepts_by) := ⟨rfl, rfl, rfl, by decide +kernel, rfl, by decide +kernel, by decide +kernel⟩
def w_accepts_by : WF := wFn false 3 6 (wSeq (wAsgT 3 (wLstT wNilT))
 (wSeq (wFor (wEnum (wVar 1)) (wGTup 2 (wGCons (wName 4) (wGCons (wName 5) wGNil)))
 (wSeq (wAsg (wLc (wRng1 (wVar 2)) (wName 8) wYes (wIf (wTest (wOp oInD (wTup (wCons (wVar 8) (wCons (wVar 4) wNil))) (wVar 0))) (wC (.int 1)) (wC (.int 0))) [8]) (wName 6))
 (wSeq (wAsg (wCall w_accepted (wCons (wVar 6) (wCons (wVar 5) wNil))) (wName 7))
 (wIfS (wTest (wOp oIsNot (wVar 7) (wC .none)))
 (wApp 3 (wSh (wTup (wCons (wVar 4) (wCons (wVar 7) wNil)))))
 wSkip))))
 (wRetV 3)))
theorem w_accepts_by_len {ds : List PyData} {N : Nat} {R : T → Nat → Prop} (h : w_accepts_by ds N R) : ds.length = 3 := h.1
theorem ok_accepts_by {f : Addr} {fd : FuncData} (F : Fun K "accepts_by" "accepts_by" st_accepts_by f fd) (B : Bm mg) {f_accepted : Addr} {fd_accepted : FuncData} (d_accepted : Df P w K mg base 2 "accepted" st_accepted ["granting", "place"] f_accepted fd_accepted (spW false 2 w_accepted)) : FnOk P w K mg base CX0 3 f fd ["grants", "places", "outlets"] (spW false 3 w_accepts_by) := by
  refine F.ok sc_accepts_by (fun vs H Q E h => spW_len h) (fun cdv A outer s H vs Q E hr h => ?_)
  refine ⟨_, (pss_cons (ps_set (i := 3) sc_accepts_by.nd rfl (.inl rfl) (pe_lst pa_nil))
 (pss_cons (ps_for PassesOwn.never rfl (pi_enumS K (by rfl) B.enumerate (pa_cons (pv 1) pa_nil)) (pg_tupK K (n := 2) rfl (pgs_cons (pg_name (i := 4) sc_accepts_by.nd rfl (.inr rfl)) (pgs_cons (pg_name (i := 5) sc_accepts_by.nd rfl (.inl rfl)) pgs_nil)))
 (pss_cons (ps_setLc (i := 6) (own := [("outlet", 8)]) rfl sc_accepts_by.nd rfl rfl (sw_true rfl rfl rfl (by decide +kernel)) (pi_range1 (by rfl) B.range (pa_cons (pv 2) pa_nil)) (blkOk_by (own := [("outlet", 8)]) (by kernel_rfl)) (fun _ _ _ _ _ => (pg_name (i := 8) sc_accepts_by.nd rfl (.inl rfl))) (fun _ _ _ _ _ => pts_nil) (fun _ _ _ _ _ => (pe_ifExp (pt_cmpR (inDK K (room65 hr)) (pe_tup (pa_cons (pv 8) (pa_cons (pv 4) pa_nil))) (pv 0) (by with_unfolding_all rfl)) pe_int pe_int)))
 (pss_cons (ps_set (i := 7) sc_accepts_by.nd rfl (.inl rfl) (pe_call d_accepted.G (hr.mono (by omega)) (by rfl) d_accepted.g d_accepted.F.kp d_accepted.b .nil pass0 (pa_cons (pv 6) (pa_cons (pv 5) pa_nil))))
 (pss_one (ps_if (pt_cmpR op_notN (pv 7) pe_non (nomark _))
 (pss_one (ps_expr (pe_bm PySem.F.plainAttrs_list PySem.F.slot_list_append PySem.F.type_list_append mt_append (pv 3) (pa_cons (pe_tup (pa_cons (pv 4) (pa_cons (pv 7) pa_nil))) pa_nil))))
 pss_nil)))))
 (pss_one (ps_ret (pv 3))))), ?_⟩
  exact run_w (k := 6) ((sim_seq (sim_asgT (sim_lstT sim_nilT))
 (sim_seq (sim_for (sim_enum sim_var) (sim_gtup (sim_gcons (sim_name (vs := [4, 5]) (by decide)) (sim_gcons (sim_name (vs := [4, 5]) (by decide)) sim_gnil)))
 (sim_seq (sim_asg (sim_lc (sim_r1 sim_var) (sim_name (vs := [8]) (by decide)) sim_yes (sim_if (sim_test (sim_op od_inD (sim_tup (sim_cons sim_var (sim_cons sim_var sim_nil))) sim_var)) sim_int sim_int)) (sim_name (vs := [6]) (by decide)))
 (sim_seq (sim_asg (sim_call w_accepted_len (sim_cons sim_var (sim_cons sim_var sim_nil))) (sim_name (vs := [7]) (by decide)))
 (sim_ifS (sim_test (sim_op od_isnot sim_var sim_non))
 (sim_app (sim_sh (sim_tup (sim_cons sim_var (sim_cons sim_var sim_nil)))))
 sim_skip))))
 sim_retV))) rfl h
abbrev st_pairs_by : Stmt := topS 39
theorem sc_pairs_by : FnScope ["rounds", "pair", "grants", "accepts"] ["rounds"] (defScope st_pairs_by) := ⟨rfl, rfl, rfl, by decide +kernel, rfl, by decide +kernel, by decide +kernel⟩
def w_pairs_by : WF := wFn false 1 3 (wRet (wCbT oSortP (wCons (wLc2 (wIt (wVar 0)) (wGTup 2 (wGCons (wName 2) (wGCons (wName 3) wGNil))) wYes (wIt (wVar 3)) (wName 1) wYes (wVar 1) [2, 3, 1] [1]) wNil)))
theorem w_pairs_by_len {ds : List PyData} {N : Nat} {R : T → Nat → Prop} (h : w_pairs_by ds N R) : ds.length = 1 := h.1
theorem ok_pairs_by {f : Addr} {fd : FuncData} (F : Fun K "pairs_by" "pairs_by" st_pairs_by f fd) (B : Bm mg)  : FnOk P w K mg base CX0 1 f fd ["rounds"] (spW false 1 w_pairs_by) := by
  refine F.ok sc_pairs_by (fun vs H Q E h => spW_len h) (fun cdv A outer s H vs Q E hr h => ?_)
  refine ⟨_, (pss_one (ps_ret (pe_callB (sortedPK K) (by rfl) B.sorted (by decide +kernel) (pa_cons (pe_lc2 (own := [("grants", 2), ("accepts", 3), ("pair", 1)]) (vs1 := [1]) rfl sc_pairs_by.nd (pi_seq K (pv 0)) (blkOk_by (own := [("grants", 2), ("accepts", 3), ("pair", 1)]) (by kernel_rfl)) (by decide) (fun _ _ _ _ _ => (pg_tupK K (n := 2) rfl (pgs_cons (pg_name (i := 2) sc_pairs_by.nd rfl (.inl rfl)) (pgs_cons (pg_name (i := 3) sc_pairs_by.nd rfl (.inl rfl)) pgs_nil)))) (fun _ _ _ _ _ => pts_nil) (fun _ _ _ _ _ => (pi_seq K (pv 3))) (fun _ _ _ _ _ => (pg_name (i := 1) sc_pairs_by.nd rfl (.inl rfl))) (fun _ _ _ _ _ => pts_nil) (fun _ _ _ _ _ => (pv 1))) pa_nil)))), ?_⟩
  exact run_w (k := 3) ((sim_ret (sim_cbT cn_sortP (sim_cons (sim_lc2 (sim_it sim_var) (sim_gtup (sim_gcons (sim_name (vs := [2, 3, 1]) (by decide)) (sim_gcons (sim_name (vs := [2, 3, 1]) (by decide)) sim_gnil))) sim_yes (sim_it sim_var) (sim_name (vs := [1]) (by decide)) sim_yes sim_var) sim_nil)))) rfl h
abbrev st_Grants_init : Stmt := inClass (topS 40) 0
theorem sc_Grants_init : FnScope ["self", "inlets", "outlets", "shares"] ["self", "inlets", "outlets", "shares"] (defScope st_Grants_init) := ⟨rfl, rfl, rfl, by decide +kernel, rfl, by decide +kernel, by decide +kernel⟩
def w_Grants_init (κ : Nat → Addr) : WFX := wFnX false [true, false, false, false] 0 (wSeq (wIfS (wNot (wTest (wCall w_is_size (wCons (wVar 1) wNil))))
 wNever
 wSkip)
 (wSeq (wIfS (wNot (wTest (wCall w_is_size (wCons (wVar 2) wNil))))
 wNever
 wSkip)
 (wSeq (wFNew 0 (κ 0) [] ns_Grants_1 (wPV 0) (wSh (wVar 1)))
 (wSeq (wFNew 0 (κ 0) ns_Grants_1 ns_Grants_2 (wPV 0) (wSh (wVar 2)))
 (wSeq (wFNew 0 (κ 0) ns_Grants_2 ns_Grants_3 (wPV 0) (wCallT w_shares_for (wCons (wVar 1) (wCons (wVar 2) (wCons (wVar 3) wNil)))))
 (wSeq (wFNew 0 (κ 0) ns_Grants_3 ns_Grants_4 (wPV 0) (wOpT oRep (wLst (wCons (wTup (wCons (wC (.int 0)) (wCons (wC (.int 0)) wNil))) wNil)) (wVar 2)))
 (wFNew 0 (κ 0) ns_Grants_4 ns_Grants (wPV 0) (wOpT oRep (wLst (wCons (wC (.int 0)) wNil)) (wVar 1)))))))))
theorem ok_Grants_init {f : Addr} {fd : FuncData} (F : Fun K "__init__" "Grants.__init__" st_Grants_init f fd) (B : Bm mg) {f_is_size : Addr} {fd_is_size : FuncData} (d_is_size : Df P w K mg base 3 "is_size" st_is_size ["thing"] f_is_size fd_is_size (spW false 1 w_is_size)) {f_shares_for : Addr} {fd_shares_for : FuncData} (d_shares_for : Df P w K mg base 5 "shares_for" st_shares_for ["inlets", "outlets", "shares"] f_shares_for fd_shares_for (spW false 3 w_shares_for)) (c_Grants : Cls K (κ 0)) (n_Grants_inlets : NoAttr K (κ 0) "inlets") (n_Grants_outlets : NoAttr K (κ 0) "outlets") (n_Grants_shares : NoAttr K (κ 0) "shares") (n_Grants_outlet_pointers : NoAttr K (κ 0) "outlet_pointers") (n_Grants_inlet_places : NoAttr K (κ 0) "inlet_places") : FnOk P w K mg base CX0 6 f fd ["self", "inlets", "outlets", "shares"] (spX false 4 (w_Grants_init κ)) := by
  refine F.ok sc_Grants_init (fun vs H Q E h => spX_len h) (fun cdv A outer s H vs Q E hr h => ?_)
  refine ⟨_, (pss_cons (ps_if (pt_not (pt_val (pe_call d_is_size.G (hr.mono (by omega)) (by rfl) d_is_size.g d_is_size.F.kp d_is_size.b .nil pass0 (pa_cons (pv 1) pa_nil))))
 (pss_one ps_never)
 pss_nil)
 (pss_cons (ps_if (pt_not (pt_val (pe_call d_is_size.G (hr.mono (by omega)) (by rfl) d_is_size.g d_is_size.F.kp d_is_size.b .nil pass0 (pa_cons (pv 2) pa_nil))))
 (pss_one ps_never)
 pss_nil)
 (pss_cons (ps_fld (pv 0) (pv 1) (by rfl))
 (pss_cons (ps_fld (pv 0) (pv 2) (by rfl))
 (pss_cons (ps_fld (pv 0) (pe_call d_shares_for.G (hr.mono (by omega)) (by rfl) d_shares_for.g d_shares_for.F.kp d_shares_for.b .nil pass0 (pa_cons (pv 1) (pa_cons (pv 2) (pa_cons (pv 3) pa_nil)))) (by rfl))
 (pss_cons (ps_fld (pv 0) (pe_op op_mulU (pe_lst (pa_cons (pe_tup (pa_cons pe_int (pa_cons pe_int pa_nil))) pa_nil)) (pv 2)) (by rfl))
 (pss_one (ps_fld (pv 0) (pe_op op_mulU (pe_lst (pa_cons pe_int pa_nil)) (pv 1)) (by rfl))))))))), ?_⟩
  exact run_x (md := [true, false, false, false]) (k := 0) ((sim_seq (sim_ifS (sim_not (sim_tB (sim_call w_is_size_len (sim_cons sim_var sim_nil))))
 sim_never
 sim_skip)
 (sim_seq (sim_ifS (sim_not (sim_tB (sim_call w_is_size_len (sim_cons sim_var sim_nil))))
 sim_never
 sim_skip)
 (sim_seq (sim_fnew fz_Grants_0 rfl c_Grants n_Grants_inlets (by decide) sim_pv (sim_sh sim_var))
 (sim_seq (sim_fnew fz_Grants_1 rfl c_Grants n_Grants_outlets (by decide) sim_pv (sim_sh sim_var))
 (sim_seq (sim_fnew fz_Grants_2 rfl c_Grants n_Grants_shares (by decide) sim_pv (sim_callT w_shares_for_len (sim_cons sim_var (sim_cons sim_var (sim_cons sim_var sim_nil)))))
 (sim_seq (sim_fnew fz_Grants_3 rfl c_Grants n_Grants_outlet_pointers (by decide) sim_pv (sim_opT on_mulU (sim_lst (sim_cons (sim_tup (sim_cons sim_int (sim_cons sim_int sim_nil))) sim_nil)) sim_var))
 (sim_fnew fz_Grants_4 rfl c_Grants n_Grants_inlet_places (by decide) sim_pv (sim_opT on_mulU (sim_lst (sim_cons sim_int sim_nil)) sim_var))))))))) rfl h
abbrev st_Grants_turn : Stmt := inClass (topS 40) 2
theorem sc_Grants_turn : FnScope ["self", "accepts", "inlet", "outlet"] ["self", "accepts"] (defScope st_Grants_turn) := ⟨rfl, rfl, rfl, by decide +kernel, rfl, by decide +kernel, by decide +kernel⟩
def w_Grants_turn (κ : Nat → Addr) : WFX := wFnX false [true, false] 2 (wFor (wIt (wVar 1)) (wGTup 2 (wGCons (wName 2) (wGCons (wName 3) wGNil)))
 (wSeq (wSetPl 0 (wPF 0 (κ 0) ns_Grants 3 (wPV 0)) (wVar 3) (wVt (wSh (wCall w_passed (wCons (wOp oIx (wFd (κ 0) ns_Grants 3 (wVar 0)) (wVar 3)) (wCons (wVar 2) (wCons (wOp oIx (wFd (κ 0) ns_Grants 2 (wVar 0)) (wVar 3)) wNil)))))))
 (wSetPl 0 (wPF 0 (κ 0) ns_Grants 4 (wPV 0)) (wVar 2) (wVt (wSh (wOp oMod (wOp oAdd (wVar 3) (wC (.int 1))) (wFd (κ 0) ns_Grants 1 (wVar 0))))))))
theorem ok_Grants_turn {f : Addr} {fd : FuncData} (F : Fun K "turn" "Grants.turn" st_Grants_turn f fd) (B : Bm mg) {f_passed : Addr} {fd_passed : FuncData} (d_passed : Df P w K mg base 1 "passed" st_passed ["pointer", "inlet", "shares"] f_passed fd_passed (spW false 3 w_passed)) (c_Grants : Cls K (κ 0)) (n_Grants_outlet_pointers : NoAttr K (κ 0) "outlet_pointers") (n_Grants_shares : NoAttr K (κ 0) "shares") (n_Grants_inlet_places : NoAttr K (κ 0) "inlet_places") (n_Grants_outlets : NoAttr K (κ 0) "outlets") : FnOk P w K mg base CX0 2 f fd ["self", "accepts"] (spX false 2 (w_Grants_turn κ)) := by
  refine F.ok sc_Grants_turn (fun vs H Q E h => spX_len h) (fun cdv A outer s H vs Q E hr h => ?_)
  refine ⟨_, (pss_one (ps_for PassesOwn.never rfl (pi_seq K (pv 1)) (pg_tupK K (n := 2) rfl (pgs_cons (pg_name (i := 2) sc_Grants_turn.nd rfl (.inl rfl)) (pgs_cons (pg_name (i := 3) sc_Grants_turn.nd rfl (.inl rfl)) pgs_nil)))
 (pss_cons (ps_asg (pe_call d_passed.G (hr.mono (by omega)) (by rfl) d_passed.g d_passed.F.kp d_passed.b .nil pass0 (pa_cons (pe_ix (ixSK K) (pe_fldK K (pv 0)) (pv 3) (fun _ _ => rfl)) (pa_cons (pv 2) (pa_cons (pe_ix (ixSK K) (pe_fldK K (pv 0)) (pv 3) (fun _ _ => rfl)) pa_nil)))) (pg_sub (pe_fld (pv 0) (by rfl)) (pv 3) set_list))
 (pss_one (ps_asg (pe_op op_mod (pe_op op_addU (pv 3) pe_int) (pe_fldK K (pv 0))) (pg_sub (pe_fld (pv 0) (by rfl)) (pv 2) set_list)))))), ?_⟩
  exact run_x (md := [true, false]) (k := 2) ((sim_for (sim_it sim_var) (sim_gtup (sim_gcons (sim_name (vs := [2, 3]) (by decide)) (sim_gcons (sim_name (vs := [2, 3]) (by decide)) sim_gnil)))
 (sim_seq (sim_setPl (sim_pf fx_Grants_outlet_pointers c_Grants n_Grants_outlet_pointers sim_pv) sim_var (sim_vt (sim_sh (sim_call w_passed_len (sim_cons (sim_op od_ix (sim_fd fx_Grants_outlet_pointers c_Grants n_Grants_outlet_pointers sim_var) sim_var) (sim_cons sim_var (sim_cons (sim_op od_ix (sim_fd fx_Grants_shares c_Grants n_Grants_shares sim_var) sim_var) sim_nil)))))))
 (sim_setPl (sim_pf fx_Grants_inlet_places c_Grants n_Grants_inlet_places sim_pv) sim_var (sim_vt (sim_sh (sim_op od_mod (sim_op od_add sim_var sim_int) (sim_fd fx_Grants_outlets c_Grants n_Grants_outlets sim_var)))))))) rfl h
abbrev st_Grants_beat : Stmt := inClass (topS 40) 1
theorem sc_Grants_beat : FnScope ["self", "table", "rounds", "told", "left", "grants", "accepts"] ["self", "table", "rounds"] (defScope st_Grants_beat) := ⟨rfl, rfl, rfl, by decide +kernel, rfl, by decide +kernel, by decide +kernel⟩
def w_Grants_beat (κ : Nat → Addr) : WFX := wFnX false [true, false, false] 4 (wSeq (wAsgT 3 (wLstT wNilT))
 (wSeq (wAsg (wVar 1) (wName 4))
 (wSeq (wWhile (wVb (wTest (wOp oLt (wCb oLen (wCons (wVar 3) wNil)) (wVar 2))))
 (wSeq (wAsgT 5 (wVt (wCallT w_grants_by (wCons (wVar 4) (wCons (wFd (κ 0) ns_Grants 3 (wVar 0)) wNil)))))
 (wSeq (wIfS (wVb (wNot (wTru (wVar 5))))
 wBreak
 wSkip)
 (wSeq (wAsgT 6 (wVt (wCallT w_accepts_by (wCons (wVar 5) (wCons (wFd (κ 0) ns_Grants 4 (wVar 0)) (wCons (wFd (κ 0) ns_Grants 1 (wVar 0)) wNil))))))
 (wSeq (wIfS (wVb (wNot (wTru (wVar 3))))
 (wDropX (wLend 0 (wMeth (κ 0) ns_Grants (w_Grants_turn κ) (fun ds _ => ds ++ []) 2 0 2 0 (wPV 0) (wCons (wVar 6) wNil) wNil)))
 wSkip)
 (wSeq (wAppMv 3 5 6)
 (wAsg (wFz (wVtA [(6, 3)] (wCallT w_asks_left (wCons (wVar 4) (wCons (wVar 6) wNil))))) (wName 4))))))))
 (wRetVX 3))))
theorem ok_Grants_beat {f : Addr} {fd : FuncData} (F : Fun K "beat" "Grants.beat" st_Grants_beat f fd) (B : Bm mg) {f_Grants_turn : Addr} {fd_Grants_turn : FuncData} (d_Grants_turn : Dm P w K mg base 2 "turn" "Grants.turn" st_Grants_turn ["self", "accepts"] f_Grants_turn fd_Grants_turn (spX false 2 (w_Grants_turn κ))) {f_accepts_by : Addr} {fd_accepts_by : FuncData} (d_accepts_by : Df P w K mg base 3 "accepts_by" st_accepts_by ["grants", "places", "outlets"] f_accepts_by fd_accepts_by (spW false 3 w_accepts_by)) {f_asks_left : Addr} {fd_asks_left : FuncData} (d_asks_left : Df P w K mg base 2 "asks_left" st_asks_left ["table", "pairs"] f_asks_left fd_asks_left (spW false 2 w_asks_left)) {f_grants_by : Addr} {fd_grants_by : FuncData} (d_grants_by : Df P w K mg base 3 "grants_by" st_grants_by ["table", "pointers"] f_grants_by fd_grants_by (spW false 2 w_grants_by)) (c_Grants : Cls K (κ 0)) (n_Grants_outlet_pointers : NoAttr K (κ 0) "outlet_pointers") (n_Grants_outlets : NoAttr K (κ 0) "outlets") (n_Grants_inlet_places : NoAttr K (κ 0) "inlet_places") (m_Grants_turn : Meth K (κ 0) "turn" f_Grants_turn) (b_Grants_turn : Binds K fd_Grants_turn ["self", "accepts"] []) : FnOk P w K mg base CX0 4 f fd ["self", "table", "rounds"] (spX false 3 (w_Grants_beat κ)) := by
  refine F.ok sc_Grants_beat (fun vs H Q E h => spX_len h) (fun cdv A outer s H vs Q E hr h => ?_)
  refine ⟨_, (pss_cons (ps_set (i := 3) sc_Grants_beat.nd rfl (.inl rfl) (pe_lst pa_nil))
 (pss_cons (ps_set (i := 4) sc_Grants_beat.nd rfl (.inl rfl) (pv 1))
 (pss_cons (ps_while PassesOwn.never (pt_cmpR op_lt (pe_callB (lenK K) (by rfl) B.len (by decide +kernel) (pa_cons (pv 3) pa_nil)) (pv 2) (nomark _))
 (pss_cons (ps_set (i := 5) sc_Grants_beat.nd rfl (.inl rfl) (pe_call d_grants_by.G (hr.mono (by omega)) (by rfl) d_grants_by.g d_grants_by.F.kp d_grants_by.b .nil pass0 (pa_cons (pv 4) (pa_cons (pe_fldK K (pv 0)) pa_nil))))
 (pss_cons (ps_if (pt_not (pt_truthK K (pv 5) (by intro _; rfl)))
 (pss_one ps_break)
 pss_nil)
 (pss_cons (ps_set (i := 6) sc_Grants_beat.nd rfl (.inl rfl) (pe_call d_accepts_by.G (hr.mono (by omega)) (by rfl) d_accepts_by.g d_accepts_by.F.kp d_accepts_by.b .nil pass0 (pa_cons (pv 5) (pa_cons (pe_fldK K (pv 0)) (pa_cons (pe_fldK K (pv 0)) pa_nil)))))
 (pss_cons (ps_if (pt_not (pt_truthK K (pv 3) (by intro _; rfl)))
 (pss_one (ps_expr (pe_meth (pv 0) c_Grants m_Grants_turn d_Grants_turn.G (hr.mono (by omega)) b_Grants_turn .nil pass0 (pa_cons (pv 6) pa_nil))))
 pss_nil)
 (pss_cons (ps_expr (pe_bm PySem.F.plainAttrs_list PySem.F.slot_list_append PySem.F.type_list_append mt_append (pv 3) (pa_cons (pe_tup (pa_cons (pv 5) (pa_cons (pv 6) pa_nil))) pa_nil)))
 (pss_one (ps_set (i := 4) sc_Grants_beat.nd rfl (.inl rfl) (pe_call d_asks_left.G (hr.mono (by omega)) (by rfl) d_asks_left.g d_asks_left.F.kp d_asks_left.b .nil pass0 (pa_cons (pv 4) (pa_cons (pv 6) pa_nil)))))))))))
 (pss_one (ps_ret (pv 3)))))), ?_⟩
  exact run_x (md := [true, false, false]) (k := 4) ((sim_seq (sim_asgT (sim_lstT sim_nilT))
 (sim_seq (sim_asg sim_var (sim_name (vs := [4]) (by decide)))
 (sim_seq (sim_while (sim_vb (sim_test (sim_op od_lt (sim_cb cb_len (sim_cons sim_var sim_nil)) sim_var)))
 (sim_seq (sim_asgT (sim_vt (sim_callT w_grants_by_len (sim_cons sim_var (sim_cons (sim_fd fx_Grants_outlet_pointers c_Grants n_Grants_outlet_pointers sim_var) sim_nil)))))
 (sim_seq (sim_ifS (sim_vb (sim_not (sim_tru sim_var)))
 sim_brk
 sim_skip)
 (sim_seq (sim_asgT (sim_vt (sim_callT w_accepts_by_len (sim_cons sim_var (sim_cons (sim_fd fx_Grants_inlet_places c_Grants n_Grants_inlet_places sim_var) (sim_cons (sim_fd fx_Grants_outlets c_Grants n_Grants_outlets sim_var) sim_nil))))))
 (sim_seq (sim_ifS (sim_vb (sim_not (sim_tru sim_var)))
 (sim_dropX (sim_lend (sim_meth (n := 2) fn_Grants_turn (fun _ => .nil) sim_pv (sim_cons sim_var sim_nil))))
 sim_skip)
 (sim_seq (sim_appMv (by decide) (by decide) (by decide))
 (sim_asg (sim_fz (sim_vtA (sim_callT w_asks_left_len (sim_cons sim_var (sim_cons sim_var sim_nil))))) (sim_name (vs := [4]) (by decide)))))))))
 sim_retVX)))) rfl h
abbrev st_Grants_pointers : Stmt := inClass (topS 40) 3
theorem sc_Grants_pointers : FnScope ["self"] ["self"] (defScope st_Grants_pointers) := ⟨rfl, rfl, rfl, by decide +kernel, rfl, by decide +kernel, by decide +kernel⟩
def w_Grants_pointers (κ : Nat → Addr) : WF := wFn false 1 0 (wRet (wCbT oList (wCons (wFd (κ 0) ns_Grants 3 (wVar 0)) wNil)))
theorem w_Grants_pointers_len (κ : Nat → Addr) {ds : List PyData} {N : Nat} {R : T → Nat → Prop} (h : (w_Grants_pointers κ) ds N R) : ds.length = 1 := h.1
theorem ok_Grants_pointers {f : Addr} {fd : FuncData} (F : Fun K "pointers" "Grants.pointers" st_Grants_pointers f fd) (B : Bm mg) (c_Grants : Cls K (κ 0)) (n_Grants_outlet_pointers : NoAttr K (κ 0) "outlet_pointers") : FnOk P w K mg base CX0 1 f fd ["self"] (spW false 1 (w_Grants_pointers κ)) := by
  refine F.ok sc_Grants_pointers (fun vs H Q E h => spW_len h) (fun cdv A outer s H vs Q E hr h => ?_)
  refine ⟨_, (pss_one (ps_ret (pe_callTy (listK K) (by rfl) B.list (by decide +kernel) (pa_cons (pe_fldK K (pv 0)) pa_nil)))), ?_⟩
  exact run_w (k := 0) ((sim_ret (sim_cbT cn_list (sim_cons (sim_fd fx_Grants_outlet_pointers c_Grants n_Grants_outlet_pointers sim_var) sim_nil)))) rfl h
abbrev st_ahead_of : Stmt := topS 28
theorem sc_ahead_of : FnScope ["grants", "inlet", "outlet", "shares", "ahead", "place", "count", "step"] ["grants", "inlet", "outlet"] (defScope st_ahead_of) := ⟨rfl, rfl, rfl, by decide +kernel, rfl, by decide +kernel, by decide +kernel⟩
def w_ahead_of (κ : Nat → Addr) : WF := wFn false 3 5 (wSeq (wAsg (wOp oIx (wFz (wMethV (κ 0) ns_Grants (w_Grants_pointers κ) [] (wVar 0) wNil)) (wVar 2)) (wGTup 2 (wGCons (wName 5) (wGCons (wName 6) wGNil))))
 (wSeq (wAsg (wOp oIx (wFd (κ 0) ns_Grants 2 (wVar 0)) (wVar 2)) (wName 3))
 (wSeq (wIfS (wTest (wOp oEq (wVar 5) (wVar 1)))
 (wRet (wSh (wC (.int 0))))
 wSkip)
 (wSeq (wAsg (wCall w_steps_to (wCons (wVar 1) (wCons (wVar 5) (wCons (wFd (κ 0) ns_Grants 0 (wVar 0)) wNil)))) (wName 4))
 (wRet (wSh (wOp oSub (wCb oSumS (wCons (wLc (wRng1 (wVar 4)) (wName 7) wYes (wOp oIx (wVar 3) (wOp oMod (wOp oAdd (wVar 5) (wVar 7)) (wFd (κ 0) ns_Grants 0 (wVar 0)))) [7]) wNil)) (wVar 6))))))))
theorem w_ahead_of_len (κ : Nat → Addr) {ds : List PyData} {N : Nat} {R : T → Nat → Prop} (h : (w_ahead_of κ) ds N R) : ds.length = 3 := h.1
theorem ok_ahead_of {f : Addr} {fd : FuncData} (F : Fun K "ahead_of" "ahead_of" st_ahead_of f fd) (B : Bm mg) {f_Grants_pointers : Addr} {fd_Grants_pointers : FuncData} (d_Grants_pointers : Dm P w K mg base 1 "pointers" "Grants.pointers" st_Grants_pointers ["self"] f_Grants_pointers fd_Grants_pointers (spW false 1 (w_Grants_pointers κ))) {f_steps_to : Addr} {fd_steps_to : FuncData} (d_steps_to : Df P w K mg base 1 "steps_to" st_steps_to ["target", "place", "many"] f_steps_to fd_steps_to (spW false 3 w_steps_to)) (c_Grants : Cls K (κ 0)) (m_Grants_pointers : Meth K (κ 0) "pointers" f_Grants_pointers) (b_Grants_pointers : Binds K fd_Grants_pointers ["self"] []) (n_Grants_shares : NoAttr K (κ 0) "shares") (n_Grants_inlets : NoAttr K (κ 0) "inlets") : FnOk P w K mg base CX0 2 f fd ["grants", "inlet", "outlet"] (spW false 3 (w_ahead_of κ)) := by
  refine F.ok sc_ahead_of (fun vs H Q E h => spW_len h) (fun cdv A outer s H vs Q E hr h => ?_)
  refine ⟨_, (pss_cons (ps_asg (pe_ix (ixSK K) (pe_meth0 (pv 0) c_Grants m_Grants_pointers d_Grants_pointers.G (hr.mono (by omega)) b_Grants_pointers .nil pass0) (pv 2) (fun _ _ => rfl)) (pg_tupK K (n := 2) rfl (pgs_cons (pg_name (i := 5) sc_ahead_of.nd rfl (.inr rfl)) (pgs_cons (pg_name (i := 6) sc_ahead_of.nd rfl (.inl rfl)) pgs_nil))))
 (pss_cons (ps_set (i := 3) sc_ahead_of.nd rfl (.inr rfl) (pe_ix (ixSK K) (pe_fldK K (pv 0)) (pv 2) (fun _ _ => rfl)))
 (pss_cons (ps_if (pt_cmpR (op_eqU K hr.units) (pv 5) (pv 1) (nomark _))
 (pss_one (ps_ret pe_int))
 pss_nil)
 (pss_cons (ps_set (i := 4) sc_ahead_of.nd rfl (.inl rfl) (pe_call d_steps_to.G (hr.mono (by omega)) (by rfl) d_steps_to.g d_steps_to.F.kp d_steps_to.b .nil pass0 (pa_cons (pv 1) (pa_cons (pv 5) (pa_cons (pe_fldK K (pv 0)) pa_nil)))))
 (pss_one (ps_ret (pe_op op_sub (pe_callB (sumSK K) (by rfl) B.sum (by decide +kernel) (pa_cons (pe_lc (own := [("step", 7)]) rfl sc_ahead_of.nd (pi_range1 (by rfl) B.range (pa_cons (pv 4) pa_nil)) (blkOk_by (own := [("step", 7)]) (by kernel_rfl)) (fun _ _ _ _ _ => (pg_name (i := 7) sc_ahead_of.nd rfl (.inl rfl))) (fun _ _ _ _ _ => pts_nil) (fun _ _ _ _ _ => (pe_ix (ixSK K) (pv 3) (pe_op op_mod (pe_op op_addU (pv 5) (pv 7)) (pe_fldK K (pv 0))) (fun _ _ => rfl)))) pa_nil)) (pv 6)))))))), ?_⟩
  exact run_w (k := 5) ((sim_seq (sim_asg (sim_op od_ix (sim_fz (sim_methV fn_Grants_pointers (fun _ => .nil) (w_Grants_pointers_len κ) sim_var sim_nil)) sim_var) (sim_gtup (sim_gcons (sim_name (vs := [5, 6]) (by decide)) (sim_gcons (sim_name (vs := [5, 6]) (by decide)) sim_gnil))))
 (sim_seq (sim_asg (sim_op od_ix (sim_fd fx_Grants_shares c_Grants n_Grants_shares sim_var) sim_var) (sim_name (vs := [3]) (by decide)))
 (sim_seq (sim_ifS (sim_test (sim_op od_eq sim_var sim_var))
 (sim_ret (sim_sh sim_int))
 sim_skip)
 (sim_seq (sim_asg (sim_call w_steps_to_len (sim_cons sim_var (sim_cons sim_var (sim_cons (sim_fd fx_Grants_inlets c_Grants n_Grants_inlets sim_var) sim_nil)))) (sim_name (vs := [4]) (by decide)))
 (sim_ret (sim_sh (sim_op od_sub (sim_cb cb_sumS (sim_cons (sim_lc (sim_r1 sim_var) (sim_name (vs := [7]) (by decide)) sim_yes (sim_op od_ix sim_var (sim_op od_mod (sim_op od_add sim_var sim_var) (sim_fd fx_Grants_inlets c_Grants n_Grants_inlets sim_var)))) sim_nil)) sim_var)))))))) rfl h
abbrev st_within : Stmt := topS 30
theorem sc_within : FnScope ["grants", "inlet", "outlet"] ["grants", "inlet", "outlet"] (defScope st_within) := ⟨rfl, rfl, rfl, by decide +kernel, rfl, by decide +kernel, by decide +kernel⟩
def w_within (κ : Nat → Addr) : WF := wFn false 3 0 (wRet (wSh (wOp oMul (wOp oMul (wOp oAdd (wCall (w_ahead_of κ) (wCons (wVar 0) (wCons (wVar 1) (wCons (wVar 2) wNil)))) (wC (.int 1))) (wFd (κ 0) ns_Grants 0 (wVar 0))) (wFd (κ 0) ns_Grants 1 (wVar 0)))))
theorem w_within_len (κ : Nat → Addr) {ds : List PyData} {N : Nat} {R : T → Nat → Prop} (h : (w_within κ) ds N R) : ds.length = 3 := h.1
theorem ok_within {f : Addr} {fd : FuncData} (F : Fun K "within" "within" st_within f fd) (B : Bm mg) {f_ahead_of : Addr} {fd_ahead_of : FuncData} (d_ahead_of : Df P w K mg base 2 "ahead_of" st_ahead_of ["grants", "inlet", "outlet"] f_ahead_of fd_ahead_of (spW false 3 (w_ahead_of κ))) (c_Grants : Cls K (κ 0)) (n_Grants_inlets : NoAttr K (κ 0) "inlets") (n_Grants_outlets : NoAttr K (κ 0) "outlets") : FnOk P w K mg base CX0 3 f fd ["grants", "inlet", "outlet"] (spW false 3 (w_within κ)) := by
  refine F.ok sc_within (fun vs H Q E h => spW_len h) (fun cdv A outer s H vs Q E hr h => ?_)
  refine ⟨_, (pss_one (ps_ret (pe_op op_mulU (pe_op op_mulU (pe_op op_addU (pe_call d_ahead_of.G (hr.mono (by omega)) (by rfl) d_ahead_of.g d_ahead_of.F.kp d_ahead_of.b .nil pass0 (pa_cons (pv 0) (pa_cons (pv 1) (pa_cons (pv 2) pa_nil)))) pe_int) (pe_fldK K (pv 0))) (pe_fldK K (pv 0))))), ?_⟩
  exact run_w (k := 0) ((sim_ret (sim_sh (sim_op od_mul (sim_op od_mul (sim_op od_add (sim_call (w_ahead_of_len κ) (sim_cons sim_var (sim_cons sim_var (sim_cons sim_var sim_nil)))) sim_int) (sim_fd fx_Grants_inlets c_Grants n_Grants_inlets sim_var)) (sim_fd fx_Grants_outlets c_Grants n_Grants_outlets sim_var))))) rfl h
abbrev st_Grants_places : Stmt := inClass (topS 40) 4
theorem sc_Grants_places : FnScope ["self"] ["self"] (defScope st_Grants_places) := ⟨rfl, rfl, rfl, by decide +kernel, rfl, by decide +kernel, by decide +kernel⟩
def w_Grants_places (κ : Nat → Addr) : WF := wFn false 1 0 (wRet (wCbT oList (wCons (wFd (κ 0) ns_Grants 4 (wVar 0)) wNil)))
theorem w_Grants_places_len (κ : Nat → Addr) {ds : List PyData} {N : Nat} {R : T → Nat → Prop} (h : (w_Grants_places κ) ds N R) : ds.length = 1 := h.1
theorem ok_Grants_places {f : Addr} {fd : FuncData} (F : Fun K "places" "Grants.places" st_Grants_places f fd) (B : Bm mg) (c_Grants : Cls K (κ 0)) (n_Grants_inlet_places : NoAttr K (κ 0) "inlet_places") : FnOk P w K mg base CX0 1 f fd ["self"] (spW false 1 (w_Grants_places κ)) := by
  refine F.ok sc_Grants_places (fun vs H Q E h => spW_len h) (fun cdv A outer s H vs Q E hr h => ?_)
  refine ⟨_, (pss_one (ps_ret (pe_callTy (listK K) (by rfl) B.list (by decide +kernel) (pa_cons (pe_fldK K (pv 0)) pa_nil)))), ?_⟩
  exact run_w (k := 0) ((sim_ret (sim_cbT cn_list (sim_cons (sim_fd fx_Grants_inlet_places c_Grants n_Grants_inlet_places sim_var) sim_nil)))) rfl h
abbrev st_left_of : Stmt := topS 29
theorem sc_left_of : FnScope ["grants", "table", "inlet", "outlet", "pointer", "winner", "near", "far"] ["grants", "table", "inlet", "outlet"] (defScope st_left_of) := ⟨rfl, rfl, rfl, by decide +kernel, rfl, by decide +kernel, by decide +kernel⟩
def w_left_of (κ : Nat → Addr) : WF := wFn false 4 4 (wSeq (wIfS (wNot (wTest (wCall w_is_ask (wCons (wVar 1) (wCons (wTup (wCons (wVar 2) (wCons (wVar 3) wNil))) wNil)))))
 wNever
 wSkip)
 (wSeq (wAsg (wOp oIx (wFz (wMethV (κ 0) ns_Grants (w_Grants_pointers κ) [] (wVar 0) wNil)) (wVar 3)) (wName 4))
 (wSeq (wAsg (wCall w_granted (wCons (wOp oIx (wCall w_turned (wCons (wVar 1) wNil)) (wVar 3)) (wCons (wVar 4) wNil))) (wName 5))
 (wSeq (wAsg (wCall w_steps_to (wCons (wVar 5) (wCons (wOp oIx (wVar 4) (wC (.int 0))) (wCons (wFd (κ 0) ns_Grants 0 (wVar 0)) wNil)))) (wName 6))
 (wSeq (wAsg (wCall w_steps_to (wCons (wVar 3) (wCons (wOp oIx (wFz (wMethV (κ 0) ns_Grants (w_Grants_places κ) [] (wVar 0) wNil)) (wVar 5)) (wCons (wFd (κ 0) ns_Grants 1 (wVar 0)) wNil)))) (wName 7))
 (wRet (wSh (wTup (wCons (wCall (w_ahead_of κ) (wCons (wVar 0) (wCons (wVar 2) (wCons (wVar 3) wNil)))) (wCons (wVar 6) (wCons (wVar 7) wNil)))))))))))
theorem w_left_of_len (κ : Nat → Addr) {ds : List PyData} {N : Nat} {R : T → Nat → Prop} (h : (w_left_of κ) ds N R) : ds.length = 4 := h.1
theorem ok_left_of {f : Addr} {fd : FuncData} (F : Fun K "left_of" "left_of" st_left_of f fd) (B : Bm mg) {f_Grants_places : Addr} {fd_Grants_places : FuncData} (d_Grants_places : Dm P w K mg base 1 "places" "Grants.places" st_Grants_places ["self"] f_Grants_places fd_Grants_places (spW false 1 (w_Grants_places κ))) {f_Grants_pointers : Addr} {fd_Grants_pointers : FuncData} (d_Grants_pointers : Dm P w K mg base 1 "pointers" "Grants.pointers" st_Grants_pointers ["self"] f_Grants_pointers fd_Grants_pointers (spW false 1 (w_Grants_pointers κ))) {f_ahead_of : Addr} {fd_ahead_of : FuncData} (d_ahead_of : Df P w K mg base 2 "ahead_of" st_ahead_of ["grants", "inlet", "outlet"] f_ahead_of fd_ahead_of (spW false 3 (w_ahead_of κ))) {f_granted : Addr} {fd_granted : FuncData} (d_granted : Df P w K mg base 2 "granted" st_granted ["asking", "pointer"] f_granted fd_granted (spW false 2 w_granted)) {f_is_ask : Addr} {fd_is_ask : FuncData} (d_is_ask : Df P w K mg base 4 "is_ask" st_is_ask ["table", "thing"] f_is_ask fd_is_ask (spW false 2 w_is_ask)) {f_steps_to : Addr} {fd_steps_to : FuncData} (d_steps_to : Df P w K mg base 1 "steps_to" st_steps_to ["target", "place", "many"] f_steps_to fd_steps_to (spW false 3 w_steps_to)) {f_turned : Addr} {fd_turned : FuncData} (d_turned : Df P w K mg base 1 "turned" st_turned ["table"] f_turned fd_turned (spW false 1 w_turned)) (c_Grants : Cls K (κ 0)) (m_Grants_pointers : Meth K (κ 0) "pointers" f_Grants_pointers) (b_Grants_pointers : Binds K fd_Grants_pointers ["self"] []) (n_Grants_inlets : NoAttr K (κ 0) "inlets") (n_Grants_outlets : NoAttr K (κ 0) "outlets") (m_Grants_places : Meth K (κ 0) "places" f_Grants_places) (b_Grants_places : Binds K fd_Grants_places ["self"] []) : FnOk P w K mg base CX0 5 f fd ["grants", "table", "inlet", "outlet"] (spW false 4 (w_left_of κ)) := by
  refine F.ok sc_left_of (fun vs H Q E h => spW_len h) (fun cdv A outer s H vs Q E hr h => ?_)
  refine ⟨_, (pss_cons (ps_if (pt_not (pt_val (pe_call d_is_ask.G (hr.mono (by omega)) (by rfl) d_is_ask.g d_is_ask.F.kp d_is_ask.b .nil pass0 (pa_cons (pv 1) (pa_cons (pe_tup (pa_cons (pv 2) (pa_cons (pv 3) pa_nil))) pa_nil)))))
 (pss_one ps_never)
 pss_nil)
 (pss_cons (ps_set (i := 4) sc_left_of.nd rfl (.inl rfl) (pe_ix (ixSK K) (pe_meth0 (pv 0) c_Grants m_Grants_pointers d_Grants_pointers.G (hr.mono (by omega)) b_Grants_pointers .nil pass0) (pv 3) (fun _ _ => rfl)))
 (pss_cons (ps_set (i := 5) sc_left_of.nd rfl (.inl rfl) (pe_call d_granted.G (hr.mono (by omega)) (by rfl) d_granted.g d_granted.F.kp d_granted.b .nil pass0 (pa_cons (pe_ix (ixSK K) (pe_call d_turned.G (hr.mono (by omega)) (by rfl) d_turned.g d_turned.F.kp d_turned.b .nil pass0 (pa_cons (pv 1) pa_nil)) (pv 3) (fun _ _ => rfl)) (pa_cons (pv 4) pa_nil))))
 (pss_cons (ps_set (i := 6) sc_left_of.nd rfl (.inl rfl) (pe_call d_steps_to.G (hr.mono (by omega)) (by rfl) d_steps_to.g d_steps_to.F.kp d_steps_to.b .nil pass0 (pa_cons (pv 5) (pa_cons (pe_ix (ixSK K) (pv 4) pe_int (fun _ _ => rfl)) (pa_cons (pe_fldK K (pv 0)) pa_nil)))))
 (pss_cons (ps_set (i := 7) sc_left_of.nd rfl (.inl rfl) (pe_call d_steps_to.G (hr.mono (by omega)) (by rfl) d_steps_to.g d_steps_to.F.kp d_steps_to.b .nil pass0 (pa_cons (pv 3) (pa_cons (pe_ix (ixSK K) (pe_meth0 (pv 0) c_Grants m_Grants_places d_Grants_places.G (hr.mono (by omega)) b_Grants_places .nil pass0) (pv 5) (fun _ _ => rfl)) (pa_cons (pe_fldK K (pv 0)) pa_nil)))))
 (pss_one (ps_ret (pe_tup (pa_cons (pe_call d_ahead_of.G (hr.mono (by omega)) (by rfl) d_ahead_of.g d_ahead_of.F.kp d_ahead_of.b .nil pass0 (pa_cons (pv 0) (pa_cons (pv 2) (pa_cons (pv 3) pa_nil)))) (pa_cons (pv 6) (pa_cons (pv 7) pa_nil))))))))))), ?_⟩
  exact run_w (k := 4) ((sim_seq (sim_ifS (sim_not (sim_tB (sim_call w_is_ask_len (sim_cons sim_var (sim_cons (sim_tup (sim_cons sim_var (sim_cons sim_var sim_nil))) sim_nil)))))
 sim_never
 sim_skip)
 (sim_seq (sim_asg (sim_op od_ix (sim_fz (sim_methV fn_Grants_pointers (fun _ => .nil) (w_Grants_pointers_len κ) sim_var sim_nil)) sim_var) (sim_name (vs := [4]) (by decide)))
 (sim_seq (sim_asg (sim_call w_granted_len (sim_cons (sim_op od_ix (sim_call w_turned_len (sim_cons sim_var sim_nil)) sim_var) (sim_cons sim_var sim_nil))) (sim_name (vs := [5]) (by decide)))
 (sim_seq (sim_asg (sim_call w_steps_to_len (sim_cons sim_var (sim_cons (sim_op od_ix sim_var sim_int) (sim_cons (sim_fd fx_Grants_inlets c_Grants n_Grants_inlets sim_var) sim_nil)))) (sim_name (vs := [6]) (by decide)))
 (sim_seq (sim_asg (sim_call w_steps_to_len (sim_cons sim_var (sim_cons (sim_op od_ix (sim_fz (sim_methV fn_Grants_places (fun _ => .nil) (w_Grants_places_len κ) sim_var sim_nil)) sim_var) (sim_cons (sim_fd fx_Grants_outlets c_Grants n_Grants_outlets sim_var) sim_nil)))) (sim_name (vs := [7]) (by decide)))
 (sim_ret (sim_sh (sim_tup (sim_cons (sim_call (w_ahead_of_len κ) (sim_cons sim_var (sim_cons sim_var (sim_cons sim_var sim_nil)))) (sim_cons sim_var (sim_cons sim_var sim_nil)))))))))))) rfl h
abbrev st_law_box : Stmt := topS 42
theorem sc_law_box : FnScope ["_law_script", "_law_k", "_law_cell"] ["_law_script", "_law_k"] (defScope st_law_box) := ⟨rfl, rfl, rfl, by decide +kernel, rfl, by decide +kernel, by decide +kernel⟩
theorem ok_law_box {f : Addr} {fd : FuncData} (F : Fun K "_law_box" "_law_box" st_law_box f fd) (B : Bm mg) : FnOk P w K mg base CX0 1 f fd ["_law_script", "_law_k"] (spBox K) := by
  refine F.ok sc_law_box (fun vs H Q E h => ?_) (fun cdv A outer s H vs Q E hr h => ?_)
  · obtain ⟨a, ns, k, rfl, _⟩ := h
    rfl
  · obtain ⟨a, ns, k, rfl, hS, hk, q⟩ := h
    refine ⟨_, (pss_cons (ps_set (i := 2) sc_law_box.nd rfl (.inl rfl) (pe_ifExp (pt_cmpR op_lt (pv 1) (pe_callB (lenK K) (by rfl) B.len (by decide +kernel) (pa_cons (pv 0) pa_nil)) (nomark _)) (pe_ix (ixLK K) (pv 0) (pv 1) (fun _ _ => rfl)) pe_int))
 (pss_one (ps_ret (pe_lst (pa_cons (pe_op op_mul (pe_callB call_abs (by rfl) B.abs (by decide +kernel) (pa_cons (pv 2) pa_nil)) (pe_callTy call_int1 (by rfl) B.int (by decide +kernel) (pa_cons (pe_cmpR op_ge (pe_callB call_abs (by rfl) B.abs (by decide +kernel) (pa_cons (pv 2) pa_nil)) (pe_op op_pow pe_int pe_int) (nomark _)) pa_nil))) (pa_cons (pe_op op_mod (pe_op op_mul (pe_op op_add (pe_op op_add (pe_op op_mod (pv 2) pe_int) (pe_op op_mul pe_int (pv 1))) pe_int) pe_int) pe_int) (pa_cons pe_int pa_nil))))))), ?_⟩
    refine q_asg (v := .int (ns.getD k 0)) (ev_if (b := decide ((k : Int) < ((ns.map V.int).length : Int))) (et_test (ev_op (ev_var rfl) (ev_len (ev_var rfl) hS) rv_I0)) (fun hb => ?_) fun hb => ?_) fun H1 e1 => ?_
    · have hb' : (k : Int) < ((ns.map V.int).length : Int) := of_decide_eq_true hb
      have hk2 : k < ns.length := by rw [List.length_map] at hb'; omega
      refine ev_op (ev_var rfl) (ev_var rfl) (rv_ixL hS (atI_nat ?_))
      rw [List.getElem?_map, List.getElem?_eq_getElem hk2, List.getD_eq_getElem?_getD, List.getElem?_eq_getElem hk2] <;> rfl
    · have hb' : ¬ (k : Int) < ((ns.map V.int).length : Int) := of_decide_eq_false hb
      have hk2 : ns.length ≤ k := by rw [List.length_map] at hb'; omega
      rw [List.getD_eq_getElem?_getD, List.getElem?_eq_none hk2]
      exact ev_c
    · generalize ns.getD k 0 = c
      have hab : ∀ {σ : L2.St} {H : Hp}, σ[2]? = some (some (.int c)) → Ev (tCB (fun xs H Q => ∃ i, xs = [V.int i] ∧ Q (V.int (if i < 0 then -i else i)) H) (tCons (tVar 2) tNil)) σ H (.int (if c < 0 then -c else c)) := fun hs => ev_cb1 (ev_var hs) fun H1 Q q => ⟨c, rfl, q⟩
      have hnn : 0 ≤ (if c < 0 then -c else c) := by split <;> omega
      generalize (if c < 0 then -c else c) = ac at hab hnn
      have hbit : ∀ x : Bool, (0 : Int) ≤ (if x = true then 1 else 0) ∧ (if x = true then 1 else 0) ≤ (1 : Int) := fun x => by cases x <;> decide
      refine s_retL (el_lst (ea_cons (ev_op (hab rfl) (ev_cb1 (ev_op (hab rfl) (ev_op ev_c ev_c (rv_I ⟨by decide, by decide, by decide⟩)) rv_I0) fun H1 Q q => .inr ⟨_, rfl, q⟩) (rv_I (.inr ⟨by have := hbit (decide ((10 : Int) ^ (18 : Int).toNat ≤ ac)); omega, by have := hbit (decide ((10 : Int) ^ (18 : Int).toNat ≤ ac)); omega⟩)))
        (ea_cons (ev_op (ev_op (ev_op (ev_op (ev_op (ev_var rfl) ev_c (rv_I (by decide))) (ev_op ev_c (ev_var rfl) (rv_I (.inl ⟨by decide, by decide⟩))) rv_I0) ev_c rv_I0) ev_c (rv_I (.inr ⟨by decide, by decide⟩))) ev_c (rv_I (by decide))) (ea_cons ev_c ea_nil))) (by show 3 ≤ 100000; decide)) fun p H2 np e2 hp => ?_
      refine q p H2 (e1.trans e2) (fresh_back e1 np) ⟨_, _, _, hp, Int.mul_nonneg hnn (hbit _).1, ?_, ?_, Int.le_refl _, Int.le_refl _⟩
      · exact Int.emod_nonneg _ (by decide)
      · exact Int.emod_lt_of_pos _ (by decide)
abbrev st_law_take : Stmt := topS 43
theorem sc_law_take : FnScope ["_law_box_here", "_law_size", "_law_step", "_law_once", "_law_twice", "_law_found"] ["_law_box_here", "_law_size"] (defScope st_law_take) := ⟨rfl, rfl, rfl, by decide +kernel, rfl, by decide +kernel, by decide +kernel⟩
theorem ok0_law_take {f : Addr} {fd : FuncData} (F : Fun K "_law_take" "_law_take" st_law_take f fd) (B : Bm mg) : FnOk P w K mg base CX0 1 f fd ["_law_box_here", "_law_size"] spTake := by
  refine F.ok sc_law_take (fun vs H Q E h => ?_) (fun cdv A outer s H vs Q E hr h => ?_)
  · obtain ⟨b, m, n, rfl, _⟩ := h
    rfl
  · obtain ⟨b, m, n, rfl, hB, hn, hm1, hm2, q⟩ := h
    refine ⟨_, (pss_cons (ps_if (pt_cmpR op_gt (pe_ix (ixLK K) (pv 0) pe_int (fun _ _ => rfl)) pe_int (nomark _))
 (pss_cons (ps_asg (pe_callB call_divmod (by rfl) B.divmod (by decide +kernel) (pa_cons (pe_ix (ixLK K) (pv 0) pe_int (fun _ _ => rfl)) (pa_cons (pv 1) pa_nil))) (pg_tupK K (n := 2) rfl (pgs_cons (pg_sub (pv 0) pe_int set_list) (pgs_cons (pg_name (i := 5) sc_law_take.nd rfl (.inl rfl)) pgs_nil))))
 (pss_one (ps_ret (pv 5))))
 pss_nil)
 (pss_cons (ps_asg (pe_op op_add (pe_ix (ixLK K) (pv 0) pe_int (fun _ _ => rfl)) pe_int) (pg_sub (pv 0) pe_int set_list))
 (pss_cons (ps_set (i := 2) sc_law_take.nd rfl (.inl rfl) (pe_op op_add pe_int (pe_op op_mul (pe_ix (ixLK K) (pv 0) pe_int (fun _ _ => rfl)) (pe_ix (ixLK K) (pv 0) pe_int (fun _ _ => rfl)))))
 (pss_cons (ps_set (i := 3) sc_law_take.nd rfl (.inl rfl) (pe_op op_mod (pe_op op_mul (pe_op op_add (pe_ix (ixLK K) (pv 0) pe_int (fun _ _ => rfl)) (pe_op op_mul pe_int (pe_ix (ixLK K) (pv 0) pe_int (fun _ _ => rfl)))) (pv 2)) pe_int))
 (pss_cons (ps_set (i := 4) sc_law_take.nd rfl (.inl rfl) (pe_op op_mod (pe_op op_add (pe_op op_mul (pv 3) (pe_op op_add (pe_op op_mod (pv 3) pe_int) pe_int)) (pe_ix (ixLK K) (pv 0) pe_int (fun _ _ => rfl))) pe_int))
 (pss_one (ps_ret (pe_op op_mod (pe_op op_fdiv (pe_op op_mod (pe_op op_mul (pv 4) (pe_op op_add (pe_op op_mod (pv 4) pe_int) pe_int)) pe_int) pe_int) (pv 1))))))))), ?_⟩
    obtain ⟨r, sd, c, hb, hr0, hs0, hs1, hc0, hc1⟩ := hB
    have at0 : ∀ {σ : L2.St} {H : Hp} {x y z : V}, σ[0]? = some (some (.ref b)) → H b = some (.lst [x, y, z]) → Ev (tOp (rIxL K) (tVar 0) (tC (.int 0))) σ H x := fun hs hb => ev_op (ev_var hs) ev_c (rv_ixL (SqL.of hb) (atI_nat (j := 0) rfl))
    have at1 : ∀ {σ : L2.St} {H : Hp} {x y z : V}, σ[0]? = some (some (.ref b)) → H b = some (.lst [x, y, z]) → Ev (tOp (rIxL K) (tVar 0) (tC (.int 1))) σ H y := fun hs hb => ev_op (ev_var hs) ev_c (rv_ixL (SqL.of hb) (atI_nat (j := 1) rfl))
    have at2 : ∀ {σ : L2.St} {H : Hp} {x y z : V}, σ[0]? = some (some (.ref b)) → H b = some (.lst [x, y, z]) → Ev (tOp (rIxL K) (tVar 0) (tC (.int 2))) σ H z := fun hs hb => ev_op (ev_var hs) ev_c (rv_ixL (SqL.of hb) (atI_nat (j := 2) rfl))
    refine q_when (b := decide (0 < r)) (et_test (ev_op (at0 rfl hb) ev_c rv_I0)) (fun hp H1 e1 => ?_) fun hp H1 e1 => ?_
    · have hp' : 0 < r := of_decide_eq_true hp
      have hb1 := e1 _ _ hb
      refine at0 rfl hb1 H1 (Ex.refl _) _ fun H2 e2 => ?_
      have hb2 := e2 _ _ hb1
      refine ⟨.int m, rfl, r, m, rfl, ⟨by omega, by omega⟩, fun p np => ?_⟩
      have hpb : p ≠ b := (ne_of_none hb2 np).symm
      refine ⟨p, _, rfl, SqT.of upd_same, rfl, _, _, rfl, .ref b, rfl, b, _, 0, 0, rfl, rfl, by rw [upd_ne hpb.symm]; exact hb2, rfl, _, _, rfl, rfl, ?_⟩
      refine ⟨.int (r % m), rfl, ?_⟩
      have hq : 0 ≤ r / m := Int.ediv_nonneg hr0 (by omega)
      refine q (r % m) _ (Int.emod_nonneg _ (by omega)) (Int.emod_lt_of_pos _ (by omega)) ⟨r / m, sd, c, upd_same, hq, hs0, hs1, hc0, by omega⟩ ?_
      exact ((Keep.of (e1.trans e2)).new np).put (by simp)
    · have hb1 := e1 _ _ hb
      have e2 : Ex H1 H1 := Ex.refl _
      have hb2 := e2 _ _ hb1
      refine q_setL (j := 2) hb2 (ev_op (at2 rfl hb2) ev_c rv_I0) (ev_var rfl) ev_c (by show 2 < 3; decide) fun H3 e3 => ?_
      change tSeq _ _ _ _ (upd H3 b (.lst [.int r, .int sd, .int (c + 1)]))
      have k4 : Keep [b] H (upd H3 b (.lst [.int r, .int sd, .int (c + 1)])) := (Keep.of ((e1.trans e2).trans e3)).put (by simp)
      have hb4 : (upd H3 b (.lst [.int r, .int sd, .int (c + 1)])) b = some (.lst [.int r, .int sd, .int (c + 1)]) := upd_same
      generalize upd H3 b (.lst [.int r, .int sd, .int (c + 1)]) = H4 at k4 hb4
      have hcc : c + 1 ≤ 1000000001 := by omega
      refine q_asg (ev_op ev_c (ev_op (at2 rfl hb4) (at2 rfl hb4) (rv_I (.inl ⟨by omega, by omega⟩))) rv_I0) fun H5 e5 => ?_
      have hb5 := e5 _ _ hb4
      refine q_asg (ev_op (ev_op (ev_op (at1 rfl hb5) (ev_op ev_c (at2 rfl hb5) (rv_I (.inl ⟨by decide, by decide⟩))) rv_I0) (ev_var rfl) (rv_I (.inl ⟨by omega, by omega⟩))) ev_c (rv_I (by decide))) fun H6 e6 => ?_
      have hb6 := e6 _ _ hb5
      generalize ho : ((sd + 39373 * (c + 1)) * (69621 + (c + 1) * (c + 1))) % 2147483587 = once
      have ho1 : 0 ≤ once ∧ once < 2147483587 := by omega
      refine q_asg (ev_op (ev_op (ev_op (ev_var rfl) (ev_op (ev_op (ev_var rfl) ev_c (rv_I (by decide))) ev_c rv_I0) (rv_I (.inl ⟨by omega, by omega⟩))) (at2 rfl hb6) rv_I0) ev_c (rv_I (by decide))) fun H7 e7 => ?_
      generalize ht : (once * (once % 30011 + 5) + (c + 1)) % 2147483563 = twice
      have ht1 : 0 ≤ twice ∧ twice < 2147483563 := by omega
      refine s_ret (ev_op (ev_op (ev_op (ev_op (ev_var rfl) (ev_op (ev_op (ev_var rfl) ev_c (rv_I (by decide))) ev_c rv_I0) (rv_I (.inl ⟨by omega, by omega⟩))) ev_c (rv_I (by decide))) ev_c (rv_I ⟨by decide, by decide⟩)) (ev_var rfl) (rv_I (by show 0 < m; omega))) fun H8 e8 => ?_
      refine q _ H8 (Int.emod_nonneg _ (by omega)) (Int.emod_lt_of_pos _ (by omega)) ⟨r, sd, c + 1, ((e7.trans e8) _ _ (e6 _ _ hb5)), hr0, hs0, hs1, by omega, by omega⟩ (k4.ext (((e5.trans e6).trans e7).trans e8))
abbrev w_law_take : WF := w_take
theorem w_law_take_len {ds : List PyData} {N : Nat} {R : T → Nat → Prop} (h : w_law_take ds N R) : ds.length = 1 := w_take_len h
theorem ok_law_take {f : Addr} {fd : FuncData} (F : Fun K "_law_take" "_law_take" st_law_take f fd) (B : Bm mg) : FnOk P w K mg base CX0 1 f fd ["_law_box_here", "_law_size"] (spW true 1 w_law_take) := (ok0_law_take F B).imp fun _ _ _ _ h => sp_take h
abbrev st_law_folded : Stmt := topS 44
theorem sc_law_folded : FnScope ["_law_script", "_law_size", "_law_cells", "_law_k", "_law_cell"] ["_law_script", "_law_size"] (defScope st_law_folded) := ⟨rfl, rfl, rfl, by decide +kernel, rfl, by decide +kernel, by decide +kernel⟩
theorem ok_law_folded {f : Addr} {fd : FuncData} (F : Fun K "_law_folded" "_law_folded" st_law_folded f fd) (B : Bm mg) : FnOk P w K mg base CX0 1 f fd ["_law_script", "_law_size"] (spFold K) := by
  refine F.ok sc_law_folded (fun vs H Q E h => ?_) (fun cdv A outer s H vs Q E hr h => ?_)
  · obtain ⟨a, ns, z, rfl, _⟩ := h
    rfl
  · obtain ⟨a, ns, z, rfl, hS, hz1, hz2, hl, q⟩ := h
    refine ⟨_, (pss_cons (ps_set (i := 2) sc_law_folded.nd rfl (.inl rfl) (pe_callTy (listK K) (by rfl) B.list (by decide +kernel) (pa_cons (pe_slice (slLK K) (pv 0) po_none (po_some (pv 1))) pa_nil)))
 (pss_cons (ps_for PassesOwn.never rfl (pi_enumK K (by rfl) B.enumerate (pa_cons (pe_slice (slLK K) (pv 0) (po_some (pv 1)) (po_some pe_int)) pa_nil)) (pg_tupK K (n := 2) rfl (pgs_cons (pg_name (i := 3) sc_law_folded.nd rfl (.inl rfl)) (pgs_cons (pg_name (i := 4) sc_law_folded.nd rfl (.inl rfl)) pgs_nil)))
 (pss_one (ps_asg (pe_op op_add (pe_ix (ixLK K) (pv 2) (pe_op op_mod (pv 3) (pv 1)) (fun _ _ => rfl)) (pe_op op_mul (pv 4) (pe_op op_add (pv 3) pe_int))) (pg_sub (pv 2) (pe_op op_mod (pv 3) (pv 1)) set_list))))
 (pss_one (ps_ret (pv 2))))), ?_⟩
    refine el_sl (ev_var rfl) eo_none (eo_some (ev_var rfl)) hS H (Ex.refl _) _ fun p0 H1 np0 e1 hp0 => ⟨p0, _, rfl, .inl (SqL.of hp0), fun l nl => ?_⟩
    rw [cut_hi, ← List.map_take]
    have s1 : Same H (upd H1 l (.lst ((ns.take z).map V.int))) := e1.trans (Ex.new nl)
    have hl0 : H l = none := fresh_back e1 nl
    refine q_forE (el_sl (ev_var rfl) (eo_some (ev_var rfl)) (eo_some ev_c) (s1.seq hS)) (fun p k σ H' => ∃ (ms : List Int) (y3 y4 : Option V), σ = [some (.ref a), some (.int (z : Int)), some (.ref l), y3, y4] ∧ Same H H' ∧ H' l = some (.lst (ms.map V.int)) ∧ ms.length = min z ns.length ∧ H' p = some (.lst (cutV (ns.map V.int) (some (z : Int)) (some 63))) ∧ p ≠ l)
      (fun p H2 np e2 hp => ⟨ns.take z, none, none, rfl, s1.trans e2, e2 _ _ upd_same, by rw [List.length_take], hp, fun h => ?_⟩) (fun p k σ' H' _ hP => ?_) (fun p k x T σ' H' hx hP hT => ?_) (fun p σ' H' hP => ?_)
    · rw [h, upd_same] at np
      cases np
    · obtain ⟨_, _, _, _, _, _, _, hp, _⟩ := hP
      exact SqL.of hp
    · obtain ⟨ms, y3, y4, rfl, sm, hl', len, hp, hpl⟩ := hP
      have hx2 := hx
      rw [show (63 : Int) = ((63 : Nat) : Int) from rfl, cut_both, ← List.map_drop, ← List.map_take] at hx2
      rw [List.getElem?_map, Option.map_eq_some_iff] at hx2
      obtain ⟨n, hn, rfl⟩ := hx2
      have hzn : z < ns.length := by
        have := (List.getElem?_eq_some_iff.mp hn).1
        rw [List.length_take, List.length_drop] at this
        omega
      have hml : ms.length = z := by rw [len]; omega
      have hk63 : k < 1000 := by
        have := (List.getElem?_eq_some_iff.mp hn).1
        rw [List.length_take, List.length_drop] at this
        omega
      have nTl : l ≠ T := ne_of_none hl' hT
      have nTp : p ≠ T := ne_of_none hp hT
      have hj : k % z < (ms.map V.int).length := by rw [List.length_map, hml]; exact Nat.mod_lt _ (by omega)
      have hlT : (upd H' T (.tup [.int (k : Nat), .int n])) l = some (.lst (ms.map V.int)) := by rw [upd_ne nTl]; exact hl'
      have hix : ∀ {σ : L2.St} {H : Hp}, σ[1]? = some (some (.int (z : Int))) → σ[3]? = some (some (.int (k : Nat))) → Ev (tOp (rI (fun _ j => 0 < j) fun i j => .int (i % j)) (tVar 3) (tVar 1)) σ H (.int ((k % z : Nat) : Int)) := fun h1 h2 => ev_is (ev_op (ev_var h2) (ev_var h1) (rv_I (by show (0 : Int) < z; omega))) (by rw [Int.natCast_emod])
      refine s_setL (j := k % z) hlT (v := .int (ms[k % z]'(by rw [List.length_map] at hj; exact hj) + n * ((k : Nat) + 2))) (ev_op (ev_op (ev_var rfl) (hix rfl rfl) (rv_ixL (SqL.of hlT) (atI_nat ?_))) (ev_op (ev_var rfl) (ev_op (ev_var rfl) ev_c rv_I0) (rv_I (.inr ⟨by omega, by omega⟩))) rv_I0) (ev_var rfl) (hix rfl rfl) hj fun H2 e2 => ?_
      · rw [List.getElem?_map, List.getElem?_eq_getElem] <;> rfl
      · refine ⟨ms.set (k % z) (ms[k % z]'(by rw [List.length_map] at hj; exact hj) + n * ((k : Nat) + 2)), _, _, rfl, fun c o ho => ?_, ?_, ?_, ?_, hpl⟩
        · rw [upd_ne (ne_of_none ho hl0)]
          exact e2 _ _ (Ex.new hT _ _ (sm _ _ ho))
        · rw [upd_same, List.map_set]
        · rw [List.length_set]; exact len
        · rw [upd_ne hpl]
          exact e2 _ _ (by rw [upd_ne nTp]; exact hp)
    · obtain ⟨ms, y3, y4, rfl, sm, hl', len, _, _⟩ := hP
      exact s_ret (ev_var rfl) fun H2 e2 => q l ms H2 (sm.trans e2) hl0 (e2 _ _ hl') len
abbrev st_law_sizes : Stmt := topS 46
theorem sc_law_sizes : FnScope ["_law_box_here", "_law_most", "_law_some"] ["_law_box_here", "_law_most"] (defScope st_law_sizes) := ⟨rfl, rfl, rfl, by decide +kernel, rfl, by decide +kernel, by decide +kernel⟩
def w_law_sizes : WF := wFn true 1 1 (wSeq (wAsgT 2 (wLstT (wConsT (wSh (wTup (wCons (wOp oAdd (wC (.int 1)) (wCallB 0 w_law_take (wCons (wCb oMin2 (wCons (wC (.int 4)) (wCons (wVar 1) wNil))) wNil))) (wCons (wOp oAdd (wC (.int 1)) (wCallB 0 w_law_take (wCons (wCb oMin2 (wCons (wC (.int 4)) (wCons (wVar 1) wNil))) wNil))) wNil)))) (wConsT (wSh (wTup (wCons (wVar 1) (wCons (wVar 1) wNil)))) wNilT))))
 (wSeq (wApp 2 (wSh (wTup (wCons (wOp oAdd (wC (.int 1)) (wCallB 0 w_law_take (wCons (wVar 1) wNil))) (wCons (wOp oAdd (wC (.int 1)) (wCallB 0 w_law_take (wCons (wVar 1) wNil))) wNil)))))
 (wRet (wVt (wSh (wOp oIx (wVar 2) (wOp oIx (wLst (wCons (wC (.int 0)) (wCons (wC (.int 0)) (wCons (wC (.int 0)) (wCons (wC (.int 2)) (wCons (wC (.int 2)) (wCons (wC (.int 1)) wNil))))))) (wCallB 0 w_law_take (wCons (wC (.int 6)) wNil)))))))))
theorem w_law_sizes_len {ds : List PyData} {N : Nat} {R : T → Nat → Prop} (h : w_law_sizes ds N R) : ds.length = 1 := h.1
theorem ok_law_sizes {f : Addr} {fd : FuncData} (F : Fun K "_law_sizes" "_law_sizes" st_law_sizes f fd) (B : Bm mg) {f_law_take : Addr} {fd_law_take : FuncData} (d_law_take : Df P w K mg base 1 "_law_take" st_law_take ["_law_box_here", "_law_size"] f_law_take fd_law_take (spW true 1 w_law_take)) : FnOk P w K mg base CX0 2 f fd ["_law_box_here", "_law_most"] (spW true 1 w_law_sizes) := by
  refine F.ok sc_law_sizes (fun vs H Q E h => spW_len h) (fun cdv A outer s H vs Q E hr h => ?_)
  refine ⟨_, (pss_cons (ps_set (i := 2) sc_law_sizes.nd rfl (.inl rfl) (pe_lst (pa_cons (pe_tup (pa_cons (pe_op op_addU pe_int (pe_call d_law_take.G (hr.mono (by omega)) (by rfl) d_law_take.g d_law_take.F.kp d_law_take.b .nil pass0 (pa_cons (pv 0) (pa_cons (pe_callB (call_min2 rfl) (by rfl) B.min (by decide +kernel) (pa_cons pe_int (pa_cons (pv 1) pa_nil))) pa_nil)))) (pa_cons (pe_op op_addU pe_int (pe_call d_law_take.G (hr.mono (by omega)) (by rfl) d_law_take.g d_law_take.F.kp d_law_take.b .nil pass0 (pa_cons (pv 0) (pa_cons (pe_callB (call_min2 rfl) (by rfl) B.min (by decide +kernel) (pa_cons pe_int (pa_cons (pv 1) pa_nil))) pa_nil)))) pa_nil))) (pa_cons (pe_tup (pa_cons (pv 1) (pa_cons (pv 1) pa_nil))) pa_nil))))
 (pss_cons (ps_expr (pe_bm PySem.F.plainAttrs_list PySem.F.slot_list_append PySem.F.type_list_append mt_append (pv 2) (pa_cons (pe_tup (pa_cons (pe_op op_addU pe_int (pe_call d_law_take.G (hr.mono (by omega)) (by rfl) d_law_take.g d_law_take.F.kp d_law_take.b .nil pass0 (pa_cons (pv 0) (pa_cons (pv 1) pa_nil)))) (pa_cons (pe_op op_addU pe_int (pe_call d_law_take.G (hr.mono (by omega)) (by rfl) d_law_take.g d_law_take.F.kp d_law_take.b .nil pass0 (pa_cons (pv 0) (pa_cons (pv 1) pa_nil)))) pa_nil))) pa_nil)))
 (pss_one (ps_ret (pe_ix (ixSK K) (pv 2) (pe_ix (ixSK K) (pe_lst (pa_cons pe_int (pa_cons pe_int (pa_cons pe_int (pa_cons pe_int (pa_cons pe_int (pa_cons pe_int pa_nil))))))) (pe_call d_law_take.G (hr.mono (by omega)) (by rfl) d_law_take.g d_law_take.F.kp d_law_take.b .nil pass0 (pa_cons (pv 0) (pa_cons pe_int pa_nil))) (fun _ _ => rfl)) (fun _ _ => rfl)))))), ?_⟩
  exact run_w (k := 1) ((sim_seq (sim_asgT (sim_lstT (sim_consT (sim_sh (sim_tup (sim_cons (sim_op od_add sim_int (sim_callB w_law_take_len (sim_cons (sim_cb cb_min2 (sim_cons sim_int (sim_cons sim_var sim_nil))) sim_nil))) (sim_cons (sim_op od_add sim_int (sim_callB w_law_take_len (sim_cons (sim_cb cb_min2 (sim_cons sim_int (sim_cons sim_var sim_nil))) sim_nil))) sim_nil)))) (sim_consT (sim_sh (sim_tup (sim_cons sim_var (sim_cons sim_var sim_nil)))) sim_nilT))))
 (sim_seq (sim_app (sim_sh (sim_tup (sim_cons (sim_op od_add sim_int (sim_callB w_law_take_len (sim_cons sim_var sim_nil))) (sim_cons (sim_op od_add sim_int (sim_callB w_law_take_len (sim_cons sim_var sim_nil))) sim_nil)))))
 (sim_ret (sim_vt (sim_sh (sim_op od_ix sim_var (sim_op od_ix (sim_lst (sim_cons sim_int (sim_cons sim_int (sim_cons sim_int (sim_cons sim_int (sim_cons sim_int (sim_cons sim_int sim_nil))))))) (sim_callB w_law_take_len (sim_cons sim_int sim_nil)))))))))) rfl h
abbrev st_law_table : Stmt := topS 47
theorem sc_law_table : FnScope ["_law_box_here", "_law_n", "_law_m", "_law_mode", "_law_i", "_law_k", "_law_j"] ["_law_box_here", "_law_n", "_law_m"] (defScope st_law_table) := ⟨rfl, rfl, rfl, by decide +kernel, rfl, by decide +kernel, by decide +kernel⟩
def w_law_table : WF := wFn true 2 4 (wSeq (wAsg (wCallB 0 w_law_take (wCons (wC (.int 8)) wNil)) (wName 3))
 (wSeq (wIfS (wTest (wOp oLt (wVar 3) (wC (.int 2))))
 (wRet (wLcT (wRng1 (wVar 1)) (wName 5) wYes (wOpT oRep (wLst (wCons (wVar 3) wNil)) (wVar 2)) [5]))
 wSkip)
 (wRet (wLcT (wRng1 (wVar 1)) (wName 4) wYes (wLcT (wRng1 (wVar 2)) (wName 6) wYes (wSh (wCb oInt (wCons (wOp oLt (wCallB 0 w_law_take (wCons (wC (.int 6)) wNil)) (wOp oIx (wLst (wCons (wC (.int 1)) (wCons (wC (.int 3)) (wCons (wC (.int 5)) wNil)))) (wOp oMod (wVar 3) (wC (.int 3))))) wNil))) [6]) [4]))))
theorem w_law_table_len {ds : List PyData} {N : Nat} {R : T → Nat → Prop} (h : w_law_table ds N R) : ds.length = 2 := h.1
theorem ok_law_table {f : Addr} {fd : FuncData} (F : Fun K "_law_table" "_law_table" st_law_table f fd) (B : Bm mg) {f_law_take : Addr} {fd_law_take : FuncData} (d_law_take : Df P w K mg base 1 "_law_take" st_law_take ["_law_box_here", "_law_size"] f_law_take fd_law_take (spW true 1 w_law_take)) : FnOk P w K mg base CX0 2 f fd ["_law_box_here", "_law_n", "_law_m"] (spW true 2 w_law_table) := by
  refine F.ok sc_law_table (fun vs H Q E h => spW_len h) (fun cdv A outer s H vs Q E hr h => ?_)
  refine ⟨_, (pss_cons (ps_set (i := 3) sc_law_table.nd rfl (.inr rfl) (pe_call d_law_take.G (hr.mono (by omega)) (by rfl) d_law_take.g d_law_take.F.kp d_law_take.b .nil pass0 (pa_cons (pv 0) (pa_cons pe_int pa_nil))))
 (pss_cons (ps_if (pt_cmpR op_lt (pv 3) pe_int (nomark _))
 (pss_one (ps_ret (pe_lc (own := [("_law_k", 5)]) rfl sc_law_table.nd (pi_range1 (by rfl) B.range (pa_cons (pv 1) pa_nil)) (blkOk_by (own := [("_law_k", 5)]) (by kernel_rfl)) (fun _ _ _ _ _ => (pg_name (i := 5) sc_law_table.nd rfl (.inl rfl))) (fun _ _ _ _ _ => pts_nil) (fun _ _ _ _ _ => (pe_op op_mulU (pe_lst (pa_cons (pv 3) pa_nil)) (pv 2))))))
 pss_nil)
 (pss_one (ps_ret (pe_lc (own := [("_law_i", 4)]) rfl sc_law_table.nd (pi_range1 (by rfl) B.range (pa_cons (pv 1) pa_nil)) (blkOk_by (own := [("_law_i", 4)]) (by kernel_rfl)) (fun _ _ _ _ _ => (pg_name (i := 4) sc_law_table.nd rfl (.inl rfl))) (fun _ _ _ _ _ => pts_nil) (fun _ _ _ _ _ => (pe_lc (own := [("_law_j", 6)]) rfl sc_law_table.nd (pi_range1 (by rfl) B.range (pa_cons (pv 2) pa_nil)) (blkOk_by (own := [("_law_j", 6)]) (by kernel_rfl)) (fun _ _ _ _ _ => (pg_name (i := 6) sc_law_table.nd rfl (.inl rfl))) (fun _ _ _ _ _ => pts_nil) (fun _ _ _ _ _ => (pe_callTy call_int1 (by rfl) B.int (by decide +kernel) (pa_cons (pe_cmpR op_lt (pe_call d_law_take.G (hr.mono (by omega)) (by rfl) d_law_take.g d_law_take.F.kp d_law_take.b .nil pass0 (pa_cons (pv 0) (pa_cons pe_int pa_nil))) (pe_ix (ixSK K) (pe_lst (pa_cons pe_int (pa_cons pe_int (pa_cons pe_int pa_nil)))) (pe_op op_mod (pv 3) pe_int) (fun _ _ => rfl)) (nomark _)) pa_nil)))))))))), ?_⟩
  exact run_w (k := 4) ((sim_seq (sim_asg (sim_callB w_law_take_len (sim_cons sim_int sim_nil)) (sim_name (vs := [3]) (by decide)))
 (sim_seq (sim_ifS (sim_test (sim_op od_lt sim_var sim_int))
 (sim_ret (sim_lcT (sim_r1 sim_var) (sim_name (vs := [5]) (by decide)) sim_yes (sim_opT on_mulU (sim_lst (sim_cons sim_var sim_nil)) sim_var)))
 sim_skip)
 (sim_ret (sim_lcT (sim_r1 sim_var) (sim_name (vs := [4]) (by decide)) sim_yes (sim_lcT (sim_r1 sim_var) (sim_name (vs := [6]) (by decide)) sim_yes (sim_sh (sim_cb cb_int (sim_cons (sim_op od_lt (sim_callB w_law_take_len (sim_cons sim_int sim_nil)) (sim_op od_ix (sim_lst (sim_cons sim_int (sim_cons sim_int (sim_cons sim_int sim_nil)))) (sim_op od_mod sim_var sim_int))) sim_nil))))))))) rfl h
abbrev st_law_shares : Stmt := topS 48
theorem sc_law_shares : FnScope ["_law_box_here", "_law_n", "_law_m", "_law_mode", "_law_j", "_law_i"] ["_law_box_here", "_law_n", "_law_m"] (defScope st_law_shares) := ⟨rfl, rfl, rfl, by decide +kernel, rfl, by decide +kernel, by decide +kernel⟩
def w_law_shares : WF := wFn true 2 3 (wSeq (wAsg (wCallB 0 w_law_take (wCons (wC (.int 3)) wNil)) (wName 3))
 (wSeq (wIfS (wTest (wOp oEq (wVar 3) (wC (.int 0))))
 (wRet (wSh (wC .none)))
 wSkip)
 (wRet (wLcT (wRng1 (wVar 2)) (wName 4) wYes (wLcT (wRng1 (wVar 1)) (wName 5) wYes (wSh (wOp oAdd (wC (.int 1)) (wCallB 0 w_law_take (wCons (wOp oIx (wLst (wCons (wC (.int 3)) (wCons (wC (.int 9)) wNil))) (wOp oSub (wVar 3) (wC (.int 1)))) wNil)))) [5]) [4]))))
theorem w_law_shares_len {ds : List PyData} {N : Nat} {R : T → Nat → Prop} (h : w_law_shares ds N R) : ds.length = 2 := h.1
theorem ok_law_shares {f : Addr} {fd : FuncData} (F : Fun K "_law_shares" "_law_shares" st_law_shares f fd) (B : Bm mg) {f_law_take : Addr} {fd_law_take : FuncData} (d_law_take : Df P w K mg base 1 "_law_take" st_law_take ["_law_box_here", "_law_size"] f_law_take fd_law_take (spW true 1 w_law_take)) : FnOk P w K mg base CX0 2 f fd ["_law_box_here", "_law_n", "_law_m"] (spW true 2 w_law_shares) := by
  refine F.ok sc_law_shares (fun vs H Q E h => spW_len h) (fun cdv A outer s H vs Q E hr h => ?_)
  refine ⟨_, (pss_cons (ps_set (i := 3) sc_law_shares.nd rfl (.inr rfl) (pe_call d_law_take.G (hr.mono (by omega)) (by rfl) d_law_take.g d_law_take.F.kp d_law_take.b .nil pass0 (pa_cons (pv 0) (pa_cons pe_int pa_nil))))
 (pss_cons (ps_if (pt_cmpR (op_eqU K hr.units) (pv 3) pe_int (nomark _))
 (pss_one (ps_ret pe_non))
 pss_nil)
 (pss_one (ps_ret (pe_lc (own := [("_law_j", 4)]) rfl sc_law_shares.nd (pi_range1 (by rfl) B.range (pa_cons (pv 2) pa_nil)) (blkOk_by (own := [("_law_j", 4)]) (by kernel_rfl)) (fun _ _ _ _ _ => (pg_name (i := 4) sc_law_shares.nd rfl (.inl rfl))) (fun _ _ _ _ _ => pts_nil) (fun _ _ _ _ _ => (pe_lc (own := [("_law_i", 5)]) rfl sc_law_shares.nd (pi_range1 (by rfl) B.range (pa_cons (pv 1) pa_nil)) (blkOk_by (own := [("_law_i", 5)]) (by kernel_rfl)) (fun _ _ _ _ _ => (pg_name (i := 5) sc_law_shares.nd rfl (.inl rfl))) (fun _ _ _ _ _ => pts_nil) (fun _ _ _ _ _ => (pe_op op_addU pe_int (pe_call d_law_take.G (hr.mono (by omega)) (by rfl) d_law_take.g d_law_take.F.kp d_law_take.b .nil pass0 (pa_cons (pv 0) (pa_cons (pe_ix (ixSK K) (pe_lst (pa_cons pe_int (pa_cons pe_int pa_nil))) (pe_op op_sub (pv 3) pe_int) (fun _ _ => rfl)) pa_nil)))))))))))), ?_⟩
  exact run_w (k := 3) ((sim_seq (sim_asg (sim_callB w_law_take_len (sim_cons sim_int sim_nil)) (sim_name (vs := [3]) (by decide)))
 (sim_seq (sim_ifS (sim_test (sim_op od_eq sim_var sim_int))
 (sim_ret (sim_sh sim_non))
 sim_skip)
 (sim_ret (sim_lcT (sim_r1 sim_var) (sim_name (vs := [4]) (by decide)) sim_yes (sim_lcT (sim_r1 sim_var) (sim_name (vs := [5]) (by decide)) sim_yes (sim_sh (sim_op od_add sim_int (sim_callB w_law_take_len (sim_cons (sim_op od_ix (sim_lst (sim_cons sim_int (sim_cons sim_int sim_nil))) (sim_op od_sub sim_var sim_int)) sim_nil)))))))))) rfl h
abbrev st_law_next_table : Stmt := topS 49
theorem sc_law_next_table : FnScope ["_law_box_here", "_law_table_here", "_law_pairs", "_law_way", "_law_found", "_law_i", "_law_row", "_law_line", "_law_j", "_law_asks", "_law_new"] ["_law_box_here", "_law_table_here", "_law_pairs", "_law_way"] (defScope st_law_next_table) := ⟨rfl, rfl, rfl, by decide +kernel, rfl, by decide +kernel, by decide +kernel⟩
def w_law_next_table : WF := wFn true 3 7 (wSeq (wAsgT 4 (wLstT wNilT))
 (wSeq (wFor (wEnum (wVar 1)) (wGTup 2 (wGCons (wName 5) (wGCons (wName 6) wGNil)))
 (wSeq (wAsgT 7 (wLstT wNilT))
 (wSeq (wFor (wEnum (wVar 6)) (wGTup 2 (wGCons (wName 8) (wGCons (wName 9) wGNil)))
 (wSeq (wAsg (wCallB 0 w_law_take (wCons (wOp oIx (wLst (wCons (wC (.int 9)) (wCons (wC (.int 4)) (wCons (wC (.int 2)) (wCons (wC (.int 1)) wNil))))) (wVar 3)) wNil)) (wName 10))
 (wApp 7 (wSh (wIf (wAnd (wTest (wOp oEq (wVar 9) (wC (.int 1)))) (wTest (wOp oNotInD (wTup (wCons (wVar 5) (wCons (wVar 8) wNil))) (wVar 2)))) (wC (.int 1)) (wCb oInt (wCons (wOp oEq (wVar 10) (wC (.int 0))) wNil)))))))
 (wAppOwn 4 7))))
 (wRetV 4)))
theorem w_law_next_table_len {ds : List PyData} {N : Nat} {R : T → Nat → Prop} (h : w_law_next_table ds N R) : ds.length = 3 := h.1
theorem ok_law_next_table {f : Addr} {fd : FuncData} (F : Fun K "_law_next_table" "_law_next_table" st_law_next_table f fd) (B : Bm mg) {f_law_take : Addr} {fd_law_take : FuncData} (d_law_take : Df P w K mg base 1 "_law_take" st_law_take ["_law_box_here", "_law_size"] f_law_take fd_law_take (spW true 1 w_law_take)) : FnOk P w K mg base CX0 2 f fd ["_law_box_here", "_law_table_here", "_law_pairs", "_law_way"] (spW true 3 w_law_next_table) := by
  refine F.ok sc_law_next_table (fun vs H Q E h => spW_len h) (fun cdv A outer s H vs Q E hr h => ?_)
  refine ⟨_, (pss_cons (ps_set (i := 4) sc_law_next_table.nd rfl (.inl rfl) (pe_lst pa_nil))
 (pss_cons (ps_for PassesOwn.never rfl (pi_enumS K (by rfl) B.enumerate (pa_cons (pv 1) pa_nil)) (pg_tupK K (n := 2) rfl (pgs_cons (pg_name (i := 5) sc_law_next_table.nd rfl (.inl rfl)) (pgs_cons (pg_name (i := 6) sc_law_next_table.nd rfl (.inl rfl)) pgs_nil)))
 (pss_cons (ps_set (i := 7) sc_law_next_table.nd rfl (.inl rfl) (pe_lst pa_nil))
 (pss_cons (ps_for PassesOwn.never rfl (pi_enumS K (by rfl) B.enumerate (pa_cons (pv 6) pa_nil)) (pg_tupK K (n := 2) rfl (pgs_cons (pg_name (i := 8) sc_law_next_table.nd rfl (.inl rfl)) (pgs_cons (pg_name (i := 9) sc_law_next_table.nd rfl (.inl rfl)) pgs_nil)))
 (pss_cons (ps_set (i := 10) sc_law_next_table.nd rfl (.inl rfl) (pe_call d_law_take.G (hr.mono (by omega)) (by rfl) d_law_take.g d_law_take.F.kp d_law_take.b .nil pass0 (pa_cons (pv 0) (pa_cons (pe_ix (ixSK K) (pe_lst (pa_cons pe_int (pa_cons pe_int (pa_cons pe_int (pa_cons pe_int pa_nil))))) (pv 3) (fun _ _ => rfl)) pa_nil))))
 (pss_one (ps_expr (pe_bm PySem.F.plainAttrs_list PySem.F.slot_list_append PySem.F.type_list_append mt_append (pv 7) (pa_cons (pe_ifExp (PW.pt (pw_and (pt_cmpR (op_eqU K hr.units) (pv 9) pe_int (nomark _)) (pw_and1 (pt_cmpR (notInDK K (room65 hr)) (pe_tup (pa_cons (pv 5) (pa_cons (pv 8) pa_nil))) (pv 2) (by with_unfolding_all rfl))))) pe_int (pe_callTy call_int1 (by rfl) B.int (by decide +kernel) (pa_cons (pe_cmpR (op_eqU K hr.units) (pv 10) pe_int (nomark _)) pa_nil))) pa_nil))))))
 (pss_one (ps_expr (pe_bm PySem.F.plainAttrs_list PySem.F.slot_list_append PySem.F.type_list_append mt_append (pv 4) (pa_cons (pv 7) pa_nil)))))))
 (pss_one (ps_ret (pv 4))))), ?_⟩
  exact run_w (k := 7) ((sim_seq (sim_asgT (sim_lstT sim_nilT))
 (sim_seq (sim_for (sim_enum sim_var) (sim_gtup (sim_gcons (sim_name (vs := [5, 6]) (by decide)) (sim_gcons (sim_name (vs := [5, 6]) (by decide)) sim_gnil)))
 (sim_seq (sim_asgT (sim_lstT sim_nilT))
 (sim_seq (sim_for (sim_enum sim_var) (sim_gtup (sim_gcons (sim_name (vs := [8, 9]) (by decide)) (sim_gcons (sim_name (vs := [8, 9]) (by decide)) sim_gnil)))
 (sim_seq (sim_asg (sim_callB w_law_take_len (sim_cons (sim_op od_ix (sim_lst (sim_cons sim_int (sim_cons sim_int (sim_cons sim_int (sim_cons sim_int sim_nil))))) sim_var) sim_nil)) (sim_name (vs := [10]) (by decide)))
 (sim_app (sim_sh (sim_if (sim_and (sim_test (sim_op od_eq sim_var sim_int)) (sim_test (sim_op od_notInD (sim_tup (sim_cons sim_var (sim_cons sim_var sim_nil))) sim_var))) sim_int (sim_cb cb_int (sim_cons (sim_op od_eq sim_var sim_int) sim_nil)))))))
 (sim_appOwn (by decide)))))
 sim_retV))) rfl h
abbrev st_law_nearest : Stmt := topS 50
theorem sc_law_nearest : FnScope ["_law_grants", "_law_table_here", "_law_inlet", "_law_outlet", "_law_found", "_law_step", "_law_place", "_law_many", "_law_at"] ["_law_grants", "_law_table_here", "_law_inlet", "_law_outlet"] (defScope st_law_nearest) := ⟨rfl, rfl, rfl, by decide +kernel, rfl, by decide +kernel, by decide +kernel⟩
def w_law_nearest (κ : Nat → Addr) : WF := wFn false 4 5 (wSeq (wParN [6, 7] (wConsT (wSh (wOp oIx (wOp oIx (wFz (wMethV (κ 0) ns_Grants (w_Grants_pointers κ) [] (wVar 0) wNil)) (wVar 3)) (wC (.int 0)))) (wConsT (wSh (wCb oLen (wCons (wVar 1) wNil))) wNilT)))
 (wSeq (wAsg (wC .none) (wName 4))
 (wSeq (wFor (wRng1 (wOp oMod (wOp oSub (wVar 2) (wVar 6)) (wVar 7))) (wName 5)
 (wSeq (wAsg (wOp oMod (wOp oAdd (wVar 6) (wVar 5)) (wVar 7)) (wName 8))
 (wSeq (wIfS (wTest (wOp oEq (wOp oIx (wOp oIx (wVar 1) (wVar 8)) (wVar 3)) (wC (.int 1))))
 (wRet (wSh (wVar 4)))
 wSkip)
 (wAsg (wVar 8) (wName 4)))))
 (wRet (wSh (wVar 4))))))
theorem w_law_nearest_len (κ : Nat → Addr) {ds : List PyData} {N : Nat} {R : T → Nat → Prop} (h : (w_law_nearest κ) ds N R) : ds.length = 4 := h.1
theorem ok_law_nearest {f : Addr} {fd : FuncData} (F : Fun K "_law_nearest" "_law_nearest" st_law_nearest f fd) (B : Bm mg) {f_Grants_pointers : Addr} {fd_Grants_pointers : FuncData} (d_Grants_pointers : Dm P w K mg base 1 "pointers" "Grants.pointers" st_Grants_pointers ["self"] f_Grants_pointers fd_Grants_pointers (spW false 1 (w_Grants_pointers κ))) (c_Grants : Cls K (κ 0)) (m_Grants_pointers : Meth K (κ 0) "pointers" f_Grants_pointers) (b_Grants_pointers : Binds K fd_Grants_pointers ["self"] []) : FnOk P w K mg base CX0 2 f fd ["_law_grants", "_law_table_here", "_law_inlet", "_law_outlet"] (spW false 4 (w_law_nearest κ)) := by
  refine F.ok sc_law_nearest (fun vs H Q E h => spW_len h) (fun cdv A outer s H vs Q E hr h => ?_)
  refine ⟨_, (pss_cons (ps_par (i := 6) (j := 7) (by rfl) sc_law_nearest.nd rfl rfl (by decide) rfl rfl (pa_cons (pe_ix (ixSK K) (pe_ix (ixSK K) (pe_meth0 (pv 0) c_Grants m_Grants_pointers d_Grants_pointers.G (hr.mono (by omega)) b_Grants_pointers .nil pass0) (pv 3) (fun _ _ => rfl)) pe_int (fun _ _ => rfl)) (pa_cons (pe_callB (lenK K) (by rfl) B.len (by decide +kernel) (pa_cons (pv 1) pa_nil)) pa_nil)) (by rfl))
 (pss_cons (ps_set (i := 4) sc_law_nearest.nd rfl (.inl rfl) pe_non)
 (pss_cons (ps_for PassesOwn.never rfl (pi_range1 (by rfl) B.range (pa_cons (pe_op op_mod (pe_op op_sub (pv 2) (pv 6)) (pv 7)) pa_nil)) (pg_name (i := 5) sc_law_nearest.nd rfl (.inl rfl))
 (pss_cons (ps_set (i := 8) sc_law_nearest.nd rfl (.inl rfl) (pe_op op_mod (pe_op op_addU (pv 6) (pv 5)) (pv 7)))
 (pss_cons (ps_if (pt_cmpR (op_eqU K hr.units) (pe_ix (ixSK K) (pe_ix (ixSK K) (pv 1) (pv 8) (fun _ _ => rfl)) (pv 3) (fun _ _ => rfl)) pe_int (nomark _))
 (pss_one (ps_ret (pv 4)))
 pss_nil)
 (pss_one (ps_set (i := 4) sc_law_nearest.nd rfl (.inl rfl) (pv 8))))))
 (pss_one (ps_ret (pv 4)))))), ?_⟩
  exact run_w (k := 5) ((sim_seq (sim_par2 (sim_consT (sim_sh (sim_op od_ix (sim_op od_ix (sim_fz (sim_methV fn_Grants_pointers (fun _ => .nil) (w_Grants_pointers_len κ) sim_var sim_nil)) sim_var) sim_int)) (sim_consT (sim_sh (sim_cb cb_len (sim_cons sim_var sim_nil))) sim_nilT)))
 (sim_seq (sim_asg sim_non (sim_name (vs := [4]) (by decide)))
 (sim_seq (sim_for (sim_r1 (sim_op od_mod (sim_op od_sub sim_var sim_var) sim_var)) (sim_name (vs := [5]) (by decide))
 (sim_seq (sim_asg (sim_op od_mod (sim_op od_add sim_var sim_var) sim_var) (sim_name (vs := [8]) (by decide)))
 (sim_seq (sim_ifS (sim_test (sim_op od_eq (sim_op od_ix (sim_op od_ix sim_var sim_var) sim_var) sim_int))
 (sim_ret (sim_sh sim_var))
 sim_skip)
 (sim_asg sim_var (sim_name (vs := [4]) (by decide))))))
 (sim_ret (sim_sh sim_var)))))) rfl h
abbrev st_law_late_ones : Stmt := topS 51
theorem sc_law_late_ones : FnScope ["_law_box_here", "_law_grants", "_law_table_here", "_law_inlet", "_law_outlet", "_law_at"] ["_law_box_here", "_law_grants", "_law_table_here", "_law_inlet", "_law_outlet"] (defScope st_law_late_ones) := ⟨rfl, rfl, rfl, by decide +kernel, rfl, by decide +kernel, by decide +kernel⟩
def w_law_late_ones (κ : Nat → Addr) : WFX := wFnX true [false, true, false, false] 1 (wSeq (wAsg (wVw (wCall (w_law_nearest κ) (wCons (wVar 1) (wCons (wVar 2) (wCons (wVar 3) (wCons (wVar 4) wNil)))))) (wName 5))
 (wIfS (wAnd (wTest (wOp oIsNot (wVar 5) (wC .none))) (wTest (wOp oEq (wCallB 0 w_law_take (wCons (wC (.int 3)) wNil)) (wC (.int 0)))))
 (wSetPl 2 (wPI 2 (wPV 2) (wVar 5)) (wVar 4) (wSh (wC (.int 1))))
 wSkip))
theorem ok_law_late_ones {f : Addr} {fd : FuncData} (F : Fun K "_law_late_ones" "_law_late_ones" st_law_late_ones f fd) (B : Bm mg) {f_law_nearest : Addr} {fd_law_nearest : FuncData} (d_law_nearest : Df P w K mg base 2 "_law_nearest" st_law_nearest ["_law_grants", "_law_table_here", "_law_inlet", "_law_outlet"] f_law_nearest fd_law_nearest (spW false 4 (w_law_nearest κ))) {f_law_take : Addr} {fd_law_take : FuncData} (d_law_take : Df P w K mg base 1 "_law_take" st_law_take ["_law_box_here", "_law_size"] f_law_take fd_law_take (spW true 1 w_law_take)) : FnOk P w K mg base CX0 3 f fd ["_law_box_here", "_law_grants", "_law_table_here", "_law_inlet", "_law_outlet"] (spX true 4 (w_law_late_ones κ)) := by
  refine F.ok sc_law_late_ones (fun vs H Q E h => spX_len h) (fun cdv A outer s H vs Q E hr h => ?_)
  refine ⟨_, (pss_cons (ps_set (i := 5) sc_law_late_ones.nd rfl (.inl rfl) (pe_call d_law_nearest.G (hr.mono (by omega)) (by rfl) d_law_nearest.g d_law_nearest.F.kp d_law_nearest.b .nil pass0 (pa_cons (pv 1) (pa_cons (pv 2) (pa_cons (pv 3) (pa_cons (pv 4) pa_nil))))))
 (pss_one (ps_if (PW.pt (pw_and (pt_cmpR op_notN (pv 5) pe_non (nomark _)) (pw_and1 (pt_cmpR (op_eqU K hr.units) (pe_call d_law_take.G (hr.mono (by omega)) (by rfl) d_law_take.g d_law_take.F.kp d_law_take.b .nil pass0 (pa_cons (pv 0) (pa_cons pe_int pa_nil))) pe_int (nomark _)))))
 (pss_one (ps_asg pe_int (pg_sub (pe_ix (ixSK K) (pv 2) (pv 5) (fun _ _ => rfl)) (pv 4) set_list)))
 pss_nil))), ?_⟩
  exact run_x (md := [false, true, false, false]) (k := 1) ((sim_seq (sim_asg (sim_vw (sim_call (w_law_nearest_len κ) (sim_cons sim_var (sim_cons sim_var (sim_cons sim_var (sim_cons sim_var sim_nil)))))) (sim_name (vs := [5]) (by decide)))
 (sim_ifS (sim_and (sim_test (sim_op od_isnot sim_var sim_non)) (sim_test (sim_op od_eq (sim_callB w_law_take_len (sim_cons sim_int sim_nil)) sim_int)))
 (sim_setPl (sim_pi sim_pv sim_var) sim_var (sim_sh sim_int))
 sim_skip))) rfl h
abbrev st_law_walked : Stmt := topS 52
theorem sc_law_walked : FnScope ["_law_box_here", "_law_grants", "_law_table_here", "_law_one", "_law_case", "_law_beat", "_law_bound", "_law_before", "_law_now", "_law_pairs", "_law_inlet", "_law_outlet", "_law_way", "_law_often", "_law_late", "_law_row"] ["_law_box_here", "_law_grants", "_law_table_here", "_law_one", "_law_case"] (defScope st_law_walked) := ⟨rfl, rfl, rfl, by decide +kernel, rfl, by decide +kernel, by decide +kernel⟩
def w_law_walked (κ : Nat → Addr) : WFX := wFnG true [1, 2, 0, 0] 11 (wSeq (wAsg (wTup (wCons (wVar 3) (wCons (wVar 4) wNil))) (wGTup 2 (wGCons (wGTup 2 (wGCons (wName 10) (wGCons (wName 11) wGNil))) (wGCons (wGTup 3 (wGCons (wName 12) (wGCons (wName 13) (wGCons (wName 14) wGNil)))) wGNil))))
 (wSeq (wParN [6, 7] (wConsT (wSh (wVw (wCall (w_within κ) (wCons (wVar 1) (wCons (wVar 10) (wCons (wVar 11) wNil)))))) (wConsT (wSh (wC .none)) wNilT)))
 (wSeq (wFor (wRng1 (wVar 6)) (wName 5)
 (wSeq (wNm 2 (wIfS (wTru (wVar 14))
 (wNm 2 (wDropX (wLend 2 (wCallXB 0 (w_law_late_ones κ) 4 2 (wApC (wVar 1) (wApP (wPV 2) (wCons (wVar 10) (wCons (wVar 11) wNil))))))))
 wSkip))
 (wSeq (wAsg (wVw (wCall (w_left_of κ) (wCons (wVar 1) (wCons (wVar 2) (wCons (wVar 10) (wCons (wVar 11) wNil)))))) (wName 8))
 (wSeq (wIfS (wAnd (wTest (wOp oIsNot (wVar 7) (wC .none))) (wOr (wTest (wOp oGeT (wVar 8) (wVar 7))) (wTest (wOp oGt (wOp oIx (wVar 8) (wC (.int 0))) (wOp oIx (wVar 7) (wC (.int 0)))))))
 (wRetX (wXT (wSh (wC (.bool false)))))
 wSkip)
 (wSeq (wAsg (wVar 8) (wName 7))
 (wSeq (wAsgX 9 (wXF (wXCall w_pairs_by (wXCons (wXF (wLend 1 (wMeth (κ 0) ns_Grants (w_Grants_beat κ) (fun ds es => ds ++ es) 2 1 3 1 (wPV 1) (wCons (wLc (wIt (wVar 2)) (wName 15) wYes (wCb oListD (wCons (wVar 15) wNil)) [15]) wNil) (wCons (wVar 13) wNil)))) wXNil))))
 (wSeq (wIfS (wTest (wOp oInD (wTup (wCons (wVar 10) (wCons (wVar 11) wNil))) (wVar 9)))
 (wRetX (wXT (wSh (wC (.bool true)))))
 wSkip)
 (wAsgT 2 (wVt (wCallBT 0 w_law_next_table (wCons (wVar 2) (wCons (wVar 9) (wCons (wVar 12) wNil)))))))))))))
 (wRetX (wXT (wSh (wC (.bool false))))))))
theorem ok_law_walked {f : Addr} {fd : FuncData} (F : Fun K "_law_walked" "_law_walked" st_law_walked f fd) (B : Bm mg) {f_Grants_beat : Addr} {fd_Grants_beat : FuncData} (d_Grants_beat : Dm P w K mg base 4 "beat" "Grants.beat" st_Grants_beat ["self", "table", "rounds"] f_Grants_beat fd_Grants_beat (spX false 3 (w_Grants_beat κ))) {f_law_late_ones : Addr} {fd_law_late_ones : FuncData} (d_law_late_ones : Df P w K mg base 3 "_law_late_ones" st_law_late_ones ["_law_box_here", "_law_grants", "_law_table_here", "_law_inlet", "_law_outlet"] f_law_late_ones fd_law_late_ones (spX true 4 (w_law_late_ones κ))) {f_law_next_table : Addr} {fd_law_next_table : FuncData} (d_law_next_table : Df P w K mg base 2 "_law_next_table" st_law_next_table ["_law_box_here", "_law_table_here", "_law_pairs", "_law_way"] f_law_next_table fd_law_next_table (spW true 3 w_law_next_table)) {f_left_of : Addr} {fd_left_of : FuncData} (d_left_of : Df P w K mg base 5 "left_of" st_left_of ["grants", "table", "inlet", "outlet"] f_left_of fd_left_of (spW false 4 (w_left_of κ))) {f_pairs_by : Addr} {fd_pairs_by : FuncData} (d_pairs_by : Df P w K mg base 1 "pairs_by" st_pairs_by ["rounds"] f_pairs_by fd_pairs_by (spW false 1 w_pairs_by)) {f_within : Addr} {fd_within : FuncData} (d_within : Df P w K mg base 3 "within" st_within ["grants", "inlet", "outlet"] f_within fd_within (spW false 3 (w_within κ))) (c_Grants : Cls K (κ 0)) (m_Grants_beat : Meth K (κ 0) "beat" f_Grants_beat) {gk_Grants_beat : List Value → List Value → List Value} (kb_Grants_beat : KBn K fd_Grants_beat ["self", "table", "rounds"] 2 ["rounds"] gk_Grants_beat (fun vs zs => vs ++ zs)) : FnOk P w K mg base CX0 6 f fd ["_law_box_here", "_law_grants", "_law_table_here", "_law_one", "_law_case"] (spG true 4 [1, 2, 0, 0] (w_law_walked κ)) := by
  refine F.ok sc_law_walked (fun vs H Q E h => spG_len h) (fun cdv A outer s H vs Q E hr h => ?_)
  refine ⟨_, (pss_cons (ps_asg (pe_tup (pa_cons (pv 3) (pa_cons (pv 4) pa_nil))) (pg_tupK K (n := 2) rfl (pgs_cons (pg_tupK K (n := 2) rfl (pgs_cons (pg_name (i := 10) sc_law_walked.nd rfl (.inl rfl)) (pgs_cons (pg_name (i := 11) sc_law_walked.nd rfl (.inl rfl)) pgs_nil))) (pgs_cons (pg_tupK K (n := 3) rfl (pgs_cons (pg_name (i := 12) sc_law_walked.nd rfl (.inl rfl)) (pgs_cons (pg_name (i := 13) sc_law_walked.nd rfl (.inl rfl)) (pgs_cons (pg_name (i := 14) sc_law_walked.nd rfl (.inl rfl)) pgs_nil)))) pgs_nil))))
 (pss_cons (ps_par (i := 6) (j := 7) (by rfl) sc_law_walked.nd rfl rfl (by decide) rfl rfl (pa_cons (pe_call d_within.G (hr.mono (by omega)) (by rfl) d_within.g d_within.F.kp d_within.b .nil pass0 (pa_cons (pv 1) (pa_cons (pv 10) (pa_cons (pv 11) pa_nil)))) (pa_cons pe_non pa_nil)) (by rfl))
 (pss_cons (ps_for PassesOwn.never rfl (pi_range1 (by rfl) B.range (pa_cons (pv 6) pa_nil)) (pg_name (i := 5) sc_law_walked.nd rfl (.inl rfl))
 (pss_cons (ps_if (pt_truthK K (pv 14) (by intro _; rfl))
 (pss_one (ps_expr (pe_call d_law_late_ones.G (hr.mono (by omega)) (by rfl) d_law_late_ones.g d_law_late_ones.F.kp d_law_late_ones.b .nil pass0 (pa_cons (pv 0) (pa_cons (pv 1) (pa_cons (pv 2) (pa_cons (pv 10) (pa_cons (pv 11) pa_nil))))))))
 pss_nil)
 (pss_cons (ps_set (i := 8) sc_law_walked.nd rfl (.inl rfl) (pe_call d_left_of.G (hr.mono (by omega)) (by rfl) d_left_of.g d_left_of.F.kp d_left_of.b .nil pass0 (pa_cons (pv 1) (pa_cons (pv 2) (pa_cons (pv 10) (pa_cons (pv 11) pa_nil))))))
 (pss_cons (ps_if (PW.pt (pw_and (pt_cmpR op_notN (pv 7) pe_non (nomark _)) (pw_and1 (PW.pt (pw_or (pt_cmpR (geTK K hr.units0) (pv 8) (pv 7) (nomark _)) (pw_or1 (pt_cmpR op_gt (pe_ix (ixSK K) (pv 8) pe_int (fun _ _ => rfl)) (pe_ix (ixSK K) (pv 7) pe_int (fun _ _ => rfl)) (nomark _))))))))
 (pss_one (ps_ret pe_bl))
 pss_nil)
 (pss_cons (ps_set (i := 7) sc_law_walked.nd rfl (.inl rfl) (pv 8))
 (pss_cons (ps_set (i := 9) sc_law_walked.nd rfl (.inl rfl) (pe_call d_pairs_by.G (hr.mono (by omega)) (by rfl) d_pairs_by.g d_pairs_by.F.kp d_pairs_by.b .nil pass0 (pa_cons (pe_methN (pv 1) c_Grants m_Grants_beat d_Grants_beat.G (hr.mono (by omega)) kb_Grants_beat pass0 (pa_cons (pe_lc (own := [("_law_row", 15)]) rfl sc_law_walked.nd (pi_seq K (pv 2)) (blkOk_by (own := [("_law_row", 15)]) (by kernel_rfl)) (fun _ _ _ _ _ => (pg_name (i := 15) sc_law_walked.nd rfl (.inl rfl))) (fun _ _ _ _ _ => pts_nil) (fun _ _ _ _ _ => (pe_callTy (listK K) (by rfl) B.list (by decide +kernel) (pa_cons (pv 15) pa_nil)))) pa_nil) (pk_cons (pv 13) pk_nil)) pa_nil)))
 (pss_cons (ps_if (pt_cmpR (inDK K (room65 hr)) (pe_tup (pa_cons (pv 10) (pa_cons (pv 11) pa_nil))) (pv 9) (by with_unfolding_all rfl))
 (pss_one (ps_ret pe_bl))
 pss_nil)
 (pss_one (ps_set (i := 2) sc_law_walked.nd rfl (.inl rfl) (pe_call d_law_next_table.G (hr.mono (by omega)) (by rfl) d_law_next_table.g d_law_next_table.F.kp d_law_next_table.b .nil pass0 (pa_cons (pv 0) (pa_cons (pv 2) (pa_cons (pv 9) (pa_cons (pv 12) pa_nil))))))))))))))
 (pss_one (ps_ret pe_bl))))), ?_⟩
  exact run_g (md := [1, 2, 0, 0]) (k := 11) ((sim_seq (sim_asg (sim_tup (sim_cons sim_var (sim_cons sim_var sim_nil))) (sim_gtup (sim_gcons (sim_gtup (sim_gcons (sim_name (vs := [10, 11, 12, 13, 14]) (by decide)) (sim_gcons (sim_name (vs := [10, 11, 12, 13, 14]) (by decide)) sim_gnil))) (sim_gcons (sim_gtup (sim_gcons (sim_name (vs := [10, 11, 12, 13, 14]) (by decide)) (sim_gcons (sim_name (vs := [10, 11, 12, 13, 14]) (by decide)) (sim_gcons (sim_name (vs := [10, 11, 12, 13, 14]) (by decide)) sim_gnil)))) sim_gnil))))
 (sim_seq (sim_par2 (sim_consT (sim_sh (sim_vw (sim_call (w_within_len κ) (sim_cons sim_var (sim_cons sim_var (sim_cons sim_var sim_nil)))))) (sim_consT (sim_sh sim_non) sim_nilT)))
 (sim_seq (sim_for (sim_r1 sim_var) (sim_name (vs := [5]) (by decide))
 (sim_seq (sim_nm (sim_ifS (sim_tru sim_var)
 (sim_nm (sim_dropX (sim_lend (sim_callXB (sim_apC sim_var (sim_apP sim_pv (sim_cons sim_var (sim_cons sim_var sim_nil))))))))
 sim_skip))
 (sim_seq (sim_asg (sim_vw (sim_call (w_left_of_len κ) (sim_cons sim_var (sim_cons sim_var (sim_cons sim_var (sim_cons sim_var sim_nil)))))) (sim_name (vs := [8]) (by decide)))
 (sim_seq (sim_ifS (sim_and (sim_test (sim_op od_isnot sim_var sim_non)) (sim_or (sim_test (sim_op od_geT sim_var sim_var)) (sim_test (sim_op od_gt (sim_op od_ix sim_var sim_int) (sim_op od_ix sim_var sim_int)))))
 (sim_retX (sim_xt (sim_sh sim_bl)))
 sim_skip)
 (sim_seq (sim_asg sim_var (sim_name (vs := [7]) (by decide)))
 (sim_seq (sim_asgX (sim_xf (sim_xcall w_pairs_by_len (sim_xcons (sim_xf (sim_lend (sim_methN fn_Grants_beat (fun _ _ _ => rfl) (fun h k => h.append k) sim_pv (sim_cons (sim_lc (sim_it sim_var) (sim_name (vs := [15]) (by decide)) sim_yes (sim_cb cb_list (sim_cons sim_var sim_nil))) sim_nil) (sim_cons sim_var sim_nil)))) sim_xnil))))
 (sim_seq (sim_ifS (sim_test (sim_op od_inD (sim_tup (sim_cons sim_var (sim_cons sim_var sim_nil))) sim_var))
 (sim_retX (sim_xt (sim_sh sim_bl)))
 sim_skip)
 (sim_asgT (sim_vt (sim_callBT w_law_next_table_len (sim_cons sim_var (sim_cons sim_var (sim_cons sim_var sim_nil)))))))))))))
 (sim_retX (sim_xt (sim_sh sim_bl))))))) rfl h
abbrev st_law_right : Stmt := topS 53
theorem sc_law_right : FnScope ["_law_box_here", "_law_parts", "_law_grants", "_law_turn", "_law_n", "_law_m", "_law_case", "_law_table_here", "_law_inlet", "_law_outlet"] ["_law_box_here"] (defScope st_law_right) := ⟨rfl, rfl, rfl, by decide +kernel, rfl, by decide +kernel, by decide +kernel⟩
def w_law_right (κ : Nat → Addr) : WF := wFn true 0 9 (wSeq (wAsg (wCallB 0 w_law_sizes (wCons (wC (.int 6)) wNil)) (wGTup 2 (wGCons (wName 4) (wGCons (wName 5) wGNil))))
 (wSeq (wAsg (wCallB 0 w_law_shares (wCons (wVar 4) (wCons (wVar 5) wNil))) (wName 1))
 (wSeq (wAsgT 2 (wMake (κ 0) (w_Grants_init κ) (fun ds es => ds ++ es) 2 1 4 (wCons (wVar 4) (wCons (wVar 5) wNil)) (wCons (wVar 1) wNil)))
 (wSeq (wFor (wRng1 (wCallB 0 w_law_take (wCons (wC (.int 9)) wNil))) (wName 3)
 (wDropX (wMeth (κ 0) ns_Grants (w_Grants_beat κ) (fun ds es => ds ++ es) 2 1 3 2 (wPV 2) (wCons (wCallB 0 w_law_table (wCons (wVar 4) (wCons (wVar 5) wNil))) wNil) (wCons (wOp oAdd (wC (.int 1)) (wCallB 0 w_law_take (wCons (wC (.int 4)) wNil))) wNil))))
 (wSeq (wFor (wRng1 (wC (.int 2))) (wName 3)
 (wSeq (wParN [7, 8, 9] (wConsT (wCallBT 0 w_law_table (wCons (wVar 4) (wCons (wVar 5) wNil))) (wConsT (wSh (wCallB 0 w_law_take (wCons (wVar 4) wNil))) (wConsT (wSh (wCallB 0 w_law_take (wCons (wVar 5) wNil))) wNilT))))
 (wSeq (wSetPl 7 (wPI 7 (wPV 7) (wVar 8)) (wVar 9) (wSh (wC (.int 1))))
 (wSeq (wAsg (wTup (wCons (wCallB 0 w_law_take (wCons (wC (.int 4)) wNil)) (wCons (wOp oIx (wLst (wCons (wC (.int 1)) (wCons (wC (.int 2)) (wCons (wC (.int 12)) wNil)))) (wCallB 0 w_law_take (wCons (wC (.int 3)) wNil))) (wCons (wOp oEq (wCallB 0 w_law_take (wCons (wC (.int 2)) wNil)) (wC (.int 0))) wNil)))) (wName 6))
 (wNm 7 (wXIfS (wXNot (wXTest (wXF (wXCallGB 0 (w_law_walked κ) 4 [1, 2, 0, 0] [some 2, some 7, none, none] (wXCons (wXTake 2) (wXCons (wXTake 7) (wXCons (wXT (wSh (wTup (wCons (wVar 8) (wCons (wVar 9) wNil))))) (wXCons (wXT (wSh (wVar 6))) wXNil))))))))
 (wRet (wSh (wC (.bool false))))
 wSkip))))))
 (wRet (wSh (wC (.bool true)))))))))
theorem ok_law_right {f : Addr} {fd : FuncData} (F : Fun K "_law_right" "_law_right" st_law_right f fd) (B : Bm mg) {f_Grants_init : Addr} {fd_Grants_init : FuncData} (d_Grants_init : Dm P w K mg base 6 "__init__" "Grants.__init__" st_Grants_init ["self", "inlets", "outlets", "shares"] f_Grants_init fd_Grants_init (spX false 4 (w_Grants_init κ))) {f_Grants_beat : Addr} {fd_Grants_beat : FuncData} (d_Grants_beat : Dm P w K mg base 4 "beat" "Grants.beat" st_Grants_beat ["self", "table", "rounds"] f_Grants_beat fd_Grants_beat (spX false 3 (w_Grants_beat κ))) {f_law_shares : Addr} {fd_law_shares : FuncData} (d_law_shares : Df P w K mg base 2 "_law_shares" st_law_shares ["_law_box_here", "_law_n", "_law_m"] f_law_shares fd_law_shares (spW true 2 w_law_shares)) {f_law_sizes : Addr} {fd_law_sizes : FuncData} (d_law_sizes : Df P w K mg base 2 "_law_sizes" st_law_sizes ["_law_box_here", "_law_most"] f_law_sizes fd_law_sizes (spW true 1 w_law_sizes)) {f_law_table : Addr} {fd_law_table : FuncData} (d_law_table : Df P w K mg base 2 "_law_table" st_law_table ["_law_box_here", "_law_n", "_law_m"] f_law_table fd_law_table (spW true 2 w_law_table)) {f_law_take : Addr} {fd_law_take : FuncData} (d_law_take : Df P w K mg base 1 "_law_take" st_law_take ["_law_box_here", "_law_size"] f_law_take fd_law_take (spW true 1 w_law_take)) {f_law_walked : Addr} {fd_law_walked : FuncData} (d_law_walked : Df P w K mg base 6 "_law_walked" st_law_walked ["_law_box_here", "_law_grants", "_law_table_here", "_law_one", "_law_case"] f_law_walked fd_law_walked (spG true 4 [1, 2, 0, 0] (w_law_walked κ))) (mk_Grants : Mk K (κ 0) f_Grants_init) (g_Grants : mg "Grants" = some (.ref (κ 0))) {gk_Grants_init : List Value → List Value → List Value} (kb_Grants_init : KBn K fd_Grants_init ["self", "inlets", "outlets", "shares"] 3 ["shares"] gk_Grants_init (fun vs zs => vs ++ zs)) (c_Grants : Cls K (κ 0)) (m_Grants_beat : Meth K (κ 0) "beat" f_Grants_beat) {gk_Grants_beat : List Value → List Value → List Value} (kb_Grants_beat : KBn K fd_Grants_beat ["self", "table", "rounds"] 2 ["rounds"] gk_Grants_beat (fun vs zs => vs ++ zs)) : FnOk P w K mg base CX0 8 f fd ["_law_box_here"] (spW true 0 (w_law_right κ)) := by
  refine F.ok sc_law_right (fun vs H Q E h => spW_len h) (fun cdv A outer s H vs Q E hr h => ?_)
  refine ⟨_, (pss_cons (ps_asg (pe_call d_law_sizes.G (hr.mono (by omega)) (by rfl) d_law_sizes.g d_law_sizes.F.kp d_law_sizes.b .nil pass0 (pa_cons (pv 0) (pa_cons pe_int pa_nil))) (pg_tupK K (n := 2) rfl (pgs_cons (pg_name (i := 4) sc_law_right.nd rfl (.inl rfl)) (pgs_cons (pg_name (i := 5) sc_law_right.nd rfl (.inl rfl)) pgs_nil))))
 (pss_cons (ps_set (i := 1) sc_law_right.nd rfl (.inl rfl) (pe_call d_law_shares.G (hr.mono (by omega)) (by rfl) d_law_shares.g d_law_shares.F.kp d_law_shares.b .nil pass0 (pa_cons (pv 0) (pa_cons (pv 4) (pa_cons (pv 5) pa_nil)))))
 (pss_cons (ps_set (i := 2) sc_law_right.nd rfl (.inl rfl) (pe_makeK mk_Grants d_Grants_init.G (hr.mono (by omega)) (by rfl) g_Grants kb_Grants_init pass0 (pa_cons (pv 4) (pa_cons (pv 5) pa_nil)) (pk_cons (pv 1) pk_nil)))
 (pss_cons (ps_for PassesOwn.never rfl (pi_range1 (by rfl) B.range (pa_cons (pe_call d_law_take.G (hr.mono (by omega)) (by rfl) d_law_take.g d_law_take.F.kp d_law_take.b .nil pass0 (pa_cons (pv 0) (pa_cons pe_int pa_nil))) pa_nil)) (pg_name (i := 3) sc_law_right.nd rfl (.inl rfl))
 (pss_one (ps_expr (pe_methN (pv 2) c_Grants m_Grants_beat d_Grants_beat.G (hr.mono (by omega)) kb_Grants_beat pass0 (pa_cons (pe_call d_law_table.G (hr.mono (by omega)) (by rfl) d_law_table.g d_law_table.F.kp d_law_table.b .nil pass0 (pa_cons (pv 0) (pa_cons (pv 4) (pa_cons (pv 5) pa_nil)))) pa_nil) (pk_cons (pe_op op_addU pe_int (pe_call d_law_take.G (hr.mono (by omega)) (by rfl) d_law_take.g d_law_take.F.kp d_law_take.b .nil pass0 (pa_cons (pv 0) (pa_cons pe_int pa_nil)))) pk_nil)))))
 (pss_cons (ps_for PassesOwn.never rfl (pi_range1 (by rfl) B.range (pa_cons pe_int pa_nil)) (pg_name (i := 3) sc_law_right.nd rfl (.inl rfl))
 (pss_cons (ps_par3 (i := 7) (j := 8) (l := 9) (by rfl) sc_law_right.nd rfl rfl rfl (by decide) (by decide) (by decide) rfl rfl rfl (pa_cons (pe_call d_law_table.G (hr.mono (by omega)) (by rfl) d_law_table.g d_law_table.F.kp d_law_table.b .nil pass0 (pa_cons (pv 0) (pa_cons (pv 4) (pa_cons (pv 5) pa_nil)))) (pa_cons (pe_call d_law_take.G (hr.mono (by omega)) (by rfl) d_law_take.g d_law_take.F.kp d_law_take.b .nil pass0 (pa_cons (pv 0) (pa_cons (pv 4) pa_nil))) (pa_cons (pe_call d_law_take.G (hr.mono (by omega)) (by rfl) d_law_take.g d_law_take.F.kp d_law_take.b .nil pass0 (pa_cons (pv 0) (pa_cons (pv 5) pa_nil))) pa_nil))) (by rfl))
 (pss_cons (ps_asg pe_int (pg_sub (pe_ix (ixSK K) (pv 7) (pv 8) (fun _ _ => rfl)) (pv 9) set_list))
 (pss_cons (ps_set (i := 6) sc_law_right.nd rfl (.inl rfl) (pe_tup (pa_cons (pe_call d_law_take.G (hr.mono (by omega)) (by rfl) d_law_take.g d_law_take.F.kp d_law_take.b .nil pass0 (pa_cons (pv 0) (pa_cons pe_int pa_nil))) (pa_cons (pe_ix (ixSK K) (pe_lst (pa_cons pe_int (pa_cons pe_int (pa_cons pe_int pa_nil)))) (pe_call d_law_take.G (hr.mono (by omega)) (by rfl) d_law_take.g d_law_take.F.kp d_law_take.b .nil pass0 (pa_cons (pv 0) (pa_cons pe_int pa_nil))) (fun _ _ => rfl)) (pa_cons (pe_cmpR (op_eqU K hr.units) (pe_call d_law_take.G (hr.mono (by omega)) (by rfl) d_law_take.g d_law_take.F.kp d_law_take.b .nil pass0 (pa_cons (pv 0) (pa_cons pe_int pa_nil))) pe_int (nomark _)) pa_nil)))))
 (pss_one (ps_if (pt_not (pt_val (pe_call d_law_walked.G (hr.mono (by omega)) (by rfl) d_law_walked.g d_law_walked.F.kp d_law_walked.b .nil pass0 (pa_cons (pv 0) (pa_cons (pv 2) (pa_cons (pv 7) (pa_cons (pe_tup (pa_cons (pv 8) (pa_cons (pv 9) pa_nil))) (pa_cons (pv 6) pa_nil))))))))
 (pss_one (ps_ret pe_bl))
 pss_nil))))))
 (pss_one (ps_ret pe_bl))))))), ?_⟩
  exact run_w (k := 9) ((sim_seq (sim_asg (sim_callB w_law_sizes_len (sim_cons sim_int sim_nil)) (sim_gtup (sim_gcons (sim_name (vs := [4, 5]) (by decide)) (sim_gcons (sim_name (vs := [4, 5]) (by decide)) sim_gnil))))
 (sim_seq (sim_asg (sim_callB w_law_shares_len (sim_cons sim_var (sim_cons sim_var sim_nil))) (sim_name (vs := [1]) (by decide)))
 (sim_seq (sim_asgT (sim_makeK (fun _ _ _ => rfl) (fun h k => h.append k) (sim_cons sim_var (sim_cons sim_var sim_nil)) (sim_cons sim_var sim_nil)))
 (sim_seq (sim_for (sim_r1 (sim_callB w_law_take_len (sim_cons sim_int sim_nil))) (sim_name (vs := [3]) (by decide))
 (sim_dropX (sim_methN fn_Grants_beat (fun _ _ _ => rfl) (fun h k => h.append k) sim_pv (sim_cons (sim_callB w_law_table_len (sim_cons sim_var (sim_cons sim_var sim_nil))) sim_nil) (sim_cons (sim_op od_add sim_int (sim_callB w_law_take_len (sim_cons sim_int sim_nil))) sim_nil))))
 (sim_seq (sim_for (sim_r1 sim_int) (sim_name (vs := [3]) (by decide))
 (sim_seq (sim_par3 (sim_consT (sim_callBT w_law_table_len (sim_cons sim_var (sim_cons sim_var sim_nil))) (sim_consT (sim_sh (sim_callB w_law_take_len (sim_cons sim_var sim_nil))) (sim_consT (sim_sh (sim_callB w_law_take_len (sim_cons sim_var sim_nil))) sim_nilT))))
 (sim_seq (sim_setPl (sim_pi sim_pv sim_var) sim_var (sim_sh sim_int))
 (sim_seq (sim_asg (sim_tup (sim_cons (sim_callB w_law_take_len (sim_cons sim_int sim_nil)) (sim_cons (sim_op od_ix (sim_lst (sim_cons sim_int (sim_cons sim_int (sim_cons sim_int sim_nil)))) (sim_callB w_law_take_len (sim_cons sim_int sim_nil))) (sim_cons (sim_op od_eq (sim_callB w_law_take_len (sim_cons sim_int sim_nil)) sim_int) sim_nil)))) (sim_name (vs := [6]) (by decide)))
 (sim_nm (sim_xifS (sim_xnot (sim_xtB (sim_xf (sim_xcallGB (sim_xaT (sim_xaT (sim_xaD (sim_xt (sim_sh (sim_tup (sim_cons sim_var (sim_cons sim_var sim_nil))))) (sim_xaD (sim_xt (sim_sh sim_var)) sim_xaN))))))))
 (sim_ret (sim_sh sim_bl))
 sim_skip))))))
 (sim_ret (sim_sh sim_bl)))))))) rfl h
abbrev st_law : Stmt := topS 54
theorem sc_law : FnScope ["_law_script", "_law_cells", "_law_k"] ["_law_script"] (defScope st_law) := ⟨rfl, rfl, rfl, by decide +kernel, rfl, by decide +kernel, by decide +kernel⟩
end
end K23

set_option Elab.async false
set_option linter.all false
set_option maxRecDepth 100000
set_option maxHeartbeats 1000000
namespace K23
open PySem PySem.Spec PyProof.Rows L2 Evl Cg
local macro_rules
  | `(tactic| sizeOf_list_dec) => `(tactic| simp (config := {failIfUnchanged := false}) only [↓wLenI_eq, ↓wFAug_eq, ↓wAppX_eq, ↓wRgL2_eq, ↓wSetPlN_eq, ↓wParAl_eq, oMin3_int, ↓wXTake_eq, ↓wXCallM_eq, ↓wDictP_eq, ↓wDGet2_eq, oAnyI_list, ↓wVwA_eq, ↓wVbA_eq, ↓wVtA_eq, viewA_nil, viewA_cons, ↓wPA_eq, atPin_is, ↓wAl_eq, ↓wLend_eq, lend_0, lend_s, ↓wPlApp_eq, ↓wPlExt_eq, ↓wPlPop_eq, ↓wAppMv_eq, ↓wNm_eq, ↓wPlClr_eq, fg_lst, fg_lsa, fg_tup, fg_ins, nm_lst, nm_lsa, nm_ins, root_lsa, root_ins, root_rc, kids_lsa, rekid_lsa, outK_lsa, isLst_a, view_pin, oStr_list, oStr_tup, ↓wLenSet_eq, ↓wXOp_eq, ↓wXCb_eq, ↓wXUn_eq, ↓wXLst_eq, ↓wXTup_eq, ↓wXCall_eq, ↓wXCallB_eq, ↓wXMeth_eq, ↓wXMethV_eq, ↓wXB_eq, ↓wXTest_eq, ↓wXTru_eq, ↓wXNot_eq, ↓wXAnd_eq, ↓wXOr_eq, ↓wXIfS_eq, ↓wXAndV_eq, ↓wXOrV_eq, ↓wXNotV_eq, ↓wXIf_eq, ↓wRetXV_eq, ↓wAsgXG_eq, ↓wForX_eq, shT_is, allSh_nil, allSh_cons, ↓wVar_eq, ↓wFd_eq, ↓wKd_eq, ↓wPV_eq, ↓wPF_eq, ↓wPK_eq, ↓wPI_eq, atPl_eq, atT_is, atO_some, atP_nil, atP_cons, bindP_some, putAt_eq, setT_is, putP_nil, putP_cons, putO_some, kids_lst, kids_ins, kids_rc, rekid_lst, rekid_ins, rekid_rc, ↓wXT_eq, ↓wXF_eq, ↓wXNil_eq, ↓wXCons_eq, ↓wAsgX_eq, ↓wDropX_eq, ↓wRetX_eq, ↓wRetNX_eq, ↓wRetVX_eq, ↓wParX_eq, ↓wSetPl_eq, ↓wFSet_eq, ↓wFNew_eq, ↓wRc_eq, ↓wMeth_eq, ↓wMethV_eq, ↓wApP_eq, ↓wApC_eq, ↓wCallX_eq, ↓wCallXB_eq, ↓wMake_eq, ↓fnX_nx, ↓fnX_rx, ↓seq_rx, ↓loop_rx, dropB_f, dropB_t, outK_nil, outK_f, outK_ins, outK_rc, envX_f, envX_t, atRec_is, isIns_is, isRc_is, isLst_is, insK_is, ↓wSortSet_eq, ↓wC_eq, ↓wRetV_eq, ↓wFrz_eq, isBox_eq, ↓wNil_eq, ↓wCons_eq, ↓wOp_eq, ↓wOpT_eq, ↓wUn_eq, ↓wCb_eq, ↓wCbT_eq, ↓wTest_eq, ↓wTru_eq, ↓wYes_eq, ↓wNot_eq, ↓wAnd_eq, ↓wOr_eq, ↓wAndV_eq, ↓wOrV_eq, ↓wNotV_eq, ↓wIf_eq, ↓wIfT_eq, ↓wChain_eq, ↓wLst_eq, ↓wTup_eq, ↓wNilT_eq, ↓wConsT_eq, ↓wLstT_eq, ↓wTupT_eq, ↓wSh_eq, ↓wFz_eq, ↓wVw_eq, ↓wVb_eq, ↓wVt_eq, view_nil, view_cons, view_no, view_box, view_is, ↓wCall_eq, ↓wCallT_eq, ↓wCallB_eq, ↓wCallBT_eq, ↓wIs_eq, ↓wNoPart_eq, ↓wPart_eq, ↓wSl_eq, ↓wSlT_eq, ↓wRevT_eq, ↓wRgL_eq, ↓wSkip_eq, ↓wBreak_eq, ↓wCont_eq, ↓wSeq_eq, ↓seq_nx, ↓seq_rt, ↓seq_bk, ↓seq_ct, ↓loop_nx, ↓loop_rt, ↓loop_bk, ↓loop_ct, ↓fn_nx, ↓fn_rt, ↓wRet_eq, ↓wRetN_eq, ↓wIfS_eq, ↓wAsgT_eq, ↓wAsg_eq, ↓wParN_eq, setsE_cons, setsE_nil, ↓wDrop_eq, ↓wName_eq, ↓wGNil_eq, ↓wGCons_eq, ↓wGTup_eq, ↓wApp_eq, ↓wRev_eq, ↓wClr_eq, ↓wExt_eq, ↓wSet_eq, ↓wPop_eq, ↓wipe_nil, ↓wipe_cons, env0_f, env0_t, atSh_is, atIs_is, atOwn_is, atBox_is, bIf_t, bIf_f, bIf_not, dBool_is, dInt_is, dTup_is, dList_is, dSeq_list, dSeq_tup, dSeq_seq, dTru_none, dTru_bool, dTru_int, dTru_list, dTru_tup, dCons_is, oI_int, oI0_int, oAdd_int, oAdd_list, oMul_int, oMul_list, oNeg_int, oEq_int, oEq_bool, oEq_nn, oEq_in, oEq_ni, oNe_int, oNe_bool, oNe_nn, oNe_in, oNe_ni, oEq_list, oNe_list, oEq_tup, oNe_tup, oEq_str, oNe_str, oIx_list, oIx_tup, oIx_seq, oLen_list, oLen_tup, oLen_seq, oInt_int, oInt_bool, oAbs_int, oMin2_int, oMax2_int, oAll_is, oSum_is, oListD_list, oListD_tup, oListD_seq, oTuple_list, oTuple_tup, oTuple_seq, oRepr_is, oIs_none, oIsNot_none, in_nats_t, in_nats_f, oIn_list, oIn_seq, oList_list, oList_tup, oList_seq, oCat_list, oRep_list, atI_l0, atI_l1, atI_l2, exists_eq_left', exists_eq_left, wPickT_eq, ↓wDNew_eq, ↓wDPut_eq, ↓wDList_eq, atDic_is, ↓wDGet_eq, ↓wDIn_eq, ↓wDNotIn_eq, ↓wDGet1_eq, ↓wD0_eq, ↓wDKeys_eq, ↓wDSort_eq, ↓wDSet_eq, ↓wLk_eq, ↓wKeys_eq, ↓wItems_eq, atD_own, atD_frz, atD_sh, atDO_is, atF_is, ↓wPop0_eq, ↓wSelf_eq, ↓wMove_eq, ↓wRetVT_eq, ↓wApp2_eq, ↓wSet2_eq, ↓wSetP_eq, ↓wAug_eq, oCount_list, ↓wRetPick_eq, oIsB_is, ↓wBmL_eq, oIndexS_is, ↓wAppPop_eq, ↓wAppPopT_eq, ↓wRev2_eq, oSumS_list, oSumS_tup, oSumS_seq, ↓wRetV2_eq, atOwnB_lst, atOwnB_tup, atL_int, mkT_t, mkT_f, w_take_is, w_same_is, notI_none, notI_bool, notI_int, notI_str, notI_list, notI_tup, notI_seq, isNone_none, isNone_bool, isNone_int, isNone_str, isNone_list, isNone_tup, isInt_none, isInt_bool, isInt_int, isInt_str, isInt_list, isInt_tup, isBool_none, isBool_bool, isBool_int, isBool_str, isBool_list, isBool_tup, isList_none, isList_bool, isList_int, isList_str, isList_list, isList_tup, isTuple_none, isTuple_bool, isTuple_int, isTuple_str, isTuple_list, isTuple_tup, isStr_none, isStr_bool, isStr_int, isStr_str, isStr_list, isStr_tup, isNone_seq, isList_seq, isTuple_seq, isInt_seq, isBool_seq, isStr_seq, dTru_seq, List.isEmpty_nil, List.isEmpty_cons, beq_self_eq_true, decide_true, decide_false, T.clean, T.cleans, T.data, T.datas, imm, immAll, List.getElem?_cons_zero, List.getElem?_cons_succ, List.set_cons_zero, List.set_cons_succ, List.map_cons, List.map_nil, List.cons_append, List.nil_append, List.replicate_succ, List.replicate_zero, List.length_cons, List.length_nil, List.length_map, if_true, if_false, Bool.true_and, Bool.and_true, Bool.false_and, Bool.and_false, Bool.not_true, Bool.not_false, Bool.or_true, Bool.true_or, Bool.false_or, Bool.or_false, Bool.false_eq_true, reduceIte, reduceCtorEq, true_and, and_true, Option.some.injEq, Nat.reduceAdd, Nat.reduceLeDiff, Int.reduceLE, Int.reduceLT, Int.cast_ofNat_Int, Int.reduceBEq, Int.reduceToNat])
/-! first_from, granted, accepted, passed -/
section
variable {N : Nat} {R : T → Nat → Prop}
theorem first_from_spec {kd : Bool} {ms : List Int} {p : Nat} (hp : p < ms.length) (hl : ms.length ≤ 1000) (h : R (.sh (optD (nxO ms p))) N) : w_first_from [seqD kd (ms.map PyData.int), .int (p : Nat)] N R := by
  refine ⟨rfl, ?_⟩
  sizeOf_list_dec
  refine for_r1 (n := ms.length) (fun k ε M => M = N ∧ (∀ s, s < k → hitB ms p s = false) ∧ ∃ a b, ε = [.is (.sh (seqD kd (ms.map PyData.int))), .is (.sh (.int (p : Nat))), a, b]) (fun R h => by sizeOf_list_dec; exact h) (by omega) ⟨rfl, (fun s hs => absurd hs (Nat.not_lt_zero s)), _, _, rfl⟩ (fun k ε M hk hI => ?_) fun ε M hI => ?_
  · obtain ⟨rfl, h0, a, b, rfl⟩ := hI
    sizeOf_list_dec
    have e1 : ((p : Int) + (k : Int)) % (ms.length : Int) = (((p + k) % ms.length : Nat) : Int) := by rw [Int.natCast_emod, Int.natCast_add]
    rw [e1]
    refine ⟨by omega, _, atI_int (Nat.mod_lt _ (by omega)), ?_⟩
    sizeOf_list_dec
    refine bIf_of (fun hh => ?_) fun hh => ?_
    · rw [nx_hit hk hh h0] at h
      exact h
    · exact ⟨fun s hs => (Nat.lt_succ_iff_lt_or_eq.mp hs).elim (h0 s) fun e => e ▸ hh, _, _, rfl⟩
  · obtain ⟨rfl, h0, a, b, rfl⟩ := hI
    sizeOf_list_dec
    rw [nx_miss h0] at h
    exact h
theorem granted_spec {kd : Bool} {ms : List Int} {q : Pr} (hp : q.1 < ms.length) (hl : ms.length ≤ 1000) (h : R (.sh (optD (nxO ms q.1))) N) : w_granted [seqD kd (ms.map PyData.int), pD q] N R := by
  refine ⟨rfl, ?_⟩
  unfold pD
  sizeOf_list_dec
  exact first_from_spec hp hl h
theorem accepted_spec {kd : Bool} {ms : List Int} {p : Nat} (hp : p < ms.length) (hl : ms.length ≤ 1000) (h : R (.sh (optD (nxO ms p))) N) : w_accepted [seqD kd (ms.map PyData.int), .int (p : Nat)] N R := by
  refine ⟨rfl, ?_⟩
  sizeOf_list_dec
  exact first_from_spec hp hl h
theorem modS {i n : Nat} : ((i : Int) + 1) % (n : Int) = (((i + 1) % n : Nat) : Int) := by rw [Int.natCast_emod, Int.natCast_add]; rfl
theorem psN_same {parts : List Int} {ct i : Nat} : psN parts (i, ct) i = if ((ct : Int) + 1 < parts.getD i 0) then (i, ct + 1) else ((i + 1) % parts.length, 0) := by
  unfold psN
  rw [if_pos rfl, Int.natCast_add]
  rfl
theorem psN_other {parts : List Int} {pl ct i : Nat} (h : pl ≠ i) : psN parts (pl, ct) i = if ((1 : Int) < parts.getD i 0) then (i, 1) else ((i + 1) % parts.length, 0) := by
  unfold psN
  rw [if_neg h]
  rfl
theorem passed_spec {kd : Bool} {parts : List Int} {q : Pr} {i : Nat} (hi : i < parts.length) (h : R (.sh (pD (psN parts q i))) N) : w_passed [pD q, .int (i : Nat), seqD kd (parts.map PyData.int)] N R := by
  obtain ⟨pl, ct⟩ := q
  refine ⟨rfl, ?_⟩
  unfold pD
  sizeOf_list_dec
  rw [modS]
  refine bIf_beq (fun he => ?_) fun he => ?_
  · have e : pl = i := by omega
    subst e
    rw [psN_same] at h
    refine ⟨_, atI_int hi, ?_⟩
    sizeOf_list_dec
    refine bIf_dec (fun hc => ?_) fun hc => ?_
    · rw [if_pos hc] at h
      exact h
    · rw [if_neg hc] at h
      first | exact h | exact ⟨by omega, h⟩
  · have e : pl ≠ i := fun z => he (by rw [z])
    rw [psN_other e] at h
    refine ⟨_, atI_int hi, ?_⟩
    sizeOf_list_dec
    refine bIf_dec (fun hc => ?_) fun hc => ?_
    · rw [if_pos hc] at h
      exact h
    · rw [if_neg hc] at h
      first | exact h | exact ⟨by omega, h⟩
end
/-! tables -/
section
variable {N : Nat} {R : T → Nat → Prop} {k1 k2 k3 k4 : Bool} {M : Mat}
theorem left_out_spec {I O : List Nat} (hz : Sz M) (h : R (.lst ((leftN I O M).map fun r => .lst (r.map fun x => .sh (.int x)))) N) : w_left_out [tabD k1 k2 M, seqD k3 (I.map nD), seqD k4 (O.map nD)] N R := by
  refine ⟨rfl, ?_⟩
  sizeOf_list_dec
  refine lcT_m M.zipIdx (fun p => .tuple [.int (p.2 : Nat), rowD k2 p.1]) (fun p => .lst (p.1.zipIdx.map fun q => .sh (.int (if cutB I O p.2 q.2 then 0 else q.1)))) ?_ (by rw [List.length_zipIdx]; have := hz.1; omega) (fun x A hx hA => ?_) ?_
  · rw [← enum_map]
    exact gv_en (fun R h => by sizeOf_list_dec; exact h) (by unfold tabD; exact seqOf_seqD _ _)
  · sizeOf_list_dec
    refine lcT_m x.1.zipIdx (fun q => .tuple [.int (q.2 : Nat), .int q.1]) (fun q => .sh (.int (if cutB I O x.2 q.2 then 0 else q.1))) ?_ (by rw [List.length_zipIdx]; have := hz.2 _ (zipIdx_fst hx); omega) (fun y A hy hA => ?_) hA
    · have e := enum_map PyData.int x.1
      rw [← e]
      exact gv_en (d := rowD k2 x.1) (fun R h => by sizeOf_list_dec; exact h) (by unfold rowD; exact seqOf_seqD _ _)
    · have eI : I.map nD = (I.map fun n : Nat => (n : Int)).map PyData.int := by rw [List.map_map]; rfl
      have eO : O.map nD = (O.map fun n : Nat => (n : Int)).map PyData.int := by rw [List.map_map]; rfl
      rw [eI, eO]
      sizeOf_list_dec
      rw [contains_nat, contains_nat]
      unfold cutB at hA
      cases hi : I.contains x.2 with
      | true =>
        rw [hi] at hA
        exact hA
      | false =>
        rw [hi] at hA
        sizeOf_list_dec
        cases ho : O.contains y.2 with
        | true =>
          rw [ho] at hA
          exact hA
        | false =>
          rw [ho] at hA
          exact hA
  · unfold leftN at h
    rw [List.map_map] at h
    have e : (fun p : List Int × Nat => T.lst (p.1.zipIdx.map fun q => T.sh (.int (if cutB I O p.2 q.2 then 0 else q.1)))) = ((fun r : List Int => T.lst (r.map fun x => T.sh (.int x))) ∘ fun p : List Int × Nat => p.1.zipIdx.map fun q => if cutB I O p.2 q.2 then 0 else q.1) := by
      funext p
      show _ = T.lst ((p.1.zipIdx.map _).map _)
      rw [List.map_map]
      rfl
    rw [e]
    exact h
theorem tab_data (M : Mat) : (T.lst (M.map fun r => T.lst (r.map fun x => T.sh (.int x)))).data = tabD true true M := by
  show PyData.list (T.datas _) = PyData.list _
  rw [datas_map, List.map_map]
  congr 1
  refine List.map_congr_left fun r _ => ?_
  show PyData.list (T.datas _) = PyData.list _
  rw [datas_map, List.map_map]
  rfl
theorem prs_data (ps : List Pr) : (T.lst (ps.map fun p => T.sh (pD p))).data = .list (ps.map pD) := by
  show PyData.list (T.datas _) = PyData.list _
  rw [datas_map, List.map_map]
  rfl
theorem nats_data (ns : List Nat) : (T.lst (ns.map fun n => T.sh (nD n))).data = .list (ns.map nD) := by
  show PyData.list (T.datas _) = PyData.list _
  rw [datas_map, List.map_map]
  rfl
end
section
variable {N : Nat} {R : T → Nat → Prop} {k1 k2 : Bool} {M : Mat}
theorem turned_spec {m : Nat} (hl : M.length ≤ 12) (hne : M ≠ []) (hr : ∀ r ∈ M, r.length = m) (hm : m ≤ 1000) (h : R (.lst ((turnM m M).map fun r => .lst (r.map fun x => .sh (.int x)))) N) : w_turned [tabD k1 k2 M] N R := by
  refine ⟨rfl, ?_⟩
  sizeOf_list_dec
  refine lcT_m (List.range m) (fun j => .tuple (M.map fun r => .int (r.getD j 0))) (fun j => .lst (M.map fun r => .sh (.int (r.getD j 0)))) (fun R hR => ?_) (by rw [List.length_range]; omega) (fun j A hj hA => ?_) ?_
  · show wVar 0 _ N _
    sizeOf_list_dec
    refine ⟨k2, m, M.map (·.map PyData.int), ?_, ?_, by rw [List.length_map]; exact hl, fun r hr' => ?_, ?_⟩
    · unfold tabD
      rw [seqOf_seqD, List.map_map]
      rfl
    · intro z
      exact hne (List.map_eq_nil_iff.mp z)
    · obtain ⟨q, hq, rfl⟩ := List.mem_map.mp hr'
      rw [List.length_map]
      exact hr q hq
    · have e : colsD m (M.map (·.map PyData.int)) = (List.range m).map fun j => PyData.tuple (M.map fun r => .int (r.getD j 0)) := by
        unfold colsD
        refine List.map_congr_left fun j hj => ?_
        rw [List.map_map]
        congr 1
        refine List.map_congr_left fun r hr' => ?_
        show (r.map PyData.int).getD j .none = .int (r.getD j 0)
        have hj' : j < r.length := by rw [hr r hr']; exact List.mem_range.mp hj
        rw [List.getD_eq_getElem?_getD, List.getD_eq_getElem?_getD, List.getElem?_map, List.getElem?_eq_getElem hj']
        rfl
      rw [e]
      exact hR
  · sizeOf_list_dec
    rw [List.map_map]
    exact hA
  · have e : ((turnM m M).map fun r => T.lst (r.map fun x => .sh (.int x))) = (List.range m).map fun j => T.lst (M.map fun r => .sh (.int (r.getD j 0))) := by
      unfold turnM
      rw [List.map_map]
      refine List.map_congr_left fun j _ => ?_
      show T.lst ((M.map _).map _) = _
      rw [List.map_map]
      rfl
    rw [e] at h
    exact h
end
/-! pairs as data, compared -/
section
theorem eqv_pD (p q : Pr) : PyData.eqv (pD p) (pD q) = decide (p = q) := by
  obtain ⟨a, c⟩ := p
  obtain ⟨d, e⟩ := q
  have : PyData.eqv (pD (a, c)) (pD (d, e)) = (((a : Int) == d) && (((c : Int) == e) && true)) := rfl
  rw [this, Bool.eq_iff_iff]
  simp only [Bool.and_eq_true, beq_iff_eq, decide_eq_true_eq, Prod.mk.injEq, and_true]
  omega
theorem any_pD (P : List Pr) (p : Pr) : ((P.map pD).any fun z => PyData.eqv z (pD p)) = decide (p ∈ P) := by
  rw [Bool.eq_iff_iff, List.any_map, List.any_eq_true]
  simp only [Function.comp_apply, eqv_pD, decide_eq_true_eq, exists_eq_right]
theorem shp_pD (p : Pr) : Shp 1 (pD p) := Shp.tuple fun x hx => by
  simp only [List.mem_cons, List.not_mem_nil, or_false] at hx
  rcases hx with rfl | rfl <;> exact Shp.int _
theorem shp_pDs (P : List Pr) : Shp 2 (.list (P.map pD)) := Shp.list fun x hx => by
  obtain ⟨p, _, rfl⟩ := List.mem_map.mp hx
  exact shp_pD p
end
/-! pairs -/
section
variable {N : Nat} {R : T → Nat → Prop} {k1 k2 k3 k4 : Bool} {M : Mat} {ps : List Pr}
theorem inlets_of_spec (hl : ps.length ≤ 40000) (h : R (.lst (ps.map fun p => .sh (nD p.1))) N) : w_inlets_of [seqD k3 (ps.map pD)] N R := by
  refine ⟨rfl, ?_⟩
  sizeOf_list_dec
  refine lcT_m ps pD (fun p => .sh (nD p.1)) (gv_it (fun R h => by sizeOf_list_dec; exact h) (seqOf_seqD _ _)) hl (fun x A hx hA => ?_) h
  unfold pD
  sizeOf_list_dec
  exact hA
theorem outlets_of_spec (hl : ps.length ≤ 40000) (h : R (.lst (ps.map fun p => .sh (nD p.2))) N) : w_outlets_of [seqD k3 (ps.map pD)] N R := by
  refine ⟨rfl, ?_⟩
  sizeOf_list_dec
  refine lcT_m ps pD (fun p => .sh (nD p.2)) (gv_it (fun R h => by sizeOf_list_dec; exact h) (seqOf_seqD _ _)) hl (fun x A hx hA => ?_) h
  unfold pD
  sizeOf_list_dec
  exact hA
theorem asks_left_spec (hz : Sz M) (hl : ps.length ≤ 40000) (h : R (.lst ((leftN (ps.map (·.1)) (ps.map (·.2)) M).map fun r => .lst (r.map fun x => .sh (.int x)))) N) : w_asks_left [tabD k1 k2 M, seqD k3 (ps.map pD)] N R := by
  refine ⟨rfl, ?_⟩
  sizeOf_list_dec
  refine inlets_of_spec hl (outlets_of_spec hl ?_)
  have e1 := nats_data (ps.map (·.1))
  have e2 := nats_data (ps.map (·.2))
  rw [List.map_map] at e1 e2
  rw [show (fun p : Pr => T.sh (nD p.1)) = ((fun n => T.sh (nD n)) ∘ fun x : Pr => x.1) from rfl, show (fun p : Pr => T.sh (nD p.2)) = ((fun n => T.sh (nD n)) ∘ fun x : Pr => x.2) from rfl, e1, e2]
  exact left_out_spec (k3 := true) (k4 := true) hz h
end
/-! grants_by, accepts_by, turn -/
section
variable {N : Nat} {R : T → Nat → Prop} {L : Mat} {qs : List Pr} {pl : List Nat} {n m : Nat} {k1 k2 : Bool}
theorem grants_by_spec (hn1 : 1 ≤ n) (hn : n ≤ 12) (hm : m ≤ 12) (hL : L.length = n ∧ ∀ r ∈ L, r.length = m) (hq : qs.length = m ∧ ∀ q ∈ qs, q.1 < n) (h : R (.lst ((grN m L qs).map fun p => .sh (pD p))) N) : w_grants_by [tabD k1 k2 L, .list (qs.map pD)] N R := by
  refine ⟨rfl, ?_⟩
  sizeOf_list_dec
  refine for_en (d := tabD true true (turnM m L)) (ds := (turnM m L).map (rowD true)) (fun k ε M => M = N ∧ ∃ a b c, ε = [.is (.sh (tabD k1 k2 L)), .is (.sh (.list (qs.map pD))), .is (.lst (((List.range k).filterMap (grF L qs)).map fun p => .sh (pD p))), a, b, c]) (fun R h => ?_) rfl ⟨rfl, _, _, _, rfl⟩ (fun k x ε M hk hI => ?_) fun ε M hI => ?_
  · sizeOf_list_dec
    refine turned_spec (m := m) (by omega) (fun z => by rw [z] at hL; have := hL.1; simp at this; omega) hL.2 (by omega) ?_
    rw [tab_data]
    exact h
  · obtain ⟨rfl, a, b, c, rfl⟩ := hI
    have hkm : k < m := by
      have := (List.getElem?_eq_some_iff.mp hk).1
      rw [List.length_map] at this
      unfold turnM at this
      rw [List.length_map, List.length_range] at this
      exact this
    have ex : x = rowD true (L.map fun r => r.getD k 0) := by
      unfold turnM at hk
      rw [List.map_map, List.getElem?_map, List.getElem?_range hkm] at hk
      exact (Option.some.inj hk).symm
    subst ex
    have hqk : (qs.getD k (0, 0)).1 < n := by
      have hl := hq.1 ▸ hkm
      rw [List.getD_eq_getElem?_getD, List.getElem?_eq_getElem hl]
      exact hq.2 _ (List.getElem_mem hl)
    sizeOf_list_dec
    refine ⟨_, atI_prs (by omega), ?_⟩
    unfold rowD
    refine granted_spec (by rw [List.length_map]; omega) (by rw [List.length_map]; omega) ?_
    sizeOf_list_dec
    rw [fm_range]
    unfold grF
    cases z : nxO (L.map fun r => r.getD k 0) (qs.getD k (0, 0)).1 with
    | none =>
      sizeOf_list_dec
      rw [show ((none : Option Nat).map fun i => (k, i)).toList = [] from rfl, List.append_nil]
      exact ⟨_, _, _, rfl⟩
    | some i =>
      sizeOf_list_dec
      rw [List.map_append]
      refine ⟨?_, _, _, _, rfl⟩
      exact Nat.le_trans (List.length_filterMap_le ..) (by rw [List.length_range]; omega)
  · obtain ⟨rfl, a, b, c, rfl⟩ := hI
    sizeOf_list_dec
    have e : (turnM m L).length = m := by unfold turnM; rw [List.length_map, List.length_range]
    rw [e]
    exact h
theorem oInD_pr {p : Pr} {G : List Pr} {S : PyData → Prop} (h : S (.bool (decide (p ∈ G)))) : oInD (.tuple [.int (p.1 : Int), .int (p.2 : Int)]) (.list (G.map pD)) S := by
  refine ⟨(shp_pD p).shaped (by decide), (shp_pDs G).shaped (by decide), ?_⟩
  have := any_pD G p
  rw [show (PyData.tuple [.int (p.1 : Int), .int (p.2 : Int)]) = pD p from rfl, this]
  exact h
theorem accepts_by_spec {G : List Pr} (hn : n ≤ 12) (hm : m ≤ 12) (hp : pl.length = n ∧ ∀ x ∈ pl, x < m) (h : R (.lst ((acN n m G pl).map fun p => .sh (pD p))) N) : w_accepts_by [.list (G.map pD), .list (pl.map nD), .int (m : Int)] N R := by
  refine ⟨rfl, ?_⟩
  sizeOf_list_dec
  refine for_en (d := .list (pl.map nD)) (ds := pl.map nD) (fun k ε M => M = N ∧ ∃ a b c d e, ε = [.is (.sh (.list (G.map pD))), .is (.sh (.list (pl.map nD))), .is (.sh (.int (m : Int))), .is (.lst (((List.range k).filterMap (acF m G pl)).map fun p => .sh (pD p))), a, b, c, d, e]) (fun R h => by sizeOf_list_dec; exact h) rfl ⟨rfl, _, _, _, _, _, rfl⟩ (fun k x ε M hk hI => ?_) fun ε M hI => ?_
  · obtain ⟨rfl, a, b, c, d, e, rfl⟩ := hI
    have hkn : k < n := by
      have := (List.getElem?_eq_some_iff.mp hk).1
      rw [List.length_map] at this
      omega
    have hkl : k < pl.length := by omega
    have ex : x = .int ((pl.getD k 0 : Nat) : Int) := by
      rw [List.getElem?_map, List.getElem?_eq_getElem hkl] at hk
      rw [List.getD_eq_getElem?_getD, List.getElem?_eq_getElem hkl]
      exact (Option.some.inj hk).symm
    subst ex
    have hpk : pl.getD k 0 < m := by
      rw [List.getD_eq_getElem?_getD, List.getElem?_eq_getElem hkl]
      exact hp.2 _ (List.getElem_mem hkl)
    sizeOf_list_dec
    refine lc_m (List.range m) (fun k : Nat => PyData.int (k : Int)) (fun j => .int (if (j, k) ∈ G then 1 else 0)) (gv_r1 (n := m) (fun R h => by sizeOf_list_dec; exact h) (by omega)) (by rw [List.length_range]; omega) (fun j A hj hA => ?_) ?_
    · sizeOf_list_dec
      refine oInD_pr (p := (j, k)) ?_
      sizeOf_list_dec
      refine bIf_dec (fun hc => ?_) fun hc => ?_
      · rw [if_pos hc] at hA
        exact hA
      · rw [if_neg hc] at hA
        exact hA
    · sizeOf_list_dec
      rw [show (List.range m).map (fun j => PyData.int (if (j, k) ∈ G then 1 else 0)) = ((List.range m).map fun j => if (j, k) ∈ G then (1 : Int) else 0).map PyData.int from by rw [List.map_map]; rfl]
      refine accepted_spec (kd := true) (by rw [List.length_map, List.length_range]; exact hpk) (by rw [List.length_map, List.length_range]; omega) ?_
      sizeOf_list_dec
      rw [fm_range]
      unfold acF
      cases z : nxO ((List.range m).map fun j => if (j, k) ∈ G then (1 : Int) else 0) (pl.getD k 0) with
      | none =>
        sizeOf_list_dec
        rw [show ((none : Option Nat).map fun j => (k, j)).toList = [] from rfl, List.append_nil]
        exact ⟨_, _, _, _, _, rfl⟩
      | some i =>
        sizeOf_list_dec
        rw [List.map_append]
        refine ⟨?_, _, _, _, _, _, rfl⟩
        exact Nat.le_trans (List.length_filterMap_le ..) (by rw [List.length_range]; omega)
  · obtain ⟨rfl, a, b, c, d, e, rfl⟩ := hI
    sizeOf_list_dec
    rw [hp.1]
    exact h
end
/-! turn: pointers and places move -/
section
variable {N : Nat} {parts : Mat} {qs : List Pr} {pl : List Nat} {n m : Nat} {κ : Nat → Addr} {RX : T → List T → Nat → Prop}
abbrev grT (a C : Addr) (n m : Nat) (pT : T) (qs : List Pr) (pl : List Nat) : T := .ins a C ns_Grants [.sh (.int (n : Int)), .sh (.int (m : Int)), pT, .lst (qs.map fun p => .sh (pD p)), .lst (pl.map fun x => .sh (nD x))]
theorem dsP (ps : List Pr) : T.datas (ps.map fun p => T.sh (pD p)) = ps.map pD := by rw [datas_map, List.map_map]; rfl
theorem dsN (ns : List Nat) : T.datas (ns.map fun p => T.sh (nD p)) = ns.map nD := by rw [datas_map, List.map_map]; rfl
theorem ixN_of {n j : Nat} (h : j < n) : ixN n (j : Int) = some j := by
  unfold ixN
  rw [if_pos (by omega), if_pos (by omega)]
  congr 1
theorem turn_spec {a : Addr} {pT : T} {A : List Pr} (g : Gst n m parts qs pl) (hp : pT.data = tabD true true parts) (hA : ∀ p ∈ A, p.1 < n ∧ p.2 < m)
    (h : RX (.sh .none) [grT a (κ 0) n m pT (mvN m parts A (qs, pl)).1 (mvN m parts A (qs, pl)).2, .sh (.list (A.map pD))] N) : w_Grants_turn κ [grT a (κ 0) n m pT qs pl, .sh (.list (A.map pD))] N RX := by
  refine ⟨rfl, ?_⟩
  sizeOf_list_dec
  refine for_f A pD (fun k ε M => M = N ∧ ∃ x y, ε = [.is (grT a (κ 0) n m pT (mvN m parts (A.take k) (qs, pl)).1 (mvN m parts (A.take k) (qs, pl)).2), .is (.sh (.list (A.map pD))), x, y]) (gv_it (d := .list (A.map pD)) (fun R h => by sizeOf_list_dec; exact h) rfl) ⟨rfl, _, _, rfl⟩ (fun k p ε M hk hI => ?_) fun ε M hI => ?_
  · obtain ⟨rfl, x, y, rfl⟩ := hI
    have hpA : p ∈ A := List.mem_of_getElem? hk
    have gk : Gst n m parts (mvN m parts (A.take k) (qs, pl)).1 (mvN m parts (A.take k) (qs, pl)).2 := Gst.mv (s := (qs, pl)) g fun q hq => hA q (List.mem_of_mem_take hq)
    have ek : mvN m parts (A.take (k + 1)) (qs, pl) = mvF m parts (mvN m parts (A.take k) (qs, pl)) p := by
      unfold mvN
      rw [List.take_add_one, hk, List.foldl_append]
      rfl
    generalize hs : mvN m parts (A.take k) (qs, pl) = s at gk ek ⊢
    obtain ⟨i, j⟩ := p
    obtain ⟨hi, hj⟩ := hA (i, j) hpA
    have hi : i < n := hi
    have hj : j < m := hj
    show wGTup 2 _ (.tuple [.int (i : Int), .int (j : Int)]) _ _
    sizeOf_list_dec
    rw [dsP, hp, modS]
    have lq := gk.qs.1
    have lp := gk.pl.1
    refine ⟨_, atI_prs (by omega), ?_⟩
    show oIx (.list (parts.map (rowD true))) _ _
    sizeOf_list_dec
    refine ⟨_, atI_rows (by rw [g.pa.1]; exact hj), ?_⟩
    unfold rowD
    refine passed_spec (by rw [(g.part hj).1]; exact hi) ?_
    refine ⟨rfl, by decide, j, ixN_of (by omega), by omega, by decide, i, ixN_of (by omega), .is (.sh (.int (i : Int))), .is (.sh (.int (j : Int))), ?_⟩
    rw [ek]
    unfold mvF grT
    rw [List.map_set, List.map_set]
    rfl
  · obtain ⟨rfl, x, y, rfl⟩ := hI
    rw [List.take_length]
    sizeOf_list_dec
    exact h
end
/-! a beat -/
section
variable {N : Nat} {parts : Mat} {qs : List Pr} {pl : List Nat} {n m : Nat} {κ : Nat → Addr} {RX : T → List T → Nat → Prop}
theorem rdsP_go {q : List Pr} {p : List Nat} {r : Nat} {L : Mat} (h : grN m L q ≠ []) : rdsP n m q p (r + 1) L = (grN m L q, acN n m (grN m L q) p) :: rdsP n m q p r (nextL (acN n m (grN m L q) p) L) := if_neg h
theorem rdsP_end {q : List Pr} {p : List Nat} {r : Nat} {L : Mat} (h : grN m L q = []) : rdsP n m q p (r + 1) L = [] := if_pos h
theorem beatP_go {q : List Pr} {p : List Nat} {r : Nat} {L : Mat} (h : grN m L q ≠ []) : beatP n m parts (r + 1) L q p = (grN m L q, acN n m (grN m L q) p) :: rdsP n m (behP n m parts (r + 1) L q p).1 (behP n m parts (r + 1) L q p).2 r (nextL (acN n m (grN m L q) p) L) := if_neg h
theorem beatP_end {q : List Pr} {p : List Nat} {r : Nat} {L : Mat} (h : grN m L q = []) : beatP n m parts (r + 1) L q p = [] := if_pos h
theorem clean_prs (ps : List Pr) : (T.lst (ps.map fun p => T.sh (pD p))).clean = true := by
  show T.cleans _ = true
  induction ps with
  | nil => rfl
  | cons p ps ih =>
    show (imm (pD p) && T.cleans _) = true
    rw [ih]
    rfl
theorem ac_in {L : Mat} {q : List Pr} {p : List Nat} (x : Pr) (hx : x ∈ acN n m (grN m L q) p) : x.1 < n ∧ x.2 < m := ⟨(ac_mem hx).1, (ac_mem hx).2.1⟩
/-- what a beat tells, wholly its own -/
def rdT (q : Addr × Addr) (x : Rd2) : T := .tup [.lsa q.1 (x.1.map fun p => .sh (pD p)), .lsa q.2 (x.2.map fun p => .sh (pD p))]
def rdsT (ab : List (Addr × Addr)) (rs : List Rd2) : List T := List.zipWith rdT ab rs
theorem dsO : ∀ {ab : List (Addr × Addr)} {rs : List Rd2}, ab.length = rs.length → T.datas (rdsT ab rs) = rs.map rdD
  | [], [], _ => rfl
  | [], _ :: _, h => by cases h
  | _ :: _, [], h => by cases h
  | q :: ab, x :: rs, h => by
    show (rdT q x).data :: T.datas (rdsT ab rs) = rdD x :: rs.map rdD
    rw [dsO (Nat.succ.inj h)]
    show PyData.tuple [.list (T.datas _), .list (T.datas _)] :: _ = _
    rw [dsP, dsP]
    rfl
theorem cleanO : ∀ {ab : List (Addr × Addr)} {rs : List Rd2}, T.cleans (rdsT ab rs) = true
  | [], _ => rfl
  | _ :: _, [] => rfl
  | q :: ab, x :: rs => by
    show ((T.cleans (x.1.map fun p => .sh (pD p)) && (T.cleans (x.2.map fun p => .sh (pD p)) && true)) && T.cleans (rdsT ab rs)) = true
    rw [show T.cleans (x.1.map fun p => .sh (pD p)) = true from clean_prs x.1, show T.cleans (x.2.map fun p => .sh (pD p)) = true from clean_prs x.2, cleanO]
    rfl
theorem rdsT_snoc {ab : List (Addr × Addr)} {rs : List Rd2} {q : Addr × Addr} {x : Rd2} (h : ab.length = rs.length) : rdsT (ab ++ [q]) (rs ++ [x]) = rdsT ab rs ++ [rdT q x] := by
  unfold rdsT
  rw [List.zipWith_append h]
  rfl
theorem lenO {ab : List (Addr × Addr)} {rs : List Rd2} (h : ab.length = rs.length) : (rdsT ab rs).length = rs.length := by
  unfold rdsT
  rw [List.length_zipWith, h, Nat.min_self]
theorem atO_last {ab : List (Addr × Addr)} {rs : List Rd2} {x y : T} (h : ab.length = rs.length) : atP [rs.length, 1] (T.lst (rdsT ab rs ++ [T.tup [x, y]])) = some y := by
  show (match (rdsT ab rs ++ [T.tup [x, y]])[rs.length]? with | some u => atP [1] u | none => none) = some y
  rw [List.getElem?_append_right (by rw [lenO h]; exact Nat.le_refl _), lenO h, Nat.sub_self]
  rfl
theorem cleanM (M : Mat) : (T.lst (M.map fun r => .lst (r.map fun x => .sh (.int x)))).clean = true := by
  show T.cleans _ = true
  induction M with
  | nil => rfl
  | cons r M ih =>
    show (T.cleans (r.map fun x => T.sh (.int x)) && T.cleans _) = true
    rw [ih, Bool.and_true]
    induction r with
    | nil => rfl
    | cons x r ih2 => exact ih2
theorem cleanQ {a : Addr} {pT : T} (hc : pT.clean = true) : (grT a (κ 0) n m pT qs pl).clean = true := by
  show (true && (true && (pT.clean && (T.cleans _ && (T.cleans _ && true))))) = true
  rw [hc, show T.cleans (qs.map fun p => T.sh (pD p)) = true from clean_prs qs]
  have : T.cleans (pl.map fun x => T.sh (nD x)) = true := by
    induction pl with
    | nil => rfl
    | cons x l ih => exact ih
  rw [this]
  rfl
theorem beat_spec {a : Addr} {pT : T} {L : Mat} {k1 k2 : Bool} {r : Nat} (g : Gst n m parts qs pl) (hp : pT.data = tabD true true parts) (hc0 : pT.clean = true) (hL : L.length = n ∧ ∀ x ∈ L, x.length = m) (hr : r ≤ 1000)
    (h : ∀ ab : List (Addr × Addr), ab.length = (beatP n m parts r L qs pl).length → RX (.lst (rdsT ab (beatP n m parts r L qs pl))) [grT a (κ 0) n m pT (behP n m parts r L qs pl).1 (behP n m parts r L qs pl).2, .sh (tabD k1 k2 L), .sh (.int (r : Int))] N) : w_Grants_beat κ [grT a (κ 0) n m pT qs pl, .sh (tabD k1 k2 L), .sh (.int (r : Int))] N RX := by
  refine ⟨rfl, ?_⟩
  sizeOf_list_dec
  refine while_i (fun w ε M => M = N ∧ ∃ (ab : List (Addr × Addr)) (told : List Rd2) (L2 : Mat) (q : List Pr) (p : List Nat) (b1 b2 : Bool) (x y : Sl), ε = [.is (grT a (κ 0) n m pT q p), .is (.sh (tabD k1 k2 L)), .is (.sh (.int (r : Int))), .is (.lst (rdsT ab told)), .is (.sh (tabD b1 b2 L2)), x, y] ∧ ab.length = told.length ∧ w + told.length = r ∧ (L2.length = n ∧ ∀ x ∈ L2, x.length = m) ∧ Gst n m parts q p ∧
    ((told = [] ∧ L2 = L ∧ q = qs ∧ p = pl) ∨ (told ≠ [] ∧ (q, p) = behP n m parts r L qs pl ∧ told ++ rdsP n m q p w L2 = beatP n m parts r L qs pl))) r ⟨rfl, [], [], L, qs, pl, k1, k2, _, _, rfl, rfl, by simp, hL, g, .inl ⟨rfl, rfl, rfl, rfl⟩⟩ fun w ε M hI => ?_
  obtain ⟨rfl, ab, told, L2, q, p, b1, b2, x, y, rfl, hab, hw, hL2, gq, hc⟩ := hI
  have fin : (told = [] → beatP n m parts r L qs pl = [] ∧ behP n m parts r L qs pl = (qs, pl)) → (told ≠ [] → rdsP n m q p w L2 = []) → RX (.lst (rdsT ab told)) [grT a (κ 0) n m pT q p, .sh (tabD k1 k2 L), .sh (.int (r : Int))] M := fun f1 f2 => by
    rcases hc with ⟨h1, h2, h3, h4⟩ | ⟨h1, h2, h3⟩
    · obtain ⟨e1, e2⟩ := f1 h1
      rw [e1, e2] at h
      rw [h1, h3, h4]
      exact h ab (by rw [hab, h1])
    · rw [f2 h1, List.append_nil] at h3
      rw [← h3, ← h2] at h
      exact h ab hab
  sizeOf_list_dec
  rw [dsO hab, List.length_map]
  have hz : Sz L2 := ⟨by have := g.n2; have := hL2.1; omega, fun x hx => by have := g.m2; have := hL2.2 x hx; omega⟩
  refine bIf_dec (fun hlt => ?_) fun hlt => ?_
  · have hlt : told.length < r := by omega
    obtain ⟨w', rfl⟩ : ∃ w', w = w' + 1 := ⟨w - 1, by omega⟩
    rw [dsP]
    refine grants_by_spec g.n1 g.n2 g.m2 hL2 gq.qs ?_
    refine ⟨clean_prs _, ?_⟩
    rw [prs_data, dTru_list]
    refine bIf_of (fun hne => ?_) fun hem => ?_
    · have hG : grN m L2 q ≠ [] := fun z => by rw [z] at hne; cases hne
      rw [dsN]
      refine accepts_by_spec g.n2 g.m2 gq.pl ?_
      refine ⟨clean_prs _, ?_⟩
      rcases hc with ⟨h1, h2, h3, h4⟩ | ⟨h1, h2, h3⟩
      · subst h2 h3 h4
        have hr1 : r = w' + 1 := by rw [h1] at hw; simpa using hw.symm
        subst hr1
        have eb : behP n m parts (w' + 1) L2 q p = mvN m parts (acN n m (grN m L2 q) p) (q, p) := by
          unfold behP
          rw [if_neg]
          rintro (z | z)
          · omega
          · exact hG z
        rw [show (told.map rdD).isEmpty = true from by rw [h1]; rfl, bIf_t]
        rw [show (T.lst ((acN n m (grN m L2 q) p).map fun p => T.sh (pD p))).data = .list ((acN n m (grN m L2 q) p).map pD) from by show PyData.list (T.datas _) = _; rw [dsP]]
        refine turn_spec gq hp ac_in ?_
        refine ⟨_, rfl, rfl, _, rfl, cleanQ hc0, ?_⟩
        sizeOf_list_dec
        refine ⟨by rw [lenO hab]; omega, fun x1 y1 => ⟨x1, y1, rfl, rfl, [told.length, 1], ?_⟩⟩
        rw [atO_last hab]
        sizeOf_list_dec
        rw [dsP]
        refine asks_left_spec (k3 := true) hz (Nat.le_trans (List.length_filterMap_le ..) (by rw [List.length_range]; have := g.n2; omega)) ?_
        refine ⟨cleanM _, ?_⟩
        rw [tab_data]
        refine ⟨w', by omega, ab ++ [(x1, y1)], told ++ [(grN m L2 q, acN n m (grN m L2 q) p)], nextL (acN n m (grN m L2 q) p) L2, _, _, true, true, .pin x1, .pin y1, ?_, ?_, ?_, nextL_size hL2, (Gst.mv (s := (q, p)) gq ac_in), .inr ⟨by simp, eb.symm, (by rw [h1, beatP_go hG, eb]; rfl)⟩⟩
        · rw [rdsT_snoc hab]
          rfl
        · rw [List.length_append, List.length_append, hab]; rfl
        · simp only [List.length_append, List.length_cons, List.length_nil]; omega
      · have he : (told.map rdD).isEmpty = false := by cases told <;> first | exact absurd rfl h1 | rfl
        rw [he, bIf_f]
        sizeOf_list_dec
        refine ⟨by rw [lenO hab]; omega, fun x1 y1 => ⟨x1, y1, rfl, rfl, [told.length, 1], ?_⟩⟩
        rw [atO_last hab]
        sizeOf_list_dec
        rw [dsP]
        refine asks_left_spec (k3 := true) hz (Nat.le_trans (List.length_filterMap_le ..) (by rw [List.length_range]; have := g.n2; omega)) ?_
        refine ⟨cleanM _, ?_⟩
        rw [tab_data]
        refine ⟨w', by omega, ab ++ [(x1, y1)], told ++ [(grN m L2 q, acN n m (grN m L2 q) p)], nextL (acN n m (grN m L2 q) p) L2, q, p, true, true, .pin x1, .pin y1, ?_, ?_, ?_, nextL_size hL2, gq, .inr ⟨by simp, h2, (by rw [← h3, List.append_assoc]; congr 1; rw [rdsP_go hG]; rfl)⟩⟩
        · rw [rdsT_snoc hab]
          rfl
        · rw [List.length_append, List.length_append, hab]; rfl
        · simp only [List.length_append, List.length_cons, List.length_nil]; omega
    · have hG : grN m L2 q = [] := by
        cases hx : grN m L2 q with
        | nil => rfl
        | cons a b => rw [hx] at hem; cases hem
      refine fin (fun z => ?_) fun _ => ?_
      · rcases hc with ⟨h1, h2, h3, h4⟩ | ⟨h1, _⟩
        · subst h1 h2 h3 h4
          have hr1 : r = w' + 1 := by simpa using hw.symm
          subst hr1
          exact ⟨beatP_end hG, by unfold behP; rw [if_pos (.inr hG)]⟩
        · exact absurd z h1
      · exact rdsP_end hG
  · have hw0 : w = 0 := by omega
    subst hw0
    refine fin (fun z => ?_) fun _ => rfl
    subst z
    have hr0 : r = 0 := by simpa using hw.symm
    subst hr0
    exact ⟨rfl, rfl⟩
end
/-! pointers, places, a like -/
section
variable {N : Nat} {R : T → Nat → Prop} {parts : Mat} {n m : Nat} {κ : Nat → Addr} {qs : List Pr} {pl : List Nat}
/-- a Grants as it is read -/
abbrev grD (C : Addr) (n m : Nat) (parts : Mat) (qs : List Pr) (pl : List Nat) : PyData := recD (.int (C : Int)) ns_Grants [.int (n : Int), .int (m : Int), tabD true true parts, .list (qs.map pD), .list (pl.map nD)]
theorem grT_data {a C : Addr} {pT : T} (hp : pT.data = tabD true true parts) : (grT a C n m pT qs pl).data = grD C n m parts qs pl := by
  show recD (.int (C : Int)) ns_Grants [.int (n : Int), .int (m : Int), pT.data, .list (T.datas _), .list (T.datas _)] = _
  rw [hp, dsP, dsN]
theorem pointers_spec (h : R (.lst (qs.map fun p => .sh (pD p))) N) : w_Grants_pointers κ [grD (κ 0) n m parts qs pl] N R := by
  refine ⟨rfl, ?_⟩
  sizeOf_list_dec
  rw [List.map_map]
  exact h
theorem places_spec (h : R (.lst (pl.map fun p => .sh (nD p))) N) : w_Grants_places κ [grD (κ 0) n m parts qs pl] N R := by
  refine ⟨rfl, ?_⟩
  sizeOf_list_dec
  rw [List.map_map]
  exact h
end
/-! pairs -/
section
variable {N : Nat} {R : T → Nat → Prop} {k1 k2 k3 k4 : Bool} {M : Mat} {ps : List Pr}
theorem is_between_spec {i a b : Int} (h : R (.sh (.bool (decide (a ≤ i) && decide (i ≤ b)))) N) : w_is_between [.int i, .int a, .int b] N R := by
  refine ⟨rfl, ?_⟩
  sizeOf_list_dec
  refine ⟨rfl, ?_⟩
  sizeOf_list_dec
  refine bIf_dec (fun hc => ?_) fun hc => ?_
  · rw [decide_eq_true hc] at h
    exact h
  · rw [decide_eq_false hc] at h
    exact h
end
/-! sizes, shares, a new Grants -/
section
variable {N : Nat} {R : T → Nat → Prop} {parts : Mat} {n m : Nat} {κ : Nat → Addr} {RX : T → List T → Nat → Prop}
theorem is_size_spec (h1 : 1 ≤ n) (h2 : n ≤ 12) (h : R (.sh (.bool true)) N) : w_is_size [.int (n : Int)] N R := by
  refine ⟨rfl, ?_⟩
  sizeOf_list_dec
  refine is_between_spec ?_
  rw [decide_eq_true (by omega : (1 : Int) ≤ (n : Int)), decide_eq_true (by omega : (n : Int) ≤ 12)]
  exact h
theorem is_share_spec {x : Int} (h1 : 1 ≤ x) (h2 : x ≤ 9) (h : R (.sh (.bool true)) N) : w_is_share [.int x] N R := by
  refine ⟨rfl, ?_⟩
  sizeOf_list_dec
  refine is_between_spec ?_
  rw [decide_eq_true h1, decide_eq_true h2]
  exact h
theorem is_lot_spec {kd : Bool} {ds : List PyData} (h : R (.sh (.bool true)) N) : w_is_list_or_tuple [seqD kd ds] N R := by
  refine ⟨rfl, ?_⟩
  cases kd <;> sizeOf_list_dec <;> exact h
theorem are_shares_spec {kd : Bool} {r : List Int} (hl : r.length = n) (hn : n ≤ 12) (hr : ∀ x ∈ r, 1 ≤ x ∧ x ≤ 9) (h : R (.sh (.bool true)) N) : w_are_shares [seqD kd (r.map PyData.int), .int (n : Int)] N R := by
  refine ⟨rfl, ?_⟩
  sizeOf_list_dec
  refine is_lot_spec ?_
  sizeOf_list_dec
  rw [hl]
  sizeOf_list_dec
  refine lc_m r PyData.int (fun _ => .bool true) (gv_it (d := seqD kd (r.map PyData.int)) (fun R h => by sizeOf_list_dec; exact h) (seqOf_seqD kd _)) (by omega) (fun x A hx hA => ?_) ?_
  · sizeOf_list_dec
    exact is_share_spec (hr x hx).1 (hr x hx).2 hA
  · have e : r.map (fun _ => PyData.bool true) = (r.map fun _ => true).map PyData.bool := by rw [List.map_map]; rfl
    have e2 : (r.map fun _ => true).all id = true := List.all_eq_true.mpr fun x hx => by
      obtain ⟨_, _, rfl⟩ := List.mem_map.mp hx
      rfl
    rw [e]
    sizeOf_list_dec
    rw [e2]
    exact h
/-- shares as they are handed in: None, or rows of numbers from 1 to 9 -/
def Shr (n m : Nat) (d : PyData) (parts : Mat) : Prop := (d = .none ∧ parts = (List.range m).map fun _ => List.replicate n 1) ∨ (d = tabD true true parts ∧ parts.length = m ∧ ∀ r ∈ parts, r.length = n ∧ ∀ x ∈ r, 1 ≤ x ∧ x ≤ 9)
theorem Shr.ok {d : PyData} (h : Shr n m d parts) : parts.length = m ∧ ∀ r ∈ parts, r.length = n ∧ ∀ x ∈ r, 1 ≤ x ∧ x ≤ 9 := by
  rcases h with ⟨_, rfl⟩ | ⟨_, h⟩
  · refine ⟨by rw [List.length_map, List.length_range], fun r hr => ?_⟩
    obtain ⟨_, _, rfl⟩ := List.mem_map.mp hr
    exact ⟨List.length_replicate, fun x hx => by rw [List.eq_of_mem_replicate hx]; omega⟩
  · exact h
theorem ones_T (n m : Nat) : (List.range m).map (fun _ => T.lst ((List.replicate n (1 : Int)).map fun x => .sh (.int x))) = ((List.range m).map fun _ => List.replicate n (1 : Int)).map fun r => T.lst (r.map fun x => .sh (.int x)) := by rw [List.map_map]; rfl
theorem shares_for_spec {d : PyData} (hn : n ≤ 12) (hm : m ≤ 12) (hs : Shr n m d parts) (h : R (.lst (parts.map fun r => .lst (r.map fun x => .sh (.int x)))) N) : w_shares_for [.int (n : Int), .int (m : Int), d] N R := by
  have ok := hs.ok
  refine ⟨rfl, ?_⟩
  rcases hs with ⟨rfl, rfl⟩ | ⟨rfl, h1, h2⟩
  · sizeOf_list_dec
    refine lcT_rp (n := m) (fun _ => .lst ((List.replicate n (1 : Int)).map fun x => .sh (.int x))) (fun R h => by sizeOf_list_dec; exact h) (by omega) (fun i R hi h => ?_) ?_
    · sizeOf_list_dec
      refine ⟨by omega, ?_⟩
      have e : (n : Int).toNat = n := by omega
      rw [e, rep_one, List.map_replicate]
      rw [List.map_replicate] at h
      exact h
    · rw [ones_T]
      exact h
  · rw [show tabD true true parts = .list (parts.map (rowD true)) from rfl]
    sizeOf_list_dec
    refine is_lot_spec (kd := true) ?_
    rw [h1]
    sizeOf_list_dec
    refine for_en (d := .list (parts.map (rowD true))) (ds := parts.map (rowD true)) (fun k ε M => M = N ∧ ∃ a b, ε = [.is (.sh (.int (n : Int))), .is (.sh (.int (m : Int))), .is (.sh (.list (parts.map (rowD true)))), a, b, .no]) (fun R h => by sizeOf_list_dec; exact h) rfl ⟨rfl, _, _, rfl⟩ (fun k x ε M hk hI => ?_) fun ε M hI => ?_
    · obtain ⟨rfl, a, b, rfl⟩ := hI
      obtain ⟨r, hr, rfl⟩ : ∃ r ∈ parts, x = rowD true r := by
        rw [List.getElem?_map] at hk
        cases hz : parts[k]? with
        | none => rw [hz] at hk; cases hk
        | some r =>
          rw [hz] at hk
          exact ⟨r, List.mem_of_getElem? hz, (Option.some.inj hk).symm⟩
      sizeOf_list_dec
      refine are_shares_spec (kd := true) (h2 r hr).1 hn (h2 r hr).2 ?_
      sizeOf_list_dec
      exact ⟨_, _, rfl⟩
    · obtain ⟨rfl, a, b, rfl⟩ := hI
      sizeOf_list_dec
      refine lcT_m parts (rowD true) (fun r => .lst (r.map fun x => .sh (.int x))) (gv_it (d := .list (parts.map (rowD true))) (fun R h => by sizeOf_list_dec; exact h) rfl) (by omega) (fun r A hr hA => ?_) h
      sizeOf_list_dec
      unfold rowD
      sizeOf_list_dec
      rw [List.map_map]
      exact hA
theorem rep_T {d : PyData} {k : Nat} : (List.replicate (k : Int).toNat [d]).flatten.map T.sh = List.replicate k (T.sh d) := by
  have e : (k : Int).toNat = k := by omega
  rw [e, rep_one, List.map_replicate]
theorem init_spec {a : Addr} {d : PyData} (hn1 : 1 ≤ n) (hn : n ≤ 12) (hm1 : 1 ≤ m) (hm : m ≤ 12) (hs : Shr n m d parts)
    (h : RX (.sh .none) [grT a (κ 0) n m (.lst (parts.map fun r => .lst (r.map fun x => .sh (.int x)))) (List.replicate m (0, 0)) (List.replicate n 0), .sh (.int (n : Int)), .sh (.int (m : Int)), .sh d] N) : w_Grants_init κ [.ins a (κ 0) [] [], .sh (.int (n : Int)), .sh (.int (m : Int)), .sh d] N RX := by
  refine ⟨rfl, ?_⟩
  sizeOf_list_dec
  refine is_size_spec hn1 hn ?_
  sizeOf_list_dec
  refine is_size_spec hm1 hm ?_
  sizeOf_list_dec
  refine shares_for_spec hn hm hs ?_
  sizeOf_list_dec
  rw [rep_T, rep_T]
  refine ⟨by omega, by omega, ?_⟩
  unfold grT at h
  rw [List.map_replicate, List.map_replicate] at h
  exact h
end
/-! is it an ask -/
section
variable {N : Nat} {R : T → Nat → Prop} {k1 k2 k3 k4 : Bool} {M : Mat} {ps : List Pr}
theorem outlets_in_spec {r : List Int} {Ms : Mat} (h : R (.sh (.int (r.length : Int))) N) : w_outlets_in [tabD k1 k2 (r :: Ms)] N R := by
  refine ⟨rfl, ?_⟩
  unfold tabD
  cases k1
  · show wRet _ _ [.is (.sh (.tuple _))] _
    sizeOf_list_dec
    unfold rowD
    sizeOf_list_dec
    exact h
  · show wRet _ _ [.is (.sh (.list _))] _
    sizeOf_list_dec
    unfold rowD
    sizeOf_list_dec
    exact h
theorem is_place_spec {i : Int} {n : Nat} (h : R (.sh (.bool (decide (0 ≤ i) && decide (i < (n : Int))))) N) : w_is_place [.int i, .int (n : Int)] N R := by
  refine ⟨rfl, ?_⟩
  sizeOf_list_dec
  refine is_between_spec ?_
  have e : decide (i ≤ (n : Int) - 1) = decide (i < (n : Int)) := decide_eq_decide.mpr (by omega)
  rw [e]
  exact h
theorem is_ask_spec {p : Pr} (hp : cell M p.1 p.2 = 1) (hn : ∃ m, ∀ r ∈ M, r.length = m) (h : R (.sh (.bool true)) N) : w_is_ask [tabD k1 k2 M, pD p] N R := by
  refine ⟨rfl, ?_⟩
  unfold pD
  sizeOf_list_dec
  obtain ⟨m, hm⟩ := hn
  have hlt : p.1 < M.length ∧ p.2 < (M.getD p.1 []).length := by
    have := Prs.lt (M := M) (ps := [p]) ⟨fun q hq => by rw [List.mem_singleton.mp hq]; exact hp, by simp, by simp⟩ (List.mem_singleton.mpr rfl)
    exact this
  have hrow : M[p.1]? = some (M.getD p.1 []) := by rw [List.getD_eq_getElem?_getD, List.getElem?_eq_getElem hlt.1]; rfl
  have hl := hm _ (List.mem_of_getElem? hrow)
  have get : ∀ (R' : PyData → Nat → Prop), R' (.int 1) N → oIx (tabD k1 k2 M) (.int (p.1 : Nat)) fun d => oIx d (.int (p.2 : Nat)) fun e => R' e N := fun R' hR => by
    unfold tabD
    sizeOf_list_dec
    refine ⟨rowD k2 (M.getD p.1 []), ?_, ?_⟩
    · refine atI_nat ?_
      rw [List.getElem?_map, hrow]
      rfl
    · unfold rowD
      sizeOf_list_dec
      refine ⟨_, atI_int hlt.2, ?_⟩
      rw [show (M.getD p.1 []).getD p.2 0 = 1 from hp]
      exact hR
  have len : ∀ (S : PyData → Prop), S (.int (M.length : Nat)) → oLen [tabD k1 k2 M] S := fun S hS => by
    unfold tabD
    sizeOf_list_dec
    exact hS
  refine len _ ?_
  refine is_place_spec ?_
  rw [decide_eq_true (by omega : (0 : Int) ≤ (p.1 : Int)), decide_eq_true (by omega : (p.1 : Int) < (M.length : Int))]
  sizeOf_list_dec
  cases M with
  | nil => exact absurd hlt.1 (Nat.not_lt_zero _)
  | cons r Ms =>
    refine outlets_in_spec ?_
    have hr := hm r (List.mem_cons_self ..)
    refine is_place_spec ?_
    rw [decide_eq_true (by omega : (0 : Int) ≤ (p.2 : Int)), decide_eq_true (by omega : (p.2 : Int) < (r.length : Int))]
    sizeOf_list_dec
    refine get (fun e N => oEq e (.int 1) fun f => R (.sh f) N) ?_
    sizeOf_list_dec
    exact h
end
/-! pairs by rounds -/
section
variable {N : Nat} {R : T → Nat → Prop}
/-- rounds, as lists or tuples -/
def rdK (k2 k3 : Bool) (x : Rd2) : PyData := .tuple [seqD k2 (x.1.map pD), seqD k3 (x.2.map pD)]
theorem pairs_by_spec {k1 k2 k3 : Bool} {rs : List Rd2} (hn : (Ks (accP rs)).Nodup) (hz : (accP rs).length ≤ 1000) (hl : rs.length ≤ 1000) (h : R (.lst ((sortF (accP rs)).map fun p => .sh (pD p))) N) : w_pairs_by [seqD k1 (rs.map (rdK k2 k3))] N R := by
  refine ⟨rfl, ?_⟩
  sizeOf_list_dec
  have ef : (rs.flatMap fun x => if true = true then x.2.filterMap (fun p => some (pD p)) else []) = (accP rs).map pD := by
    unfold accP
    rw [List.map_flatMap]
    congr 1
    funext x
    rw [if_pos rfl, List.filterMap_eq_map']
  refine lc2_f rs (rdK k2 k3) (fun x => x.2) (fun _ p => pD p) (fun _ p => some (pD p)) (fun _ => true) (gv_it (d := seqD k1 (rs.map (rdK k2 k3))) (fun R h => by sizeOf_list_dec; exact h) (seqOf_seqD k1 _)) (fun x X B hx hb hB => ?_) ?_ ?_
  · unfold rdK
    sizeOf_list_dec
    cases k3
    · refine hb rfl _ fun y A B hy hA hB => ?_
      sizeOf_list_dec
      exact hA _ rfl
    · refine hb rfl _ fun y A B hy hA hB => ?_
      sizeOf_list_dec
      exact hA _ rfl
  · rw [ef, List.length_map]
    omega
  · rw [ef]
    sizeOf_list_dec
    refine sortP_is hn ?_
    rw [List.map_map]
    exact h
end
end K23

set_option Elab.async false
set_option linter.all false
set_option maxRecDepth 100000
set_option maxHeartbeats 1000000
namespace K23
open PySem PySem.Spec PyProof.Rows L2 Evl Cg
local macro_rules
  | `(tactic| sizeOf_list_dec) => `(tactic| simp (config := {failIfUnchanged := false}) only [↓wLenI_eq, ↓wFAug_eq, ↓wAppX_eq, ↓wRgL2_eq, ↓wSetPlN_eq, ↓wParAl_eq, oMin3_int, ↓wXTake_eq, ↓wXCallM_eq, ↓wDictP_eq, ↓wDGet2_eq, oAnyI_list, ↓wVwA_eq, ↓wVbA_eq, ↓wVtA_eq, viewA_nil, viewA_cons, ↓wPA_eq, atPin_is, ↓wAl_eq, ↓wLend_eq, lend_0, lend_s, ↓wPlApp_eq, ↓wPlExt_eq, ↓wPlPop_eq, ↓wAppMv_eq, ↓wNm_eq, ↓wPlClr_eq, fg_lst, fg_lsa, fg_tup, fg_ins, nm_lst, nm_lsa, nm_ins, root_lsa, root_ins, root_rc, kids_lsa, rekid_lsa, outK_lsa, isLst_a, view_pin, oStr_list, oStr_tup, ↓wLenSet_eq, ↓wXOp_eq, ↓wXCb_eq, ↓wXUn_eq, ↓wXLst_eq, ↓wXTup_eq, ↓wXCall_eq, ↓wXCallB_eq, ↓wXMeth_eq, ↓wXMethV_eq, ↓wXB_eq, ↓wXTest_eq, ↓wXTru_eq, ↓wXNot_eq, ↓wXAnd_eq, ↓wXOr_eq, ↓wXIfS_eq, ↓wXAndV_eq, ↓wXOrV_eq, ↓wXNotV_eq, ↓wXIf_eq, ↓wRetXV_eq, ↓wAsgXG_eq, ↓wForX_eq, shT_is, allSh_nil, allSh_cons, ↓wVar_eq, ↓wFd_eq, ↓wKd_eq, ↓wPV_eq, ↓wPF_eq, ↓wPK_eq, ↓wPI_eq, atPl_eq, atT_is, atO_some, atP_nil, atP_cons, bindP_some, putAt_eq, setT_is, putP_nil, putP_cons, putO_some, kids_lst, kids_ins, kids_rc, rekid_lst, rekid_ins, rekid_rc, ↓wXT_eq, ↓wXF_eq, ↓wXNil_eq, ↓wXCons_eq, ↓wAsgX_eq, ↓wDropX_eq, ↓wRetX_eq, ↓wRetNX_eq, ↓wRetVX_eq, ↓wParX_eq, ↓wSetPl_eq, ↓wFSet_eq, ↓wFNew_eq, ↓wRc_eq, ↓wMeth_eq, ↓wMethV_eq, ↓wApP_eq, ↓wApC_eq, ↓wCallX_eq, ↓wCallXB_eq, ↓wMake_eq, ↓fnX_nx, ↓fnX_rx, ↓seq_rx, ↓loop_rx, dropB_f, dropB_t, outK_nil, outK_f, outK_ins, outK_rc, envX_f, envX_t, atRec_is, isIns_is, isRc_is, isLst_is, insK_is, ↓wSortSet_eq, ↓wC_eq, ↓wRetV_eq, ↓wFrz_eq, isBox_eq, ↓wNil_eq, ↓wCons_eq, ↓wOp_eq, ↓wOpT_eq, ↓wUn_eq, ↓wCb_eq, ↓wCbT_eq, ↓wTest_eq, ↓wTru_eq, ↓wYes_eq, ↓wNot_eq, ↓wAnd_eq, ↓wOr_eq, ↓wAndV_eq, ↓wOrV_eq, ↓wNotV_eq, ↓wIf_eq, ↓wIfT_eq, ↓wChain_eq, ↓wLst_eq, ↓wTup_eq, ↓wNilT_eq, ↓wConsT_eq, ↓wLstT_eq, ↓wTupT_eq, ↓wSh_eq, ↓wFz_eq, ↓wVw_eq, ↓wVb_eq, ↓wVt_eq, view_nil, view_cons, view_no, view_box, view_is, ↓wCall_eq, ↓wCallT_eq, ↓wCallB_eq, ↓wCallBT_eq, ↓wIs_eq, ↓wNoPart_eq, ↓wPart_eq, ↓wSl_eq, ↓wSlT_eq, ↓wRevT_eq, ↓wRgL_eq, ↓wSkip_eq, ↓wBreak_eq, ↓wCont_eq, ↓wSeq_eq, ↓seq_nx, ↓seq_rt, ↓seq_bk, ↓seq_ct, ↓loop_nx, ↓loop_rt, ↓loop_bk, ↓loop_ct, ↓fn_nx, ↓fn_rt, ↓wRet_eq, ↓wRetN_eq, ↓wIfS_eq, ↓wAsgT_eq, ↓wAsg_eq, ↓wParN_eq, setsE_cons, setsE_nil, ↓wDrop_eq, ↓wName_eq, ↓wGNil_eq, ↓wGCons_eq, ↓wGTup_eq, ↓wApp_eq, ↓wRev_eq, ↓wClr_eq, ↓wExt_eq, ↓wSet_eq, ↓wPop_eq, ↓wipe_nil, ↓wipe_cons, env0_f, env0_t, atSh_is, atIs_is, atOwn_is, atBox_is, bIf_t, bIf_f, bIf_not, dBool_is, dInt_is, dTup_is, dList_is, dSeq_list, dSeq_tup, dSeq_seq, dTru_none, dTru_bool, dTru_int, dTru_list, dTru_tup, dCons_is, oI_int, oI0_int, oAdd_int, oAdd_list, oMul_int, oMul_list, oNeg_int, oEq_int, oEq_bool, oEq_nn, oEq_in, oEq_ni, oNe_int, oNe_bool, oNe_nn, oNe_in, oNe_ni, oEq_list, oNe_list, oEq_tup, oNe_tup, oEq_str, oNe_str, oIx_list, oIx_tup, oIx_seq, oLen_list, oLen_tup, oLen_seq, oInt_int, oInt_bool, oAbs_int, oMin2_int, oMax2_int, oAll_is, oSum_is, oListD_list, oListD_tup, oListD_seq, oTuple_list, oTuple_tup, oTuple_seq, oRepr_is, oIs_none, oIsNot_none, in_nats_t, in_nats_f, oIn_list, oIn_seq, oList_list, oList_tup, oList_seq, oCat_list, oRep_list, atI_l0, atI_l1, atI_l2, exists_eq_left', exists_eq_left, wPickT_eq, ↓wDNew_eq, ↓wDPut_eq, ↓wDList_eq, atDic_is, ↓wDGet_eq, ↓wDIn_eq, ↓wDNotIn_eq, ↓wDGet1_eq, ↓wD0_eq, ↓wDKeys_eq, ↓wDSort_eq, ↓wDSet_eq, ↓wLk_eq, ↓wKeys_eq, ↓wItems_eq, atD_own, atD_frz, atD_sh, atDO_is, atF_is, ↓wPop0_eq, ↓wSelf_eq, ↓wMove_eq, ↓wRetVT_eq, ↓wApp2_eq, ↓wSet2_eq, ↓wSetP_eq, ↓wAug_eq, oCount_list, ↓wRetPick_eq, oIsB_is, ↓wBmL_eq, oIndexS_is, ↓wAppPop_eq, ↓wAppPopT_eq, ↓wRev2_eq, oSumS_list, oSumS_tup, oSumS_seq, ↓wRetV2_eq, atOwnB_lst, atOwnB_tup, atL_int, mkT_t, mkT_f, w_take_is, w_same_is, notI_none, notI_bool, notI_int, notI_str, notI_list, notI_tup, notI_seq, isNone_none, isNone_bool, isNone_int, isNone_str, isNone_list, isNone_tup, isInt_none, isInt_bool, isInt_int, isInt_str, isInt_list, isInt_tup, isBool_none, isBool_bool, isBool_int, isBool_str, isBool_list, isBool_tup, isList_none, isList_bool, isList_int, isList_str, isList_list, isList_tup, isTuple_none, isTuple_bool, isTuple_int, isTuple_str, isTuple_list, isTuple_tup, isStr_none, isStr_bool, isStr_int, isStr_str, isStr_list, isStr_tup, isNone_seq, isList_seq, isTuple_seq, isInt_seq, isBool_seq, isStr_seq, dTru_seq, List.isEmpty_nil, List.isEmpty_cons, beq_self_eq_true, decide_true, decide_false, T.clean, T.cleans, T.data, T.datas, imm, immAll, List.getElem?_cons_zero, List.getElem?_cons_succ, List.set_cons_zero, List.set_cons_succ, List.map_cons, List.map_nil, List.cons_append, List.nil_append, List.replicate_succ, List.replicate_zero, List.length_cons, List.length_nil, List.length_map, if_true, if_false, Bool.true_and, Bool.and_true, Bool.false_and, Bool.and_false, Bool.not_true, Bool.not_false, Bool.or_true, Bool.true_or, Bool.false_or, Bool.or_false, Bool.false_eq_true, reduceIte, reduceCtorEq, true_and, and_true, Option.some.injEq, Nat.reduceAdd, Nat.reduceLeDiff, Int.reduceLE, Int.reduceLT, Int.cast_ofNat_Int, Int.reduceBEq, Int.reduceToNat])
/-! what is left of an ask's waiting -/
section
variable {N : Nat} {R : T → Nat → Prop} {parts : Mat} {n m : Nat} {κ : Nat → Addr} {qs : List Pr} {pl : List Nat} {M : Mat} {i j w : Nat}
theorem steps_to_spec {t p k : Nat} (hp : p < k) (h : R (.sh (.int ((t + k - p) % k : Nat))) N) : w_steps_to [.int (t : Int), .int (p : Int), .int (k : Int)] N R := by
  refine ⟨rfl, ?_⟩
  sizeOf_list_dec
  refine ⟨by omega, ?_⟩
  have e : ((t : Int) - (p : Int)) % (k : Int) = (((t + k - p) % k : Nat) : Int) := by
    rw [Int.natCast_emod, show ((t + k - p : Nat) : Int) = ((t : Int) - (p : Int)) + (k : Int) from by omega, Int.add_emod_right]
  rw [e]
  exact h
theorem ahead_of_spec (g : Gst n m parts qs pl) (hi : i < n) (hj : j < m) (h : R (.sh (.int (aheadN n (parts.getD j []) (qs.getD j (0, 0)) i))) N) : w_ahead_of κ [grD (κ 0) n m parts qs pl, .int (i : Int), .int (j : Int)] N R := by
  have n2 := g.n2
  have hq := g.ptr hj
  obtain ⟨hpl, hpb⟩ := g.part hj
  refine ⟨rfl, ?_⟩
  sizeOf_list_dec
  refine ⟨⟨_, rfl⟩, pointers_spec (m := m) (n := n) (parts := parts) ?_⟩
  rw [prs_data]
  sizeOf_list_dec
  refine ⟨_, atI_prs (by rw [g.qs.1]; exact hj), ?_⟩
  rw [show pD (qs.getD j (0, 0)) = .tuple [.int ((qs.getD j (0, 0)).1 : Int), .int ((qs.getD j (0, 0)).2 : Int)] from rfl, show tabD true true parts = .list (parts.map (rowD true)) from rfl]
  generalize qs.getD j (0, 0) = q at *
  sizeOf_list_dec
  refine ⟨_, atI_rows (by rw [g.pa.1]; exact hj), ?_⟩
  generalize parts.getD j [] = ps at *
  unfold aheadN at h
  refine bIf_beq (fun hc => ?_) fun hc => ?_
  · rw [if_pos (by omega)] at h
    exact h
  rw [if_neg (by omega)] at h
  refine steps_to_spec hq ?_
  sizeOf_list_dec
  refine lc_m (List.range ((i + n - q.1) % n)) (fun k : Nat => PyData.int (k : Int)) (fun s => .int (ps.getD ((q.1 + s) % n) 0)) (gv_r1 (n := (i + n - q.1) % n) (fun R h => by sizeOf_list_dec; exact h) (by have := Nat.mod_lt (i + n - q.1) (by omega : 0 < n); omega)) (by rw [List.length_range]; have := Nat.mod_lt (i + n - q.1) (by omega : 0 < n); omega) (fun s A hs hA => ?_) ?_
  · unfold rowD
    sizeOf_list_dec
    refine ⟨by omega, _, ?_, hA⟩
    rw [show ((q.1 : Int) + (s : Int)) % (n : Int) = (((q.1 + s) % n : Nat) : Int) from by rw [Int.natCast_emod]; rfl]
    exact atI_int (by rw [hpl]; exact Nat.mod_lt _ (by omega))
  · rw [show (List.range ((i + n - q.1) % n)).map (fun s => PyData.int (ps.getD ((q.1 + s) % n) 0)) = ((List.range ((i + n - q.1) % n)).map fun s => ps.getD ((q.1 + s) % n) 0).map PyData.int from by rw [List.map_map]; rfl]
    sizeOf_list_dec
    exact h
theorem left_of_spec (g : Gst n m parts qs pl) (hM : SzM n m M) (hc : cell M i j = 1) (hw : nxO (M.map fun r => r.getD j 0) (qs.getD j (0, 0)).1 = some w)
    (h : R (.sh (.tuple [.int (aheadN n (parts.getD j []) (qs.getD j (0, 0)) i), .int ((w + n - (qs.getD j (0, 0)).1) % n : Nat), .int ((j + m - pl.getD w 0) % m : Nat)])) N) : w_left_of κ [grD (κ 0) n m parts qs pl, tabD true true M, .int (i : Int), .int (j : Int)] N R := by
  have n2 := g.n2
  have m2 := g.m2
  obtain ⟨hi, hj⟩ := cell_bd hM hc
  have hq := g.ptr hj
  have hwn : w < n := by
    have := (nx_some hw).1
    rw [List.length_map, hM.1] at this
    exact this
  have hpw := g.plc hwn
  refine ⟨rfl, ?_⟩
  sizeOf_list_dec
  rw [show PyData.tuple [.int (i : Int), .int (j : Int)] = pD (i, j) from rfl]
  refine is_ask_spec (p := (i, j)) hc ⟨m, hM.2⟩ ?_
  sizeOf_list_dec
  refine ⟨⟨_, rfl⟩, pointers_spec (m := m) (n := n) (parts := parts) ?_⟩
  rw [prs_data]
  sizeOf_list_dec
  refine ⟨_, atI_prs (by rw [g.qs.1]; exact hj), ?_⟩
  refine turned_spec (m := m) (by rw [hM.1]; exact n2) (fun z => by rw [z] at hM; have := hM.1; simp at this; omega) hM.2 (by omega) ?_
  rw [tab_data]
  have hcol : (turnM m M).getD j [] = M.map fun r => r.getD j 0 := by
    unfold turnM
    rw [List.getD_eq_getElem?_getD, List.getElem?_map, List.getElem?_range hj]
    rfl
  rw [show tabD true true (turnM m M) = .list ((turnM m M).map (rowD true)) from rfl]
  sizeOf_list_dec
  refine ⟨_, atI_rows (by unfold turnM; rw [List.length_map, List.length_range]; exact hj), ?_⟩
  rw [hcol]
  unfold rowD
  refine granted_spec (by rw [List.length_map, hM.1]; exact hq) (by rw [List.length_map, hM.1]; omega) ?_
  rw [hw, show pD (qs.getD j (0, 0)) = .tuple [.int ((qs.getD j (0, 0)).1 : Int), .int ((qs.getD j (0, 0)).2 : Int)] from rfl]
  unfold optD
  sizeOf_list_dec
  refine steps_to_spec hq ?_
  sizeOf_list_dec
  refine ⟨⟨_, rfl⟩, places_spec (m := m) (n := n) (parts := parts) ?_⟩
  rw [nats_data]
  sizeOf_list_dec
  refine ⟨_, atI_nats (by rw [g.pl.1]; exact hwn), ?_⟩
  unfold nD
  refine steps_to_spec hpw ?_
  sizeOf_list_dec
  refine ahead_of_spec g hi hj ?_
  sizeOf_list_dec
  exact h
theorem within_spec (g : Gst n m parts qs pl) (hi : i < n) (hj : j < m) (h : R (.sh (.int ((aheadN n (parts.getD j []) (qs.getD j (0, 0)) i + 1) * n * m))) N) : w_within κ [grD (κ 0) n m parts qs pl, .int (i : Int), .int (j : Int)] N R := by
  have n2 := g.n2
  have m2 := g.m2
  refine ⟨rfl, ?_⟩
  sizeOf_list_dec
  refine ahead_of_spec g hi hj ?_
  sizeOf_list_dec
  refine ⟨.inr ⟨by omega, by omega⟩, .inr ⟨by omega, by omega⟩, h⟩
end
end K23

set_option Elab.async false
set_option linter.all false
set_option maxRecDepth 100000
set_option maxHeartbeats 1000000
namespace K23
open PySem PySem.Spec PyProof.Rows L2 Evl Cg
local macro_rules
  | `(tactic| sizeOf_list_dec) => `(tactic| simp (config := {failIfUnchanged := false}) only [↓wLenI_eq, ↓wFAug_eq, ↓wAppX_eq, ↓wRgL2_eq, ↓wSetPlN_eq, ↓wParAl_eq, oMin3_int, ↓wXTake_eq, ↓wXCallM_eq, ↓wDictP_eq, ↓wDGet2_eq, oAnyI_list, ↓wVwA_eq, ↓wVbA_eq, ↓wVtA_eq, viewA_nil, viewA_cons, ↓wPA_eq, atPin_is, ↓wAl_eq, ↓wLend_eq, lend_0, lend_s, ↓wPlApp_eq, ↓wPlExt_eq, ↓wPlPop_eq, ↓wAppMv_eq, ↓wNm_eq, ↓wPlClr_eq, fg_lst, fg_lsa, fg_tup, fg_ins, nm_lst, nm_lsa, nm_ins, root_lsa, root_ins, root_rc, kids_lsa, rekid_lsa, outK_lsa, isLst_a, view_pin, oStr_list, oStr_tup, ↓wLenSet_eq, ↓wXOp_eq, ↓wXCb_eq, ↓wXUn_eq, ↓wXLst_eq, ↓wXTup_eq, ↓wXCall_eq, ↓wXCallB_eq, ↓wXMeth_eq, ↓wXMethV_eq, ↓wXB_eq, ↓wXTest_eq, ↓wXTru_eq, ↓wXNot_eq, ↓wXAnd_eq, ↓wXOr_eq, ↓wXIfS_eq, ↓wXAndV_eq, ↓wXOrV_eq, ↓wXNotV_eq, ↓wXIf_eq, ↓wRetXV_eq, ↓wAsgXG_eq, ↓wForX_eq, shT_is, allSh_nil, allSh_cons, ↓wVar_eq, ↓wFd_eq, ↓wKd_eq, ↓wPV_eq, ↓wPF_eq, ↓wPK_eq, ↓wPI_eq, atPl_eq, atT_is, atO_some, atP_nil, atP_cons, bindP_some, putAt_eq, setT_is, putP_nil, putP_cons, putO_some, kids_lst, kids_ins, kids_rc, rekid_lst, rekid_ins, rekid_rc, ↓wXT_eq, ↓wXF_eq, ↓wXNil_eq, ↓wXCons_eq, ↓wAsgX_eq, ↓wDropX_eq, ↓wRetX_eq, ↓wRetNX_eq, ↓wRetVX_eq, ↓wParX_eq, ↓wSetPl_eq, ↓wFSet_eq, ↓wFNew_eq, ↓wRc_eq, ↓wMeth_eq, ↓wMethV_eq, ↓wApP_eq, ↓wApC_eq, ↓wCallX_eq, ↓wCallXB_eq, ↓wMake_eq, ↓wAppOwn_eq, ↓fnG_nx, ↓fnG_rx, outG_nil, outG_0, outG_2, outG_ins, outG_lsa, kept_nil, kept_0, kept_1, kept_2, ↓wXCallG_eq, ↓wXCallGB_eq, ↓wXCallR_eq, ↓wXCallRB_eq, backE_nil, backE_some, backE_none, ↓fnX_nx, ↓fnX_rx, ↓seq_rx, ↓loop_rx, dropB_f, dropB_t, outK_nil, outK_f, outK_ins, outK_rc, envX_f, envX_t, atRec_is, isIns_is, isRc_is, isLst_is, insK_is, ↓wSortSet_eq, ↓wC_eq, ↓wRetV_eq, ↓wFrz_eq, isBox_eq, ↓wNil_eq, ↓wCons_eq, ↓wOp_eq, ↓wOpT_eq, ↓wUn_eq, ↓wCb_eq, ↓wCbT_eq, ↓wTest_eq, ↓wTru_eq, ↓wYes_eq, ↓wNot_eq, ↓wAnd_eq, ↓wOr_eq, ↓wAndV_eq, ↓wOrV_eq, ↓wNotV_eq, ↓wIf_eq, ↓wIfT_eq, ↓wChain_eq, ↓wLst_eq, ↓wTup_eq, ↓wNilT_eq, ↓wConsT_eq, ↓wLstT_eq, ↓wTupT_eq, ↓wSh_eq, ↓wFz_eq, ↓wVw_eq, ↓wVb_eq, ↓wVt_eq, view_nil, view_cons, view_no, view_box, view_is, ↓wCall_eq, ↓wCallT_eq, ↓wCallB_eq, ↓wCallBT_eq, ↓wIs_eq, ↓wNoPart_eq, ↓wPart_eq, ↓wSl_eq, ↓wSlT_eq, ↓wRevT_eq, ↓wRgL_eq, ↓wSkip_eq, ↓wBreak_eq, ↓wCont_eq, ↓wSeq_eq, ↓seq_nx, ↓seq_rt, ↓seq_bk, ↓seq_ct, ↓loop_nx, ↓loop_rt, ↓loop_bk, ↓loop_ct, ↓fn_nx, ↓fn_rt, ↓wRet_eq, ↓wRetN_eq, ↓wIfS_eq, ↓wAsgT_eq, ↓wAsg_eq, ↓wParN_eq, setsE_cons, setsE_nil, ↓wDrop_eq, ↓wName_eq, ↓wGNil_eq, ↓wGCons_eq, ↓wGTup_eq, ↓wApp_eq, ↓wRev_eq, ↓wClr_eq, ↓wExt_eq, ↓wSet_eq, ↓wPop_eq, ↓wipe_nil, ↓wipe_cons, env0_f, env0_t, atSh_is, atIs_is, atOwn_is, atBox_is, bIf_t, bIf_f, bIf_not, dBool_is, dInt_is, dTup_is, dList_is, dSeq_list, dSeq_tup, dSeq_seq, dTru_none, dTru_bool, dTru_int, dTru_list, dTru_tup, dCons_is, oI_int, oI0_int, oAdd_int, oAdd_list, oMul_int, oMul_list, oNeg_int, oEq_int, oEq_bool, oEq_nn, oEq_in, oEq_ni, oNe_int, oNe_bool, oNe_nn, oNe_in, oNe_ni, oEq_list, oNe_list, oEq_tup, oNe_tup, oEq_str, oNe_str, oIx_list, oIx_tup, oIx_seq, oLen_list, oLen_tup, oLen_seq, oInt_int, oInt_bool, oAbs_int, oMin2_int, oMax2_int, oAll_is, oSum_is, oListD_list, oListD_tup, oListD_seq, oTuple_list, oTuple_tup, oTuple_seq, oRepr_is, oIs_none, oIsNot_none, in_nats_t, in_nats_f, oIn_list, oIn_seq, oList_list, oList_tup, oList_seq, oCat_list, oRep_list, atI_l0, atI_l1, atI_l2, exists_eq_left', exists_eq_left, wPickT_eq, ↓wDNew_eq, ↓wDPut_eq, ↓wDList_eq, atDic_is, ↓wDGet_eq, ↓wDIn_eq, ↓wDNotIn_eq, ↓wDGet1_eq, ↓wD0_eq, ↓wDKeys_eq, ↓wDSort_eq, ↓wDSet_eq, ↓wLk_eq, ↓wKeys_eq, ↓wItems_eq, atD_own, atD_frz, atD_sh, atDO_is, atF_is, ↓wPop0_eq, ↓wSelf_eq, ↓wMove_eq, ↓wRetVT_eq, ↓wApp2_eq, ↓wSet2_eq, ↓wSetP_eq, ↓wAug_eq, oCount_list, ↓wRetPick_eq, oIsB_is, ↓wBmL_eq, oIndexS_is, ↓wAppPop_eq, ↓wAppPopT_eq, ↓wRev2_eq, oSumS_list, oSumS_tup, oSumS_seq, ↓wRetV2_eq, atOwnB_lst, atOwnB_tup, atL_int, mkT_t, mkT_f, w_take_is, w_same_is, notI_none, notI_bool, notI_int, notI_str, notI_list, notI_tup, notI_seq, isNone_none, isNone_bool, isNone_int, isNone_str, isNone_list, isNone_tup, isInt_none, isInt_bool, isInt_int, isInt_str, isInt_list, isInt_tup, isBool_none, isBool_bool, isBool_int, isBool_str, isBool_list, isBool_tup, isList_none, isList_bool, isList_int, isList_str, isList_list, isList_tup, isTuple_none, isTuple_bool, isTuple_int, isTuple_str, isTuple_list, isTuple_tup, isStr_none, isStr_bool, isStr_int, isStr_str, isStr_list, isStr_tup, isNone_seq, isList_seq, isTuple_seq, isInt_seq, isBool_seq, isStr_seq, dTru_seq, List.isEmpty_nil, List.isEmpty_cons, beq_self_eq_true, decide_true, decide_false, T.clean, T.cleans, T.data, T.datas, imm, immAll, List.getElem?_cons_zero, List.getElem?_cons_succ, List.set_cons_zero, List.set_cons_succ, List.map_cons, List.map_nil, List.cons_append, List.nil_append, List.replicate_succ, List.replicate_zero, List.length_cons, List.length_nil, List.length_map, if_true, if_false, Bool.true_and, Bool.and_true, Bool.false_and, Bool.and_false, Bool.not_true, Bool.not_false, Bool.or_true, Bool.true_or, Bool.false_or, Bool.or_false, Bool.false_eq_true, reduceIte, reduceCtorEq, true_and, and_true, Option.some.injEq, Nat.reduceAdd, Nat.reduceLeDiff, Int.reduceLE, Int.reduceLT, Int.cast_ofNat_Int, Int.reduceBEq, Int.reduceToNat])
section
variable {κ : Nat → Addr} {N n m : Nat} {R : T → Nat → Prop} {RX : T → List T → Nat → Prop} {parts L : Mat} {qs : List Pr} {pl : List Nat}
theorem law_nearest_spec {i j : Nat} (g : Gst n m parts qs pl) (hL : SzM n m L) (hi : i < n) (hj : j < m) (h : ∀ o : Option Nat, (∀ k, o = some k → k < n) → R (.sh (optD o)) N) : w_law_nearest κ [grD (κ 0) n m parts qs pl, tabD true true L, .int (i : Int), .int (j : Int)] N R := by
  have n1 := g.n1
  have n2 := g.n2
  refine ⟨rfl, ?_⟩
  sizeOf_list_dec
  refine ⟨⟨_, rfl⟩, pointers_spec ?_⟩
  rw [show (T.lst (qs.map fun p => T.sh (pD p))).data = .list (qs.map pD) from by show PyData.list (T.datas _) = _; rw [datas_map, List.map_map]; rfl]
  have hp := g.ptr hj
  refine ⟨_, atI_prs (by rw [g.qs.1]; exact hj), .int ((qs.getD j (0, 0)).1 : Nat), rfl, ?_⟩
  rw [show tabD true true L = .list (L.map (rowD true)) from rfl]
  sizeOf_list_dec
  rw [hL.1]
  generalize (qs.getD j (0, 0)).1 = p at *
  refine for_r1 (n := stp n p i) (fun s ε M => M = N ∧ ∃ (o : Option Nat) (x5 x8 : Sl), (∀ k, o = some k → k < n) ∧ ε = [.is (.sh (grD (κ 0) n m parts qs pl)), .is (.sh (tabD true true L)), .is (.sh (.int (i : Int))), .is (.sh (.int (j : Int))), .is (.sh (optD o)), x5, .is (.sh (.int (p : Int))), .is (.sh (.int (n : Int))), x8]) (fun R h => ?_) (by have := stp_lt (n := n) (p := p) (i := i) (by omega); omega) ⟨rfl, none, _, _, (fun _ z => nomatch z), rfl⟩ (fun s ε M hs hI => ?_) fun ε M hI => ?_
  · sizeOf_list_dec
    have e : ((i : Int) - (p : Int)) % (n : Int) = ((stp n p i : Nat) : Int) := by
      unfold stp
      rw [Int.natCast_emod, show ((i + n - p : Nat) : Int) = ((i : Int) - p) + n by omega]
      simp
    rw [e]
    exact ⟨by omega, h⟩
  · obtain ⟨rfl, o, x5, x8, ho, rfl⟩ := hI
    sizeOf_list_dec
    have hk : (p + s) % n < n := Nat.mod_lt _ (by omega)
    refine ⟨by omega, ?_⟩
    rw [show ((p : Int) + (s : Int)) % (n : Int) = (((p + s) % n : Nat) : Int) from by rw [Int.natCast_emod, Int.natCast_add]]
    have hkl : (p + s) % n < L.length := by rw [hL.1]; exact hk
    obtain ⟨row, hrow⟩ : ∃ row, L[(p + s) % n]? = some row := ⟨_, List.getElem?_eq_getElem hkl⟩
    have hrl := hL.2 row (List.mem_of_getElem? hrow)
    have hjr : j < row.length := by rw [hrl]; exact hj
    refine ⟨rowD true row, atI_nat (by rw [List.getElem?_map, hrow]; rfl), .int row[j], atI_nat (by rw [List.getElem?_map, List.getElem?_eq_getElem hjr]; rfl), ?_⟩
    sizeOf_list_dec
    refine bIf_beq (fun _ => h o ho) fun _ => ?_
    exact ⟨some ((p + s) % n), _, _, fun k e => by rw [← Option.some.inj e]; exact hk, rfl⟩
  · obtain ⟨rfl, o, x5, x8, ho, rfl⟩ := hI
    sizeOf_list_dec
    exact h o ho
theorem law_late_ones_spec {i j : Nat} {a : Addr} (g : Gst n m parts qs pl) (hL : SzM n m L) (hB : ∀ r ∈ L, ∀ x ∈ r, x = 0 ∨ x = 1) (hi : i < n) (hj : j < m) (hN : N ≤ 900000000)
    (h : ∀ (L' : Mat) (N' : Nat), SzM n m L' → (∀ r ∈ L', ∀ x ∈ r, x = 0 ∨ x = 1) → (∀ i' j', cell L i' j' = 1 → cell L' i' j' = 1) → N' ≤ N + 1 → RX (.sh .none) [.sh (grD (κ 0) n m parts qs pl), .lsa a (L'.map fun r => .lst (r.map fun x => .sh (.int x))), .sh (.int (i : Int)), .sh (.int (j : Int))] N') :
    w_law_late_ones κ [.sh (grD (κ 0) n m parts qs pl), .lsa a (L.map fun r => .lst (r.map fun x => .sh (.int x))), .sh (.int (i : Int)), .sh (.int (j : Int))] N RX := by
  refine ⟨rfl, ?_⟩
  sizeOf_list_dec
  rw [show PyData.list (T.datas (L.map fun r => T.lst (r.map fun x => T.sh (.int x)))) = tabD true true L from tab_data L]
  refine law_nearest_spec g hL hi hj fun o ho => ?_
  cases o with
  | none =>
    refine ⟨rfl, ?_⟩
    show bIf true _ _
    sizeOf_list_dec
    exact h L N hL hB (fun _ _ h => h) (by omega)
  | some k =>
    have hk := ho k rfl
    have hkl : k < L.length := by rw [hL.1]; exact hk
    obtain ⟨row, hrow⟩ : ∃ row, L[k]? = some row := ⟨_, List.getElem?_eq_getElem hkl⟩
    have hrl := hL.2 row (List.mem_of_getElem? hrow)
    have hjr : j < row.length := by rw [hrl]; exact hj
    refine ⟨rfl, ?_⟩
    show bIf false _ _
    rw [show (T.sh (optD (some k))).data = .int (k : Int) from rfl]
    sizeOf_list_dec
    refine ⟨by omega, fun c hc => bIf_beq (fun _ => ?_) fun _ => h L _ hL hB (fun _ _ h => h) (by omega)⟩
    refine ⟨k, ixN_nat hkl, ?_⟩
    rw [List.getElem?_map, hrow, Option.map_some]
    sizeOf_list_dec
    refine ⟨j, ixN_nat hjr, ?_⟩
    have eset : ((L.map fun r => T.lst (r.map fun x => T.sh (.int x))).set k (T.lst ((row.map fun x => T.sh (.int x)).set j (T.sh (.int 1))))) = (L.set k (row.set j 1)).map fun r => T.lst (r.map fun x => T.sh (.int x)) := by rw [List.map_set, List.map_set]
    sizeOf_list_dec
    rw [eset]
    refine h (L.set k (row.set j 1)) _ ⟨by rw [List.length_set]; exact hL.1, fun r hr => ?_⟩ (fun r hr => ?_) (fun i' j' hc' => ?_) (by omega)
    · rcases List.mem_or_eq_of_mem_set hr with hr | rfl
      · exact hL.2 r hr
      · rw [List.length_set]; exact hrl
    · rcases List.mem_or_eq_of_mem_set hr with hr | rfl
      · exact hB r hr
      · intro x hx
        rcases List.mem_or_eq_of_mem_set hx with hx | rfl
        · exact hB row (List.mem_of_getElem? hrow) x hx
        · exact .inr rfl
    · unfold cell at hc' ⊢
      rw [List.getD_eq_getElem?_getD (l := L.set _ _), List.getElem?_set]
      by_cases e : k = i'
      · subst e
        rw [if_pos rfl, if_pos hkl]
        show (row.set j 1).getD j' 0 = 1
        rw [List.getD_eq_getElem?_getD (l := L), hrow] at hc'
        have hc' : row.getD j' 0 = 1 := hc'
        rw [List.getD_eq_getElem?_getD, List.getElem?_set]
        by_cases e2 : j = j'
        · subst e2
          rw [if_pos rfl, if_pos hjr]
          rfl
        · rw [if_neg e2, ← List.getD_eq_getElem?_getD]
          exact hc'
      · rw [if_neg e, ← List.getD_eq_getElem?_getD]
        exact hc'
end
end K23

set_option Elab.async false
set_option linter.all false
set_option maxRecDepth 100000
set_option maxHeartbeats 1000000
namespace K23
open PySem PySem.Spec PyProof.Rows L2 Evl Cg
local macro_rules
  | `(tactic| sizeOf_list_dec) => `(tactic| simp (config := {failIfUnchanged := false}) only [↓wLenI_eq, ↓wFAug_eq, ↓wAppX_eq, ↓wRgL2_eq, ↓wSetPlN_eq, ↓wParAl_eq, oMin3_int, ↓wXTake_eq, ↓wXCallM_eq, ↓wDictP_eq, ↓wDGet2_eq, oAnyI_list, ↓wVwA_eq, ↓wVbA_eq, ↓wVtA_eq, viewA_nil, viewA_cons, ↓wPA_eq, atPin_is, ↓wAl_eq, ↓wLend_eq, lend_0, lend_s, ↓wPlApp_eq, ↓wPlExt_eq, ↓wPlPop_eq, ↓wAppMv_eq, ↓wNm_eq, ↓wPlClr_eq, fg_lst, fg_lsa, fg_tup, fg_ins, nm_lst, nm_lsa, nm_ins, root_lsa, root_ins, root_rc, kids_lsa, rekid_lsa, outK_lsa, isLst_a, view_pin, oStr_list, oStr_tup, ↓wLenSet_eq, ↓wXOp_eq, ↓wXCb_eq, ↓wXUn_eq, ↓wXLst_eq, ↓wXTup_eq, ↓wXCall_eq, ↓wXCallB_eq, ↓wXMeth_eq, ↓wXMethV_eq, ↓wXB_eq, ↓wXTest_eq, ↓wXTru_eq, ↓wXNot_eq, ↓wXAnd_eq, ↓wXOr_eq, ↓wXIfS_eq, ↓wXAndV_eq, ↓wXOrV_eq, ↓wXNotV_eq, ↓wXIf_eq, ↓wRetXV_eq, ↓wAsgXG_eq, ↓wForX_eq, shT_is, allSh_nil, allSh_cons, ↓wVar_eq, ↓wFd_eq, ↓wKd_eq, ↓wPV_eq, ↓wPF_eq, ↓wPK_eq, ↓wPI_eq, atPl_eq, atT_is, atO_some, atP_nil, atP_cons, bindP_some, putAt_eq, setT_is, putP_nil, putP_cons, putO_some, kids_lst, kids_ins, kids_rc, rekid_lst, rekid_ins, rekid_rc, ↓wXT_eq, ↓wXF_eq, ↓wXNil_eq, ↓wXCons_eq, ↓wAsgX_eq, ↓wDropX_eq, ↓wRetX_eq, ↓wRetNX_eq, ↓wRetVX_eq, ↓wParX_eq, ↓wSetPl_eq, ↓wFSet_eq, ↓wFNew_eq, ↓wRc_eq, ↓wMeth_eq, ↓wMethV_eq, ↓wApP_eq, ↓wApC_eq, ↓wCallX_eq, ↓wCallXB_eq, ↓wMake_eq, ↓wAppOwn_eq, ↓fnG_nx, ↓fnG_rx, outG_nil, outG_0, outG_2, outG_ins, outG_lsa, kept_nil, kept_0, kept_1, kept_2, ↓wXCallG_eq, ↓wXCallGB_eq, ↓wXCallR_eq, ↓wXCallRB_eq, backE_nil, backE_some, backE_none, ↓fnX_nx, ↓fnX_rx, ↓seq_rx, ↓loop_rx, dropB_f, dropB_t, outK_nil, outK_f, outK_ins, outK_rc, envX_f, envX_t, atRec_is, isIns_is, isRc_is, isLst_is, insK_is, ↓wSortSet_eq, ↓wC_eq, ↓wRetV_eq, ↓wFrz_eq, isBox_eq, ↓wNil_eq, ↓wCons_eq, ↓wOp_eq, ↓wOpT_eq, ↓wUn_eq, ↓wCb_eq, ↓wCbT_eq, ↓wTest_eq, ↓wTru_eq, ↓wYes_eq, ↓wNot_eq, ↓wAnd_eq, ↓wOr_eq, ↓wAndV_eq, ↓wOrV_eq, ↓wNotV_eq, ↓wIf_eq, ↓wIfT_eq, ↓wChain_eq, ↓wLst_eq, ↓wTup_eq, ↓wNilT_eq, ↓wConsT_eq, ↓wLstT_eq, ↓wTupT_eq, ↓wSh_eq, ↓wFz_eq, ↓wVw_eq, ↓wVb_eq, ↓wVt_eq, view_nil, view_cons, view_no, view_box, view_is, ↓wCall_eq, ↓wCallT_eq, ↓wCallB_eq, ↓wCallBT_eq, ↓wIs_eq, ↓wNoPart_eq, ↓wPart_eq, ↓wSl_eq, ↓wSlT_eq, ↓wRevT_eq, ↓wRgL_eq, ↓wSkip_eq, ↓wBreak_eq, ↓wCont_eq, ↓wSeq_eq, ↓seq_nx, ↓seq_rt, ↓seq_bk, ↓seq_ct, ↓loop_nx, ↓loop_rt, ↓loop_bk, ↓loop_ct, ↓fn_nx, ↓fn_rt, ↓wRet_eq, ↓wRetN_eq, ↓wIfS_eq, ↓wAsgT_eq, ↓wAsg_eq, ↓wParN_eq, setsE_cons, setsE_nil, ↓wDrop_eq, ↓wName_eq, ↓wGNil_eq, ↓wGCons_eq, ↓wGTup_eq, ↓wApp_eq, ↓wRev_eq, ↓wClr_eq, ↓wExt_eq, ↓wSet_eq, ↓wPop_eq, ↓wipe_nil, ↓wipe_cons, env0_f, env0_t, atSh_is, atIs_is, atOwn_is, atBox_is, bIf_t, bIf_f, bIf_not, dBool_is, dInt_is, dTup_is, dList_is, dSeq_list, dSeq_tup, dSeq_seq, dTru_none, dTru_bool, dTru_int, dTru_list, dTru_tup, dCons_is, oI_int, oI0_int, oAdd_int, oAdd_list, oMul_int, oMul_list, oNeg_int, oEq_int, oEq_bool, oEq_nn, oEq_in, oEq_ni, oNe_int, oNe_bool, oNe_nn, oNe_in, oNe_ni, oEq_list, oNe_list, oEq_tup, oNe_tup, oEq_str, oNe_str, oIx_list, oIx_tup, oIx_seq, oLen_list, oLen_tup, oLen_seq, oInt_int, oInt_bool, oAbs_int, oMin2_int, oMax2_int, oAll_is, oSum_is, oListD_list, oListD_tup, oListD_seq, oTuple_list, oTuple_tup, oTuple_seq, oRepr_is, oIs_none, oIsNot_none, in_nats_t, in_nats_f, oIn_list, oIn_seq, oList_list, oList_tup, oList_seq, oCat_list, oRep_list, atI_l0, atI_l1, atI_l2, exists_eq_left', exists_eq_left, wPickT_eq, ↓wDNew_eq, ↓wDPut_eq, ↓wDList_eq, atDic_is, ↓wDGet_eq, ↓wDIn_eq, ↓wDNotIn_eq, ↓wDGet1_eq, ↓wD0_eq, ↓wDKeys_eq, ↓wDSort_eq, ↓wDSet_eq, ↓wLk_eq, ↓wKeys_eq, ↓wItems_eq, atD_own, atD_frz, atD_sh, atDO_is, atF_is, ↓wPop0_eq, ↓wSelf_eq, ↓wMove_eq, ↓wRetVT_eq, ↓wApp2_eq, ↓wSet2_eq, ↓wSetP_eq, ↓wAug_eq, oCount_list, ↓wRetPick_eq, oIsB_is, ↓wBmL_eq, oIndexS_is, ↓wAppPop_eq, ↓wAppPopT_eq, ↓wRev2_eq, oSumS_list, oSumS_tup, oSumS_seq, ↓wRetV2_eq, atOwnB_lst, atOwnB_tup, atL_int, mkT_t, mkT_f, w_take_is, w_same_is, notI_none, notI_bool, notI_int, notI_str, notI_list, notI_tup, notI_seq, isNone_none, isNone_bool, isNone_int, isNone_str, isNone_list, isNone_tup, isInt_none, isInt_bool, isInt_int, isInt_str, isInt_list, isInt_tup, isBool_none, isBool_bool, isBool_int, isBool_str, isBool_list, isBool_tup, isList_none, isList_bool, isList_int, isList_str, isList_list, isList_tup, isTuple_none, isTuple_bool, isTuple_int, isTuple_str, isTuple_list, isTuple_tup, isStr_none, isStr_bool, isStr_int, isStr_str, isStr_list, isStr_tup, isNone_seq, isList_seq, isTuple_seq, isInt_seq, isBool_seq, isStr_seq, dTru_seq, List.isEmpty_nil, List.isEmpty_cons, beq_self_eq_true, decide_true, decide_false, T.clean, T.cleans, T.data, T.datas, imm, immAll, List.getElem?_cons_zero, List.getElem?_cons_succ, List.set_cons_zero, List.set_cons_succ, List.map_cons, List.map_nil, List.cons_append, List.nil_append, List.replicate_succ, List.replicate_zero, List.length_cons, List.length_nil, List.length_map, if_true, if_false, Bool.true_and, Bool.and_true, Bool.false_and, Bool.and_false, Bool.not_true, Bool.not_false, Bool.or_true, Bool.true_or, Bool.false_or, Bool.or_false, Bool.false_eq_true, reduceIte, reduceCtorEq, true_and, and_true, Option.some.injEq, Nat.reduceAdd, Nat.reduceLeDiff, Int.reduceLE, Int.reduceLT, Int.cast_ofNat_Int, Int.reduceBEq, Int.reduceToNat])
theorem oNotInD_pr {p : Pr} {G : List Pr} {S : PyData → Prop} (h : S (.bool (!decide (p ∈ G)))) : oNotInD (.tuple [.int (p.1 : Int), .int (p.2 : Int)]) (.list (G.map pD)) S := by
  refine oInD_pr (p := p) (S := fun d => ∀ b, d = .bool b → S (.bool (!b))) (fun b e => ?_) |> fun z => ⟨z.1, z.2.1, z.2.2 _ rfl⟩
  cases e
  exact h
section
variable {κ : Nat → Addr} {N n m : Nat} {R : T → Nat → Prop} {RX : T → List T → Nat → Prop} {parts L : Mat} {qs : List Pr} {pl : List Nat}
theorem law_next_table_spec {ps : List Pr} {way : Nat} (hn : n ≤ 12) (hm : m ≤ 12) (hL : SzM n m L) (hw : way < 4) (hps : ps.length ≤ 100) (hN : N ≤ 900000000)
    (h : ∀ (L' : Mat) (N' : Nat), SzM n m L' → (∀ r ∈ L', ∀ x ∈ r, x = 0 ∨ x = 1) → (∀ i' j', cell L i' j' = 1 → (i', j') ∉ ps → cell L' i' j' = 1) → N' ≤ N + 12 * n → R (.lst (L'.map fun r => .lst (r.map fun x => .sh (.int x)))) N') : w_law_next_table [tabD true true L, .list (ps.map pD), .int (way : Int)] N R := by
  refine ⟨rfl, ?_⟩
  sizeOf_list_dec
  refine for_en (ds := L.map (rowD true)) (fun k ε M2 => M2 ≤ N + 12 * k ∧ ∃ (V : Mat) (x5 x6 x7 x8 x9 x10 : Sl), V.length = k ∧ (∀ r ∈ V, r.length = m ∧ ∀ x ∈ r, x = 0 ∨ x = 1) ∧ (∀ i' j', i' < k → cell L i' j' = 1 → (i', j') ∉ ps → cell V i' j' = 1) ∧ ε = [.box, .is (.sh (tabD true true L)), .is (.sh (.list (ps.map pD))), .is (.sh (.int (way : Int))), .is (.lst (V.map fun r => .lst (r.map fun x => .sh (.int x)))), x5, x6, x7, x8, x9, x10]) (fun R h => by sizeOf_list_dec; exact h) (seqOf_seqD true _) ⟨by omega, [], _, _, _, _, _, _, rfl, (fun _ z => nomatch z), (fun i' _ z => absurd z (Nat.not_lt_zero i')), rfl⟩ (fun k dr ε M2 hr hI => ?_) fun ε M2 hI => ?_
  · obtain ⟨hM2, V, x5, x6, x7, x8, x9, x10, hVl, hVb, hVe, rfl⟩ := hI
    rw [List.getElem?_map] at hr
    obtain ⟨row, hrow, rfl⟩ := Option.map_eq_some_iff.mp hr
    have hrl := hL.2 row (List.mem_of_getElem? hrow)
    have hkn : k < n := by have := (List.getElem?_eq_some_iff.mp hrow).1; rw [hL.1] at this; exact this
    sizeOf_list_dec
    refine for_en (ds := row.map PyData.int) (fun j ε M3 => M3 ≤ N + 12 * k + j ∧ ∃ (w : List Int) (y8 y9 y10 : Sl), w.length = j ∧ (∀ x ∈ w, x = 0 ∨ x = 1) ∧ (∀ j', j' < j → row.getD j' 0 = 1 → (k, j') ∉ ps → w.getD j' 0 = 1) ∧ ε = [.box, .is (.sh (tabD true true L)), .is (.sh (.list (ps.map pD))), .is (.sh (.int (way : Int))), .is (.lst (V.map fun r => .lst (r.map fun x => .sh (.int x)))), .is (.sh (.int (k : Int))), .is (.sh (rowD true row)), .is (.lst (w.map fun x => .sh (.int x))), y8, y9, y10]) (fun R h => by sizeOf_list_dec; exact h) rfl ⟨by omega, [], _, _, _, rfl, (fun _ z => nomatch z), (fun j' z => absurd z (Nat.not_lt_zero j')), rfl⟩ (fun j dy ε M3 hy hI => ?_) fun ε M3 hI => ?_
    · obtain ⟨hM3, w, y8, y9, y10, hwl, hwb, hwe, rfl⟩ := hI
      rw [List.getElem?_map] at hy
      obtain ⟨y, hy2, rfl⟩ := Option.map_eq_some_iff.mp hy
      have hjm : j < m := by have := (List.getElem?_eq_some_iff.mp hy2).1; rw [hrl] at this; exact this
      sizeOf_list_dec
      have key : ∀ (q : Int) (v : Int) (x10 : Sl), (v = 0 ∨ v = 1) → (y = 1 → (k, j) ∉ ps → v = 1) → M3 + 1 ≤ N + 12 * k + (j + 1) ∧
          ∃ (w_1 : List Int) (y8 y9 y10 : Sl), w_1.length = j + 1 ∧ (∀ x ∈ w_1, x = 0 ∨ x = 1) ∧ (∀ j', j' < j + 1 → row.getD j' 0 = 1 → (k, j') ∉ ps → w_1.getD j' 0 = 1) ∧
            [Sl.box, .is (.sh (tabD true true L)), .is (.sh (.list (ps.map pD))), .is (.sh (.int (way : Int))), .is (.lst (V.map fun r => .lst (r.map fun x => .sh (.int x)))), .is (.sh (.int (k : Int))), .is (.sh (rowD true row)), .is (.lst (w.map (fun x => .sh (.int x)) ++ [T.sh (.int v)])), .is (.sh (.int (j : Int))), .is (.sh (.int y)), x10] =
            [Sl.box, .is (.sh (tabD true true L)), .is (.sh (.list (ps.map pD))), .is (.sh (.int (way : Int))), .is (.lst (V.map fun r => .lst (r.map fun x => .sh (.int x)))), .is (.sh (.int (k : Int))), .is (.sh (rowD true row)), .is (.lst (w_1.map fun x => .sh (.int x))), y8, y9, y10] := fun _ v x10 hv hy1 => by
        refine ⟨by omega, w ++ [v], _, _, _, by rw [List.length_append]; exact congrArg (· + 1) hwl, fun x hx => ?_, fun j' hj' h1 h2 => ?_, by rw [List.map_append]; rfl⟩
        · rcases List.mem_append.mp hx with hx | hx
          · exact hwb x hx
          · rw [List.mem_singleton.mp hx]; exact hv
        · rw [List.getD_eq_getElem?_getD]
          by_cases e : j' < j
          · rw [List.getElem?_append_left (by omega), ← List.getD_eq_getElem?_getD]
            exact hwe j' e h1 h2
          · have : j' = j := by omega
            subst this
            rw [List.getElem?_append_right (by omega), hwl, Nat.sub_self]
            refine hy1 ?_ h2
            rw [List.getD_eq_getElem?_getD, hy2] at h1
            exact h1
      have last : ∀ (c : Nat), (y = 1 → (k, j) ∈ ps) → oEq (.int (c : Int)) (.int 0) fun f => oInt [f] fun f => w.length ≤ 100000 ∧ M3 + 1 ≤ N + 12 * k + (j + 1) ∧ ∃ (w_1 : List Int) (y8 y9 y10 : Sl), w_1.length = j + 1 ∧ (∀ x ∈ w_1, x = 0 ∨ x = 1) ∧ (∀ j', j' < j + 1 → row.getD j' 0 = 1 → (k, j') ∉ ps → w_1.getD j' 0 = 1) ∧
            [Sl.box, .is (.sh (tabD true true L)), .is (.sh (.list (ps.map pD))), .is (.sh (.int (way : Int))), .is (.lst (V.map fun r => .lst (r.map fun x => .sh (.int x)))), .is (.sh (.int (k : Int))), .is (.sh (rowD true row)), .is (.lst (w.map (fun x => .sh (.int x)) ++ [T.sh f])), .is (.sh (.int (j : Int))), .is (.sh (.int y)), .is (.sh (.int (c : Int)))] =
            [Sl.box, .is (.sh (tabD true true L)), .is (.sh (.list (ps.map pD))), .is (.sh (.int (way : Int))), .is (.lst (V.map fun r => .lst (r.map fun x => .sh (.int x)))), .is (.sh (.int (k : Int))), .is (.sh (rowD true row)), .is (.lst (w_1.map fun x => .sh (.int x))), y8, y9, y10] := fun c hc => by
        sizeOf_list_dec
        refine ⟨by omega, key 0 _ _ ?_ fun h1 h2 => absurd (hc h1) h2⟩
        cases ((c : Int) == 0)
        · exact .inl rfl
        · exact .inr rfl
      obtain ⟨q, eq, hq1, hq2⟩ : ∃ q : Int, atI [PyData.int 9, PyData.int 4, PyData.int 2, PyData.int 1] (way : Int) = some (PyData.int q) ∧ 1 ≤ q ∧ q ≤ 9 := by
        have : way = 0 ∨ way = 1 ∨ way = 2 ∨ way = 3 := by omega
        rcases this with rfl | rfl | rfl | rfl
        · exact ⟨9, rfl, by omega, by omega⟩
        · exact ⟨4, rfl, by omega, by omega⟩
        · exact ⟨2, rfl, by omega, by omega⟩
        · exact ⟨1, rfl, by omega, by omega⟩
      refine ⟨_, eq, ?_⟩
      sizeOf_list_dec
      refine ⟨by omega, fun c hc => bIf_beq (fun h1 => ?_) fun h1 => last c fun z => absurd z h1⟩
      refine oNotInD_pr (p := (k, j)) ?_
      sizeOf_list_dec
      refine bIf_of (fun h2 => ?_) fun h2 => ⟨by omega, key 0 1 _ (.inr rfl) fun _ _ => rfl⟩
      have := last c fun _ => of_decide_eq_true h2
      simp only [oEq_int, oInt_bool] at this
      exact this
    · obtain ⟨hM3, w, y8, y9, y10, hwl, hwb, hwe, rfl⟩ := hI
      rw [List.length_map] at hM3 hwl hwe
      sizeOf_list_dec
      refine ⟨by omega, by omega, V ++ [w], _, _, _, _, _, _, by rw [List.length_append]; exact congrArg (· + 1) hVl, fun r hr => ?_, fun i' j' hi' h1 h2 => ?_, by rw [List.map_append]; rfl⟩
      · rcases List.mem_append.mp hr with hr | hr
        · exact hVb r hr
        · rw [List.mem_singleton.mp hr]; exact ⟨by omega, hwb⟩
      · unfold cell
        rw [List.getD_eq_getElem?_getD (l := V ++ [w])]
        by_cases e : i' < k
        · rw [List.getElem?_append_left (by omega), ← List.getD_eq_getElem?_getD]
          exact hVe i' j' e h1 h2
        · have : i' = k := by omega
          subst this
          rw [List.getElem?_append_right (by omega), hVl, Nat.sub_self]
          have h1' : row.getD j' 0 = 1 := by
            unfold cell at h1
            rw [List.getD_eq_getElem?_getD (l := L), hrow] at h1
            exact h1
          refine hwe j' ?_ h1' h2
          refine Nat.lt_of_not_le fun z => ?_
          rw [List.getD_eq_getElem?_getD, List.getElem?_eq_none z] at h1'
          exact absurd h1' (by decide)
  · obtain ⟨hM2, V, x5, x6, x7, x8, x9, x10, hVl, hVb, hVe, rfl⟩ := hI
    rw [List.length_map] at hVl
    sizeOf_list_dec
    refine h V _ ⟨by rw [hVl]; exact hL.1, fun r hr => (hVb r hr).1⟩ (fun r hr => (hVb r hr).2) (fun i' j' h1 h2 => hVe i' j' ?_ h1 h2) (by rw [List.length_map, hL.1] at hM2; exact hM2)
    rw [List.length_map, hL.1]
    exact (cell_bd hL h1).1
end
end K23

set_option Elab.async false
set_option linter.all false
set_option maxRecDepth 100000
set_option maxHeartbeats 1000000
namespace K23
open PySem PySem.Spec PyProof.Rows L2 Evl Cg
local macro_rules
  | `(tactic| sizeOf_list_dec) => `(tactic| simp (config := {failIfUnchanged := false}) only [↓wLenI_eq, ↓wFAug_eq, ↓wAppX_eq, ↓wRgL2_eq, ↓wSetPlN_eq, ↓wParAl_eq, oMin3_int, ↓wXTake_eq, ↓wXCallM_eq, ↓wDictP_eq, ↓wDGet2_eq, oAnyI_list, ↓wVwA_eq, ↓wVbA_eq, ↓wVtA_eq, viewA_nil, viewA_cons, ↓wPA_eq, atPin_is, ↓wAl_eq, ↓wLend_eq, lend_0, lend_s, ↓wPlApp_eq, ↓wPlExt_eq, ↓wPlPop_eq, ↓wAppMv_eq, ↓wNm_eq, ↓wPlClr_eq, fg_lst, fg_lsa, fg_tup, fg_ins, nm_lst, nm_lsa, nm_ins, root_lsa, root_ins, root_rc, kids_lsa, rekid_lsa, outK_lsa, isLst_a, view_pin, oStr_list, oStr_tup, ↓wLenSet_eq, ↓wXOp_eq, ↓wXCb_eq, ↓wXUn_eq, ↓wXLst_eq, ↓wXTup_eq, ↓wXCall_eq, ↓wXCallB_eq, ↓wXMeth_eq, ↓wXMethV_eq, ↓wXB_eq, ↓wXTest_eq, ↓wXTru_eq, ↓wXNot_eq, ↓wXAnd_eq, ↓wXOr_eq, ↓wXIfS_eq, ↓wXAndV_eq, ↓wXOrV_eq, ↓wXNotV_eq, ↓wXIf_eq, ↓wRetXV_eq, ↓wAsgXG_eq, ↓wForX_eq, shT_is, allSh_nil, allSh_cons, ↓wVar_eq, ↓wFd_eq, ↓wKd_eq, ↓wPV_eq, ↓wPF_eq, ↓wPK_eq, ↓wPI_eq, atPl_eq, atT_is, atO_some, atP_nil, atP_cons, bindP_some, putAt_eq, setT_is, putP_nil, putP_cons, putO_some, kids_lst, kids_ins, kids_rc, rekid_lst, rekid_ins, rekid_rc, ↓wXT_eq, ↓wXF_eq, ↓wXNil_eq, ↓wXCons_eq, ↓wAsgX_eq, ↓wDropX_eq, ↓wRetX_eq, ↓wRetNX_eq, ↓wRetVX_eq, ↓wParX_eq, ↓wSetPl_eq, ↓wFSet_eq, ↓wFNew_eq, ↓wRc_eq, ↓wMeth_eq, ↓wMethV_eq, ↓wApP_eq, ↓wApC_eq, ↓wCallX_eq, ↓wCallXB_eq, ↓wMake_eq, ↓wAppOwn_eq, ↓fnG_nx, ↓fnG_rx, outG_nil, outG_0, outG_2, outG_ins, outG_lsa, kept_nil, kept_0, kept_1, kept_2, ↓wXCallG_eq, ↓wXCallGB_eq, ↓wXCallR_eq, ↓wXCallRB_eq, backE_nil, backE_some, backE_none, ↓fnX_nx, ↓fnX_rx, ↓seq_rx, ↓loop_rx, dropB_f, dropB_t, outK_nil, outK_f, outK_ins, outK_rc, envX_f, envX_t, atRec_is, isIns_is, isRc_is, isLst_is, insK_is, ↓wSortSet_eq, ↓wC_eq, ↓wRetV_eq, ↓wFrz_eq, isBox_eq, ↓wNil_eq, ↓wCons_eq, ↓wOp_eq, ↓wOpT_eq, ↓wUn_eq, ↓wCb_eq, ↓wCbT_eq, ↓wTest_eq, ↓wTru_eq, ↓wYes_eq, ↓wNot_eq, ↓wAnd_eq, ↓wOr_eq, ↓wAndV_eq, ↓wOrV_eq, ↓wNotV_eq, ↓wIf_eq, ↓wIfT_eq, ↓wChain_eq, ↓wLst_eq, ↓wTup_eq, ↓wNilT_eq, ↓wConsT_eq, ↓wLstT_eq, ↓wTupT_eq, ↓wSh_eq, ↓wFz_eq, ↓wVw_eq, ↓wVb_eq, ↓wVt_eq, view_nil, view_cons, view_no, view_box, view_is, ↓wCall_eq, ↓wCallT_eq, ↓wCallB_eq, ↓wCallBT_eq, ↓wIs_eq, ↓wNoPart_eq, ↓wPart_eq, ↓wSl_eq, ↓wSlT_eq, ↓wRevT_eq, ↓wRgL_eq, ↓wSkip_eq, ↓wBreak_eq, ↓wCont_eq, ↓wSeq_eq, ↓seq_nx, ↓seq_rt, ↓seq_bk, ↓seq_ct, ↓loop_nx, ↓loop_rt, ↓loop_bk, ↓loop_ct, ↓fn_nx, ↓fn_rt, ↓wRet_eq, ↓wRetN_eq, ↓wIfS_eq, ↓wAsgT_eq, ↓wAsg_eq, ↓wParN_eq, setsE_cons, setsE_nil, ↓wDrop_eq, ↓wName_eq, ↓wGNil_eq, ↓wGCons_eq, ↓wGTup_eq, ↓wApp_eq, ↓wRev_eq, ↓wClr_eq, ↓wExt_eq, ↓wSet_eq, ↓wPop_eq, ↓wipe_nil, ↓wipe_cons, env0_f, env0_t, atSh_is, atIs_is, atOwn_is, atBox_is, bIf_t, bIf_f, bIf_not, dBool_is, dInt_is, dTup_is, dList_is, dSeq_list, dSeq_tup, dSeq_seq, dTru_none, dTru_bool, dTru_int, dTru_list, dTru_tup, dCons_is, oI_int, oI0_int, oAdd_int, oAdd_list, oMul_int, oMul_list, oNeg_int, oEq_int, oEq_bool, oEq_nn, oEq_in, oEq_ni, oNe_int, oNe_bool, oNe_nn, oNe_in, oNe_ni, oEq_list, oNe_list, oEq_tup, oNe_tup, oEq_str, oNe_str, oIx_list, oIx_tup, oIx_seq, oLen_list, oLen_tup, oLen_seq, oInt_int, oInt_bool, oAbs_int, oMin2_int, oMax2_int, oAll_is, oSum_is, oListD_list, oListD_tup, oListD_seq, oTuple_list, oTuple_tup, oTuple_seq, oRepr_is, oIs_none, oIsNot_none, in_nats_t, in_nats_f, oIn_list, oIn_seq, oList_list, oList_tup, oList_seq, oCat_list, oRep_list, atI_l0, atI_l1, atI_l2, exists_eq_left', exists_eq_left, wPickT_eq, ↓wDNew_eq, ↓wDPut_eq, ↓wDList_eq, atDic_is, ↓wDGet_eq, ↓wDIn_eq, ↓wDNotIn_eq, ↓wDGet1_eq, ↓wD0_eq, ↓wDKeys_eq, ↓wDSort_eq, ↓wDSet_eq, ↓wLk_eq, ↓wKeys_eq, ↓wItems_eq, atD_own, atD_frz, atD_sh, atDO_is, atF_is, ↓wPop0_eq, ↓wSelf_eq, ↓wMove_eq, ↓wRetVT_eq, ↓wApp2_eq, ↓wSet2_eq, ↓wSetP_eq, ↓wAug_eq, oCount_list, ↓wRetPick_eq, oIsB_is, ↓wBmL_eq, oIndexS_is, ↓wAppPop_eq, ↓wAppPopT_eq, ↓wRev2_eq, oSumS_list, oSumS_tup, oSumS_seq, ↓wRetV2_eq, atOwnB_lst, atOwnB_tup, atL_int, mkT_t, mkT_f, w_take_is, w_same_is, notI_none, notI_bool, notI_int, notI_str, notI_list, notI_tup, notI_seq, isNone_none, isNone_bool, isNone_int, isNone_str, isNone_list, isNone_tup, isInt_none, isInt_bool, isInt_int, isInt_str, isInt_list, isInt_tup, isBool_none, isBool_bool, isBool_int, isBool_str, isBool_list, isBool_tup, isList_none, isList_bool, isList_int, isList_str, isList_list, isList_tup, isTuple_none, isTuple_bool, isTuple_int, isTuple_str, isTuple_list, isTuple_tup, isStr_none, isStr_bool, isStr_int, isStr_str, isStr_list, isStr_tup, isNone_seq, isList_seq, isTuple_seq, isInt_seq, isBool_seq, isStr_seq, dTru_seq, List.isEmpty_nil, List.isEmpty_cons, beq_self_eq_true, decide_true, decide_false, T.clean, T.cleans, T.data, T.datas, imm, immAll, List.getElem?_cons_zero, List.getElem?_cons_succ, List.set_cons_zero, List.set_cons_succ, List.map_cons, List.map_nil, List.cons_append, List.nil_append, List.replicate_succ, List.replicate_zero, List.length_cons, List.length_nil, List.length_map, if_true, if_false, Bool.true_and, Bool.and_true, Bool.false_and, Bool.and_false, Bool.not_true, Bool.not_false, Bool.or_true, Bool.true_or, Bool.false_or, Bool.or_false, Bool.false_eq_true, reduceIte, reduceCtorEq, true_and, and_true, Option.some.injEq, Nat.reduceAdd, Nat.reduceLeDiff, Int.reduceLE, Int.reduceLT, Int.cast_ofNat_Int, Int.reduceBEq, Int.reduceToNat])
section
variable {κ : Nat → Addr} {N n m : Nat} {R : T → Nat → Prop} {RX : T → List T → Nat → Prop} {parts L : Mat} {qs : List Pr} {pl : List Nat}
abbrev tbT (V : Mat) : List T := V.map fun r => .lst (r.map fun x => .sh (.int x))
theorem law_walked_spec {i j way often : Nat} {late : Bool} {a al : Addr} {pT : T} (g : Gst n m parts qs pl) (hc : Cnt m parts qs) (hp : pT.data = tabD true true parts) (hcl : pT.clean = true) (n6 : n ≤ 6) (m6 : m ≤ 6) (hL : SzM n m L) (hB : ∀ r ∈ L, ∀ x ∈ r, x = 0 ∨ x = 1) (hij : cell L i j = 1) (hw : way < 4) (ho : 1 ≤ often ∧ often ≤ 12) (hN : N ≤ 400000000)
    (h : ∀ (qs' : List Pr) (pl' : List Nat) (N' : Nat), Gst n m parts qs' pl' → Cnt m parts qs' → N' ≤ N + 300000 → RX (.sh (.bool true)) [grT a (κ 0) n m pT qs' pl', .sh (.tuple [.int (i : Int), .int (j : Int)]), .sh (.tuple [.int (way : Int), .int (often : Int), .bool late])] N') :
    w_law_walked κ [grT a (κ 0) n m pT qs pl, .lsa al (tbT L), .sh (.tuple [.int (i : Int), .int (j : Int)]), .sh (.tuple [.int (way : Int), .int (often : Int), .bool late])] N RX := by
  have n1 := g.n1
  have m1 := g.m1
  obtain ⟨hi, hj⟩ := cell_bd hL hij
  refine ⟨rfl, ?_⟩
  sizeOf_list_dec
  have hprt := g.part hj
  have hah : ∀ {q : List Pr} {p : List Nat}, Gst n m parts q p → Cnt m parts q → 0 ≤ aheadN n (parts.getD j []) (q.getD j (0, 0)) i := fun g2 c2 => ahead_nn hprt.2 (g2.ptr hj) hi (c2 j hj)
  have hah0 := hah g hc
  have hah9 := ahead_le (n := n) hprt.2 (x := qs.getD j (0, 0)) (i := i) (by omega)
  have gd : ∀ (q : List Pr) (p : List Nat), recD (PyData.int ((κ 0 : Nat) : Int)) ns_Grants [PyData.int (n : Int), .int (m : Int), pT.data, PyData.list (T.datas (q.map fun p => T.sh (pD p))), PyData.list (T.datas (p.map fun x => T.sh (nD x)))] = grD (κ 0) n m parts q p := fun q p => grT_data (a := a) hp
  rw [gd]
  refine within_spec g hi hj ?_
  sizeOf_list_dec
  generalize hA0 : aheadN n (parts.getD j []) (qs.getD j (0, 0)) i = A0 at *
  obtain ⟨B, hB0⟩ : ∃ B : Nat, ((B : Nat) : Int) = (A0 + 1) * n * m := ⟨((A0 + 1) * n * m).toNat, Int.toNat_of_nonneg (Int.mul_nonneg (Int.mul_nonneg (by omega) (by omega)) (by omega))⟩
  have hBle : B ≤ 2000 := by
    have h1 : (A0 + 1) * n ≤ 55 * 6 := Int.mul_le_mul (by omega) (by omega) (by omega) (by omega)
    have h2 : (A0 + 1) * n * m ≤ 55 * 6 * 6 := Int.mul_le_mul h1 (by omega) (by omega) (by omega)
    omega
  rw [← hB0]
  refine for_r1 (n := B) (fun k ε M => M ≤ N + 80 * k ∧ ∃ (V : Mat) (q : List Pr) (p : List Nat) (tb : T) (bf : PyData) (x5 x8 x9 x15 : Sl), Gst n m parts q p ∧ Cnt m parts q ∧ SzM n m V ∧ (∀ r ∈ V, ∀ x ∈ r, x = 0 ∨ x = 1) ∧ cell V i j = 1 ∧ (tb = .lst (tbT V) ∨ ∃ b, tb = .lsa b (tbT V)) ∧
    ((k = 0 ∧ bf = .none ∧ q = qs) ∨ (0 < k ∧ ∃ A S F : Int, bf = .tuple [.int A, .int S, .int F] ∧ 0 ≤ S ∧ 0 ≤ F ∧ A * ((n : Int) * m) + S * m + F + k ≤ B ∧ ∀ (V2 : Mat) (w2 : Nat), SzM n m V2 → (∀ y, cell V y j = 1 → cell V2 y j = 1) → nxO (V2.map fun r => r.getD j 0) (q.getD j (0, 0)).1 = some w2 →
      Lex3 (aheadN n (parts.getD j []) (q.getD j (0, 0)) i) (stp n (q.getD j (0, 0)).1 w2) (stp m (p.getD w2 0) j) A S F)) ∧
    ε = [.box, .is (grT a (κ 0) n m pT q p), .is tb, .is (.sh (.tuple [.int (i : Int), .int (j : Int)])), .is (.sh (.tuple [.int (way : Int), .int (often : Int), .bool late])), x5, .is (.sh (.int (B : Int))), .is (.sh bf), x8, x9, .is (.sh (.int (i : Int))), .is (.sh (.int (j : Int))), .is (.sh (.int (way : Int))), .is (.sh (.int (often : Int))), .is (.sh (.bool late)), x15])
    (fun R h => by sizeOf_list_dec; exact h) (by omega) ⟨by omega, L, qs, pl, _, .none, _, _, _, _, g, hc, hL, hB, hij, .inr ⟨al, rfl⟩, .inl ⟨rfl, rfl, rfl⟩, rfl⟩ (fun k ε M hk hI => ?_) fun ε M hI => ?_
  · obtain ⟨hM, V, q, p, tb, bf, x5, x8, x9, x15, g2, c2, hV, hVb, hVc, htb, hbf, rfl⟩ := hI
    sizeOf_list_dec
    intro b1
    obtain ⟨b2, e2⟩ : ∃ b2, tb.nm b1 = .lsa b2 (tbT V) := by
      rcases htb with rfl | ⟨b, rfl⟩
      · exact ⟨b1, rfl⟩
      · exact ⟨b, rfl⟩
    rw [e2]
    sizeOf_list_dec
    rw [gd]
    obtain ⟨r, rfl⟩ : ∃ r, often = r + 1 := ⟨often - 1, by omega⟩
    refine bIf_of (fun hlate => ?l) fun hlate => ?r
    case' l =>
      intro b3
      refine law_late_ones_spec g2 hV hVb hi hj (by omega) fun L' N' s1 s2 s3 s4 => ?_
      refine ⟨_, rfl, rfl, _, rfl, cleanM L', ?_⟩
      rw [show (T.lsa b2 (List.map (fun r => T.lst (List.map (fun x => T.sh (PyData.int x)) r)) L')).data = tabD true true L' from tab_data L']
    case' r =>
      obtain ⟨L', hL'⟩ : ∃ L', V = L' := ⟨_, rfl⟩
      obtain ⟨N', hN'⟩ : ∃ N', M = N' := ⟨_, rfl⟩
      have s1 : SzM n m L' := hL' ▸ hV
      have s2 : ∀ r ∈ L', ∀ x ∈ r, x = 0 ∨ x = 1 := hL' ▸ hVb
      have s3 : ∀ i' j', cell V i' j' = 1 → cell L' i' j' = 1 := fun _ _ z => hL' ▸ z
      have s4 : N' ≤ M + 1 := by omega
      rw [hL', hN']
      rw [show PyData.list (T.datas (tbT L')) = tabD true true L' from tab_data L']
    all_goals
      obtain ⟨w, hw1, hw2⟩ := nx_on s1 (g2.ptr hj) (s3 i j hVc)
      have t1 := stp_lt (n := n) (p := (q.getD j (0, 0)).1) (i := w) (by omega)
      have t2 := stp_lt (n := m) (p := p.getD w 0) (i := j) (by omega)
      refine left_of_spec g2 s1 (s3 _ _ hVc) hw1 ?_
      rw [show (w + n - (q.getD j (0, 0)).1) % n = stp n (q.getD j (0, 0)).1 w from rfl, show (j + m - p.getD w 0) % m = stp m (p.getD w 0) j from rfl]
      generalize hSw : stp n (q.getD j (0, 0)).1 w = Sw at *
      generalize hFw : stp m (p.getD w 0) j = Fw at *
      have hAn := hah g2 c2
      generalize hAw : aheadN n (parts.getD j []) (q.getD j (0, 0)) i = Aw at *
      have hme : Aw * ((n : Int) * m) + Sw * m + Fw + ((k + 1 : Nat) : Int) ≤ B := by
        rcases hbf with ⟨z, _, rfl⟩ | ⟨_, A, S, F, _, hS, hF, hme, hlt⟩
        · rw [hA0] at hAw
          subst hAw z
          rw [hB0, Int.mul_assoc, Int.add_mul]
          have := Int.mul_le_mul_of_nonneg_right (show (Sw : Int) + 1 ≤ n by omega) (show (0 : Int) ≤ m by omega)
          rw [Int.add_mul] at this
          omega
        · have hl := hlt L' w s1 (fun y hy => s3 y j hy) hw1
          rw [hSw, hFw] at hl
          have := hl.meas (n := n) (m := m) (by omega) (by omega) (by omega) (by omega) hS hF
          omega
      sizeOf_list_dec
      rcases hbf with ⟨hk0, rfl, rfl⟩ | ⟨hk0, A, S, F, rfl, hS, hF, hme2, hlt⟩
      case' inr =>
        have hl := hlt L' w s1 (fun y hy => s3 y j hy) hw1
        rw [hSw, hFw] at hl
        have hl2 := hl.le
        sizeOf_list_dec
        rw [oGeT_3, hl.no_ge]
        sizeOf_list_dec
        refine bIf_dec (fun z => absurd z (by omega)) fun _ => ?_
      case' inl => sizeOf_list_dec
      all_goals
        have n12 := g2.n2
        refine lc_m L' (rowD true) (rowD true) (gv_it (d := tabD true true L') (fun R h => by sizeOf_list_dec; exact h) rfl) (by rw [s1.1]; omega) (fun r A hr hA => by
          unfold rowD
          sizeOf_list_dec
          exact hA) ?_
        rw [show PyData.list (L'.map (rowD true)) = tabD true true L' from rfl]
        refine beat_spec (r := r + 1) g2 hp hcl s1 (by omega) fun ab hab => ?_
        rw [beat_rds s1] at hab ⊢
        have hap := apart_iff.mp (acc_apart (q := q) (p := p) (r := r + 1) s1)
        have hal := acc_len (q := q) (p := p) (r := r + 1) s1
        have hrl := rds_len (n := n) (m := m) (q := q) (p := p) (r := r + 1) (L := L')
        refine ⟨_, rfl, cleanO, _, rfl, cleanQ hcl, ?_⟩
        rw [show (T.lst (rdsT ab (rdsP n m q p (r + 1) L'))).data = .list ((rdsP n m q p (r + 1) L').map rdD) from by show PyData.list (T.datas _) = _; rw [dsO hab]]
        refine pairs_by_spec (k1 := true) (k2 := true) (k3 := true) hap.1 (by omega) (by omega) ?_
        rw [dataP]
        refine oInD_pr (p := (i, j)) ?_
        have hspl := (sort_perm (accP (rdsP n m q p (r + 1) L'))).length_eq
        have g3 := beh_gst (r := r + 1) (L := L') g2
        have c3 := beh_cnt (r := r + 1) g2 s1 c2
        sizeOf_list_dec
        refine bIf_of (fun hin => ?_) fun hin => ?_
        · sizeOf_list_dec
          exact h _ _ _ g3 c3 (by omega)
        · have hno : (i, j) ∉ accP (rdsP n m q p (r + 1) L') := fun z => by
            have := decide_eq_false_iff_not.mp hin
            exact this ((sort_perm _).mem_iff.mpr z)
          refine law_next_table_spec (by omega) (by omega) s1 hw (by omega) (by omega) fun V3 N3 u1 u2 u3 u4 => ?_
          have u3' : ∀ i' j', cell L' i' j' = 1 → (i', j') ∉ accP (rdsP n m q p (r + 1) L') → cell V3 i' j' = 1 := fun i' j' z1 z2 => u3 i' j' z1 fun z => z2 ((sort_perm _).mem_iff.mp z)
          refine ⟨cleanM V3, by omega, V3, _, _, _, _, _, _, _, _, g3, c3, u1, u2, u3' i j (s3 _ _ hVc) hno, .inl rfl, .inr ⟨by omega, _, _, _, rfl, by omega, by omega, by omega, fun V4 w4 v1 v2 v3 => ?_⟩, rfl⟩
          have := left_falls g2 c2 s1 v1 (s3 _ _ hVc) hno (fun y z1 z2 => v2 y (u3' y j z1 z2)) hw1 v3
          unfold Lex3
          omega
  · obtain ⟨hM, V, q, p, tb, bf, x5, x8, x9, x15, g2, c2, hV, hVb, hVc, htb, hbf, rfl⟩ := hI
    exfalso
    have hB1 : 0 < B := by
      have : 0 < (A0 + 1) * n * m := Int.mul_pos (Int.mul_pos (by omega) (by omega)) (by omega)
      omega
    rcases hbf with ⟨z, _⟩ | ⟨_, A, S, F, _, hS, hF, hme, hlt⟩
    · omega
    · obtain ⟨w, hw1, hw2⟩ := nx_on hV (g2.ptr hj) hVc
      have hl := hlt V w hV (fun _ z => z) hw1
      have s1 := stp_lt (n := n) (p := (q.getD j (0, 0)).1) (i := w) (by omega)
      have s2 := stp_lt (n := m) (p := p.getD w 0) (i := j) (by omega)
      have h1 := hl.meas (n := n) (m := m) (by omega) (by omega) (by omega) (by omega) hS hF
      have h2 := Int.mul_nonneg (hah g2 c2) (Int.mul_nonneg (Int.natCast_nonneg n) (Int.natCast_nonneg m))
      have h3 := Int.mul_nonneg (Int.natCast_nonneg (stp n (q.getD j (0, 0)).1 w)) (Int.natCast_nonneg m)
      omega
end
end K23

set_option Elab.async false
set_option linter.all false
set_option maxRecDepth 100000
set_option maxHeartbeats 1000000
namespace K23
open PySem PySem.Spec PyProof.Rows L2 Evl Cg
local macro_rules
  | `(tactic| sizeOf_list_dec) => `(tactic| simp (config := {failIfUnchanged := false}) only [↓wLenI_eq, ↓wFAug_eq, ↓wAppX_eq, ↓wRgL2_eq, ↓wSetPlN_eq, ↓wParAl_eq, oMin3_int, ↓wXTake_eq, ↓wXCallM_eq, ↓wDictP_eq, ↓wDGet2_eq, oAnyI_list, ↓wVwA_eq, ↓wVbA_eq, ↓wVtA_eq, viewA_nil, viewA_cons, ↓wPA_eq, atPin_is, ↓wAl_eq, ↓wLend_eq, lend_0, lend_s, ↓wPlApp_eq, ↓wPlExt_eq, ↓wPlPop_eq, ↓wAppMv_eq, ↓wNm_eq, ↓wPlClr_eq, fg_lst, fg_lsa, fg_tup, fg_ins, nm_lst, nm_lsa, nm_ins, root_lsa, root_ins, root_rc, kids_lsa, rekid_lsa, outK_lsa, isLst_a, view_pin, oStr_list, oStr_tup, ↓wLenSet_eq, ↓wXOp_eq, ↓wXCb_eq, ↓wXUn_eq, ↓wXLst_eq, ↓wXTup_eq, ↓wXCall_eq, ↓wXCallB_eq, ↓wXMeth_eq, ↓wXMethV_eq, ↓wXB_eq, ↓wXTest_eq, ↓wXTru_eq, ↓wXNot_eq, ↓wXAnd_eq, ↓wXOr_eq, ↓wXIfS_eq, ↓wXAndV_eq, ↓wXOrV_eq, ↓wXNotV_eq, ↓wXIf_eq, ↓wRetXV_eq, ↓wAsgXG_eq, ↓wForX_eq, shT_is, allSh_nil, allSh_cons, ↓wVar_eq, ↓wFd_eq, ↓wKd_eq, ↓wPV_eq, ↓wPF_eq, ↓wPK_eq, ↓wPI_eq, atPl_eq, atT_is, atO_some, atP_nil, atP_cons, bindP_some, putAt_eq, setT_is, putP_nil, putP_cons, putO_some, kids_lst, kids_ins, kids_rc, rekid_lst, rekid_ins, rekid_rc, ↓wXT_eq, ↓wXF_eq, ↓wXNil_eq, ↓wXCons_eq, ↓wAsgX_eq, ↓wDropX_eq, ↓wRetX_eq, ↓wRetNX_eq, ↓wRetVX_eq, ↓wParX_eq, ↓wSetPl_eq, ↓wFSet_eq, ↓wFNew_eq, ↓wRc_eq, ↓wMeth_eq, ↓wMethV_eq, ↓wApP_eq, ↓wApC_eq, ↓wCallX_eq, ↓wCallXB_eq, ↓wMake_eq, ↓wAppOwn_eq, ↓fnG_nx, ↓fnG_rx, outG_nil, outG_0, outG_2, outG_ins, outG_lsa, kept_nil, kept_0, kept_1, kept_2, ↓wXCallG_eq, ↓wXCallGB_eq, ↓wXCallR_eq, ↓wXCallRB_eq, backE_nil, backE_some, backE_none, ↓fnX_nx, ↓fnX_rx, ↓seq_rx, ↓loop_rx, dropB_f, dropB_t, outK_nil, outK_f, outK_ins, outK_rc, envX_f, envX_t, atRec_is, isIns_is, isRc_is, isLst_is, insK_is, ↓wSortSet_eq, ↓wC_eq, ↓wRetV_eq, ↓wFrz_eq, isBox_eq, ↓wNil_eq, ↓wCons_eq, ↓wOp_eq, ↓wOpT_eq, ↓wUn_eq, ↓wCb_eq, ↓wCbT_eq, ↓wTest_eq, ↓wTru_eq, ↓wYes_eq, ↓wNot_eq, ↓wAnd_eq, ↓wOr_eq, ↓wAndV_eq, ↓wOrV_eq, ↓wNotV_eq, ↓wIf_eq, ↓wIfT_eq, ↓wChain_eq, ↓wLst_eq, ↓wTup_eq, ↓wNilT_eq, ↓wConsT_eq, ↓wLstT_eq, ↓wTupT_eq, ↓wSh_eq, ↓wFz_eq, ↓wVw_eq, ↓wVb_eq, ↓wVt_eq, view_nil, view_cons, view_no, view_box, view_is, ↓wCall_eq, ↓wCallT_eq, ↓wCallB_eq, ↓wCallBT_eq, ↓wIs_eq, ↓wNoPart_eq, ↓wPart_eq, ↓wSl_eq, ↓wSlT_eq, ↓wRevT_eq, ↓wRgL_eq, ↓wSkip_eq, ↓wBreak_eq, ↓wCont_eq, ↓wSeq_eq, ↓seq_nx, ↓seq_rt, ↓seq_bk, ↓seq_ct, ↓loop_nx, ↓loop_rt, ↓loop_bk, ↓loop_ct, ↓fn_nx, ↓fn_rt, ↓wRet_eq, ↓wRetN_eq, ↓wIfS_eq, ↓wAsgT_eq, ↓wAsg_eq, ↓wParN_eq, setsE_cons, setsE_nil, ↓wDrop_eq, ↓wName_eq, ↓wGNil_eq, ↓wGCons_eq, ↓wGTup_eq, ↓wApp_eq, ↓wRev_eq, ↓wClr_eq, ↓wExt_eq, ↓wSet_eq, ↓wPop_eq, ↓wipe_nil, ↓wipe_cons, env0_f, env0_t, atSh_is, atIs_is, atOwn_is, atBox_is, bIf_t, bIf_f, bIf_not, dBool_is, dInt_is, dTup_is, dList_is, dSeq_list, dSeq_tup, dSeq_seq, dTru_none, dTru_bool, dTru_int, dTru_list, dTru_tup, dCons_is, oI_int, oI0_int, oAdd_int, oAdd_list, oMul_int, oMul_list, oNeg_int, oEq_int, oEq_bool, oEq_nn, oEq_in, oEq_ni, oNe_int, oNe_bool, oNe_nn, oNe_in, oNe_ni, oEq_list, oNe_list, oEq_tup, oNe_tup, oEq_str, oNe_str, oIx_list, oIx_tup, oIx_seq, oLen_list, oLen_tup, oLen_seq, oInt_int, oInt_bool, oAbs_int, oMin2_int, oMax2_int, oAll_is, oSum_is, oListD_list, oListD_tup, oListD_seq, oTuple_list, oTuple_tup, oTuple_seq, oRepr_is, oIs_none, oIsNot_none, in_nats_t, in_nats_f, oIn_list, oIn_seq, oList_list, oList_tup, oList_seq, oCat_list, oRep_list, atI_l0, atI_l1, atI_l2, exists_eq_left', exists_eq_left, wPickT_eq, ↓wDNew_eq, ↓wDPut_eq, ↓wDList_eq, atDic_is, ↓wDGet_eq, ↓wDIn_eq, ↓wDNotIn_eq, ↓wDGet1_eq, ↓wD0_eq, ↓wDKeys_eq, ↓wDSort_eq, ↓wDSet_eq, ↓wLk_eq, ↓wKeys_eq, ↓wItems_eq, atD_own, atD_frz, atD_sh, atDO_is, atF_is, ↓wPop0_eq, ↓wSelf_eq, ↓wMove_eq, ↓wRetVT_eq, ↓wApp2_eq, ↓wSet2_eq, ↓wSetP_eq, ↓wAug_eq, oCount_list, ↓wRetPick_eq, oIsB_is, ↓wBmL_eq, oIndexS_is, ↓wAppPop_eq, ↓wAppPopT_eq, ↓wRev2_eq, oSumS_list, oSumS_tup, oSumS_seq, ↓wRetV2_eq, atOwnB_lst, atOwnB_tup, atL_int, mkT_t, mkT_f, w_take_is, w_same_is, notI_none, notI_bool, notI_int, notI_str, notI_list, notI_tup, notI_seq, isNone_none, isNone_bool, isNone_int, isNone_str, isNone_list, isNone_tup, isInt_none, isInt_bool, isInt_int, isInt_str, isInt_list, isInt_tup, isBool_none, isBool_bool, isBool_int, isBool_str, isBool_list, isBool_tup, isList_none, isList_bool, isList_int, isList_str, isList_list, isList_tup, isTuple_none, isTuple_bool, isTuple_int, isTuple_str, isTuple_list, isTuple_tup, isStr_none, isStr_bool, isStr_int, isStr_str, isStr_list, isStr_tup, isNone_seq, isList_seq, isTuple_seq, isInt_seq, isBool_seq, isStr_seq, dTru_seq, List.isEmpty_nil, List.isEmpty_cons, beq_self_eq_true, decide_true, decide_false, T.clean, T.cleans, T.data, T.datas, imm, immAll, List.getElem?_cons_zero, List.getElem?_cons_succ, List.set_cons_zero, List.set_cons_succ, List.map_cons, List.map_nil, List.cons_append, List.nil_append, List.replicate_succ, List.replicate_zero, List.length_cons, List.length_nil, List.length_map, if_true, if_false, Bool.true_and, Bool.and_true, Bool.false_and, Bool.and_false, Bool.not_true, Bool.not_false, Bool.or_true, Bool.true_or, Bool.false_or, Bool.or_false, Bool.false_eq_true, reduceIte, reduceCtorEq, true_and, and_true, Option.some.injEq, Nat.reduceAdd, Nat.reduceLeDiff, Int.reduceLE, Int.reduceLT, Int.cast_ofNat_Int, Int.reduceBEq, Int.reduceToNat])
/-! the law's draws -/
section
variable {N : Nat} {R : T → Nat → Prop}
theorem law_sizes_spec {mx : Nat} (h1 : 1 ≤ mx) (h2 : mx ≤ 1000) (hN : N ≤ 900000000) (h : ∀ n m : Nat, 1 ≤ n → n ≤ mx → 1 ≤ m → m ≤ mx → R (.sh (pD (n, m))) (N + 5)) : w_law_sizes [.int (mx : Int)] N R := by
  refine ⟨rfl, ?_⟩
  sizeOf_list_dec
  have hmin : ∃ q : Nat, (if (mx : Int) < 4 then (mx : Int) else 4) = (q : Int) ∧ 1 ≤ q ∧ q ≤ mx := by
    by_cases hc : (mx : Int) < 4
    · exact ⟨mx, by rw [if_pos hc], h1, Nat.le_refl _⟩
    · exact ⟨4, by rw [if_neg hc]; rfl, by decide, by omega⟩
  obtain ⟨q, hq, q1, q2⟩ := hmin
  rw [hq]
  refine ⟨⟨by omega, by omega, by omega⟩, fun a ha => ⟨⟨by omega, by omega, by omega⟩, fun b hb => ?_⟩⟩
  refine ⟨⟨by omega, by omega, by omega⟩, fun c hc => ⟨⟨by omega, by omega, by omega⟩, fun d hd => ?_⟩⟩
  refine ⟨by omega, fun k hk => ?_⟩
  have e1 : ((1 : Int) + (a : Int)) = ((1 + a : Nat) : Int) := by omega
  have e2 : ((1 : Int) + (b : Int)) = ((1 + b : Nat) : Int) := by omega
  have e3 : ((1 : Int) + (c : Int)) = ((1 + c : Nat) : Int) := by omega
  have e4 : ((1 : Int) + (d : Int)) = ((1 + d : Nat) : Int) := by omega
  rw [e1, e2, e3, e4]
  have i0 : ∀ {k : Int}, atI [PyData.int 0, .int 0, .int 0, .int 2, .int 2, .int 1] k = some (.int 0) → True := fun _ => trivial
  rcases (by omega : k = 0 ∨ k = 1 ∨ k = 2 ∨ k = 3 ∨ k = 4 ∨ k = 5) with rfl | rfl | rfl | rfl | rfl | rfl
  · exact ⟨.int 0, rfl, _, rfl, rfl, h _ _ (by omega) (by omega) (by omega) (by omega)⟩
  · exact ⟨.int 0, rfl, _, rfl, rfl, h _ _ (by omega) (by omega) (by omega) (by omega)⟩
  · exact ⟨.int 0, rfl, _, rfl, rfl, h _ _ (by omega) (by omega) (by omega) (by omega)⟩
  · exact ⟨.int 2, rfl, _, rfl, rfl, h _ _ (by omega) (by omega) (by omega) (by omega)⟩
  · exact ⟨.int 2, rfl, _, rfl, rfl, h _ _ (by omega) (by omega) (by omega) (by omega)⟩
  · exact ⟨.int 1, rfl, _, rfl, rfl, h _ _ (by omega) (by omega) (by omega) (by omega)⟩
end
/-! the law's tables -/
section
variable {N : Nat} {R : T → Nat → Prop} {M : Mat}
/-- n rows of m numbers 0 or 1 -/
def Bits (n m : Nat) (M : Mat) : Prop := M.length = n ∧ ∀ r ∈ M, r.length = m ∧ ∀ x ∈ r, x = 0 ∨ x = 1
theorem Bits.sz {n m : Nat} (h : Bits n m M) (hn : n ≤ 12) (hm : m ≤ 12) : Sz M := ⟨by have := h.1; omega, fun r hr => by have := (h.2 r hr).1; omega⟩
theorem law_table_specT {n m : Nat} (hn : n ≤ 12) (hm : m ≤ 12) (hN : N ≤ 900000000) (h : ∀ (M : Mat) (N' : Nat), Bits n m M → N' ≤ N + 145 → R (.lst (M.map fun r => .lst (r.map fun x => .sh (.int x)))) N') : w_law_table [.int (n : Int), .int (m : Int)] N R := by
  refine ⟨rfl, ?_⟩
  sizeOf_list_dec
  refine ⟨by omega, fun md hmd => ?_⟩
  refine bIf_dec (fun hc => ?_) fun hc => ?_
  · refine lcT_rp (n := n) (fun _ => .lst ((List.replicate m (md : Int)).map fun x => .sh (.int x))) (fun R h => by sizeOf_list_dec; exact h) (by omega) (fun i R hi h => ?_) ?_
    · sizeOf_list_dec
      refine ⟨by omega, ?_⟩
      have e : (m : Int).toNat = m := by omega
      rw [e, rep_one, List.map_replicate]
      rw [List.map_replicate] at h
      exact h
    · have hh := h ((List.range n).map fun _ => List.replicate m (md : Int)) (N + 1) ⟨by rw [List.length_map, List.length_range], fun r hr => ?_⟩ (by omega)
      · rw [List.map_map] at hh
        exact hh
      · obtain ⟨_, _, rfl⟩ := List.mem_map.mp hr
        exact ⟨List.length_replicate, fun x hx => by rw [List.eq_of_mem_replicate hx]; omega⟩
  · refine lcT_r1 (n := n) (fun i ts M' => ∃ Ms : Mat, ts = Ms.map (fun r => T.lst (r.map fun x => T.sh (.int x))) ∧ Bits i m Ms ∧ M' ≤ N + 1 + 12 * i) (fun R h => by sizeOf_list_dec; exact h) (by omega) ⟨[], rfl, ⟨rfl, fun _ z => nomatch z⟩, by omega⟩ (fun i ts M' hi hI => ?_) fun ts M' hI => ?_
    · obtain ⟨Ms, rfl, hB, hM⟩ := hI
      sizeOf_list_dec
      refine lcT_r1 (n := m) (fun j es M2 => ∃ r : List Int, es = r.map (fun x => T.sh (.int x)) ∧ r.length = j ∧ (∀ x ∈ r, x = 0 ∨ x = 1) ∧ M2 ≤ M' + j) (fun R h => by sizeOf_list_dec; exact h) (by omega) ⟨[], rfl, rfl, (fun _ z => nomatch z), by omega⟩ (fun j es M2 hj hI => ?_) fun es M2 hI => ?_
      · obtain ⟨r, rfl, hl, hb, hM2⟩ := hI
        sizeOf_list_dec
        refine ⟨by omega, fun c hc => ?_⟩
        obtain ⟨q, hq, hq3⟩ : ∃ q : Nat, (md : Int) % 3 = (q : Int) ∧ q < 3 := ⟨md % 3, by omega, by omega⟩
        rw [hq]
        obtain ⟨v, hv⟩ : ∃ v : Int, atI [PyData.int 1, .int 3, .int 5] (q : Int) = some (.int v) := by
          rcases (by omega : q = 0 ∨ q = 1 ∨ q = 2) with rfl | rfl | rfl
          · exact ⟨1, rfl⟩
          · exact ⟨3, rfl⟩
          · exact ⟨5, rfl⟩
        refine ⟨_, hv, ?_⟩
        sizeOf_list_dec
        refine ⟨r ++ [if decide ((c : Int) < v) = true then 1 else 0], ?_, ?_, fun x hx => ?_, by omega⟩
        · rw [List.map_append]; rfl
        · rw [List.length_append, hl]; rfl
        · rcases List.mem_append.mp hx with hx | hx
          · exact hb x hx
          · rw [List.mem_singleton.mp hx]
            split
            · exact .inr rfl
            · exact .inl rfl
      · obtain ⟨r, rfl, hl, hb, hM2⟩ := hI
        refine ⟨Ms ++ [r], ?_, ⟨?_, fun s hs => ?_⟩, by omega⟩
        · rw [List.map_append]; rfl
        · rw [List.length_append, hB.1]; rfl
        · rcases List.mem_append.mp hs with hs | hs
          · exact hB.2 s hs
          · rw [List.mem_singleton.mp hs]; exact ⟨hl, hb⟩
    · obtain ⟨Ms, rfl, hB, hM⟩ := hI
      exact h Ms _ hB (by omega)
theorem law_table_spec {n m : Nat} (hn : n ≤ 12) (hm : m ≤ 12) (hN : N ≤ 900000000) (h : ∀ (t : T) (M : Mat) (N' : Nat), t.data = tabD true true M → Bits n m M → N' ≤ N + 145 → R t N') : w_law_table [.int (n : Int), .int (m : Int)] N R := law_table_specT hn hm hN fun M N' hB hN' => h _ M N' (tab_data M) hB hN'
end
/-! the law's own shares -/
section
variable {N : Nat} {R : T → Nat → Prop} {parts : Mat} {n m : Nat}
theorem law_shares_spec (hn : n ≤ 12) (hm : m ≤ 12) (hN : N ≤ 900000000) (h : ∀ (t : T) (parts : Mat) (N' : Nat), Shr n m t.data parts → N' ≤ N + 145 → R t N') : w_law_shares [.int (n : Int), .int (m : Int)] N R := by
  refine ⟨rfl, ?_⟩
  sizeOf_list_dec
  refine ⟨by omega, fun md hmd => ?_⟩
  refine bIf_beq (fun hc => ?_) fun hc => ?_
  · exact h _ _ _ (.inl ⟨rfl, rfl⟩) (by omega)
  · obtain ⟨v, hv, hv9⟩ : ∃ v : Nat, atI [PyData.int 3, .int 9] ((md : Int) - 1) = some (.int (v : Int)) ∧ 1 ≤ v ∧ v ≤ 9 := by
      rcases (by omega : md = 1 ∨ md = 2) with rfl | rfl
      · exact ⟨3, rfl, by omega⟩
      · exact ⟨9, rfl, by omega⟩
    refine lcT_r1 (n := m) (fun i ts M' => ∃ Ms : Mat, ts = Ms.map (fun r => T.lst (r.map fun x => T.sh (.int x))) ∧ (Ms.length = i ∧ ∀ r ∈ Ms, r.length = n ∧ ∀ x ∈ r, 1 ≤ x ∧ x ≤ 9) ∧ M' ≤ N + 1 + 12 * i) (fun R h => by sizeOf_list_dec; exact h) (by omega) ⟨[], rfl, ⟨rfl, fun _ z => nomatch z⟩, by omega⟩ (fun i ts M' hi hI => ?_) fun ts M' hI => ?_
    · obtain ⟨Ms, rfl, hB, hM⟩ := hI
      sizeOf_list_dec
      refine lcT_r1 (n := n) (fun j es M2 => ∃ r : List Int, es = r.map (fun x => T.sh (.int x)) ∧ r.length = j ∧ (∀ x ∈ r, 1 ≤ x ∧ x ≤ 9) ∧ M2 ≤ M' + j) (fun R h => by sizeOf_list_dec; exact h) (by omega) ⟨[], rfl, rfl, (fun _ z => nomatch z), by omega⟩ (fun j es M2 hj hI => ?_) fun es M2 hI => ?_
      · obtain ⟨r, rfl, hl, hb, hM2⟩ := hI
        sizeOf_list_dec
        refine ⟨_, hv, ?_⟩
        sizeOf_list_dec
        refine ⟨by omega, fun c hc => ⟨r ++ [1 + (c : Int)], ?_, ?_, fun x hx => ?_, by omega⟩⟩
        · rw [List.map_append]; rfl
        · rw [List.length_append, hl]; rfl
        · rcases List.mem_append.mp hx with z | z
          · exact hb x z
          · rw [List.mem_singleton.mp z]; omega
      · obtain ⟨r, rfl, hl, hb, hM2⟩ := hI
        refine ⟨Ms ++ [r], by rw [List.map_append]; rfl, ⟨by rw [List.length_append, hB.1]; rfl, fun q hq => ?_⟩, by omega⟩
        rcases List.mem_append.mp hq with z | z
        · exact hB.2 q z
        · rw [List.mem_singleton.mp z]; exact ⟨hl, hb⟩
    · obtain ⟨Ms, rfl, hB, hM⟩ := hI
      refine h _ Ms _ (.inr ⟨?_, hB⟩) (by omega)
      rw [tab_data]
end
/-! loops over what is drawn; a number of a table put -/
section
variable {N : Nat} {R : T → Nat → Prop} {n m : Nat}
theorem for_in {α : Type} {ε : Cg.Env} {wg : WG} {ws : WS} {D : EW} (xs : List α) (e : α → PyData) (I : Nat → Cg.Env → Nat → Prop) (h0 : I 0 ε N) (hs : ∀ k x ε M, xs[k]? = some x → I k ε M → wg (e x) ε fun ε2 => ws (D.loop (I (k + 1))) ε2 M) (hd : ∀ ε M, I xs.length ε M → D.nx ε M) :
    ∃ I : Nat → Cg.Env → Nat → Prop, I 0 ε N ∧ (∀ k d ε M, (xs.map e)[k]? = some d → I k ε M → wg d ε fun ε2 => ws { D with nx := I (k + 1), ct := I (k + 1), bk := D.nx } ε2 M) ∧ ∀ ε M, I (xs.map e).length ε M → D.nx ε M := by
  refine ⟨I, h0, fun k d ε M hx hI => ?_, fun ε M hI => hd ε M (by rw [List.length_map] at hI; exact hI)⟩
  rw [List.getElem?_map] at hx
  cases hk : xs[k]? with
  | none => rw [hk] at hx; cases hx
  | some x =>
    rw [hk] at hx
    have ed : e x = d := Option.some.inj hx
    subst ed
    exact hs k x ε M hk hI
theorem for_gen {ε : Cg.Env} {wi : WI} {wg : WG} {ws : WS} {D : EW} (P : List PyData → Nat → Prop) (hw : ∀ R : List PyData → Nat → Prop, (∀ ds N1, P ds N1 → R ds N1) → wi ε N R)
    (h : ∀ ds N1, P ds N1 → ∃ I : Nat → Cg.Env → Nat → Prop, I 0 ε N1 ∧ (∀ k d ε M, ds[k]? = some d → I k ε M → wg d ε fun ε2 => ws { D with nx := I (k + 1), ct := I (k + 1), bk := D.nx } ε2 M) ∧ ∀ ε M, I ds.length ε M → D.nx ε M) : wFor wi wg ws D ε N := hw _ h
theorem set_T {M : Mat} {i j : Nat} {y : Int} {r : List Int} : (M.map fun r => T.lst (r.map fun x => T.sh (.int x))).set i (T.lst ((r.map fun x => T.sh (.int x)).set j (T.sh (.int y)))) = (M.set i (r.set j y)).map fun r => T.lst (r.map fun x => T.sh (.int x)) := by rw [List.map_set, List.map_set]
theorem Bits.put {M : Mat} {i j : Nat} {y : Int} {r : List Int} (h : Bits n m M) (hr : M[i]? = some r) (hy : y = 0 ∨ y = 1) : Bits n m (M.set i (r.set j y)) := ⟨by rw [List.length_set, h.1], fun q hq => by
  rcases List.mem_or_eq_of_mem_set hq with hq | rfl
  · exact h.2 q hq
  · obtain ⟨z1, z2⟩ := h.2 r (List.mem_of_getElem? hr)
    refine ⟨by rw [List.length_set, z1], fun x hx => ?_⟩
    rcases List.mem_or_eq_of_mem_set hx with hx | rfl
    · exact z2 x hx
    · exact hy⟩
end
section
variable {κ : Nat → Addr} {N : Nat} {R : T → Nat → Prop}
theorem turn_bd {a b e c d k K : Nat} (hK : 300150 ≤ K) (h1 : a ≤ e + 300000) (h0 : e = b + 5) (h2 : b ≤ c + 145) (h3 : c ≤ d + K * k) : a ≤ d + K * (k + 1) := by
  rw [Nat.mul_succ]
  omega
theorem law_right_spec0 (hN : N ≤ 100000000) (hR : ∀ N', N' ≤ N + 700000 → R (.sh (.bool true)) N') : w_law_right κ [] N R := by
  refine ⟨rfl, ?_⟩
  sizeOf_list_dec
  refine law_sizes_spec (mx := 6) (by omega) (by omega) (by omega) fun n m n1 n2 m1 m2 => ?_
  unfold pD
  sizeOf_list_dec
  refine law_shares_spec (by omega) (by omega) (by omega) fun pt parts N1 hs hN1 => ?_
  sizeOf_list_dec
  intro x
  refine init_spec n1 (by omega) m1 (by omega) hs ?_
  refine ⟨rfl, _, rfl, ?_⟩
  have g0 : Gst n m parts (List.replicate m (0, 0)) (List.replicate n 0) := ⟨n1, by omega, m1, by omega, hs.ok, ⟨List.length_replicate, fun q hq => by rw [List.eq_of_mem_replicate hq]; exact n1⟩, ⟨List.length_replicate, fun q hq => by rw [List.eq_of_mem_replicate hq]; exact m1⟩⟩
  have ht := tab_data parts
  have hc := cleanM parts
  generalize hT : T.lst (parts.map fun r => T.lst (r.map fun x => .sh (.int x))) = gT at *
  have hgd : ∀ (qs : List Pr) (pl : List Nat), recD (.int ((κ 0 : Nat) : Int)) ns_Grants [.int (n : Int), .int (m : Int), gT.data, .list (T.datas (qs.map fun p => T.sh (pD p))), .list (T.datas (pl.map fun x => T.sh (nD x)))] = grD (κ 0) n m parts qs pl := fun qs pl => grT_data (a := x) ht
  refine for_gen (fun ds N2 => ∃ k : Nat, ds = (List.range k).map (fun k : Nat => PyData.int (k : Int)) ∧ k < 9 ∧ N2 = N1 + 1) (fun R hR => ?_) fun ds N2 hP => ?_
  · unfold wRng1
    sizeOf_list_dec
    refine ⟨by omega, fun k hk => ⟨⟨by omega, by omega⟩, ?_⟩⟩
    refine hR _ _ ⟨k, ?_, by omega, rfl⟩
    unfold rngD
    rw [show (k : Int).toNat = k by omega]
    refine List.map_congr_left fun j _ => ?_
    rw [Int.zero_add]
  obtain ⟨kt, rfl, hkt, rfl⟩ := hP
  refine for_in (List.range kt) (fun k : Nat => PyData.int (k : Int)) (fun q ε M2 => M2 ≤ N1 + 1 + 150 * q ∧ ∃ (qs : List Pr) (pl : List Nat) (x3 : Sl), Gst n m parts qs pl ∧ Cnt m parts qs ∧ ε = [.box, .is (.sh pt.data), .is (grT x (κ 0) n m gT qs pl), x3, .is (.sh (.int (n : Int))), .is (.sh (.int (m : Int))), .no, .no, .no, .no]) ⟨by omega, _, _, _, g0, cnt_0 g0, rfl⟩ (fun q k ε M2 hq hI => ?_) fun ε M2 hI => ?_
  · obtain ⟨hM2, qs, pl, x3, g, hct, rfl⟩ := hI
    sizeOf_list_dec
    have hqk : q < kt := by
      have := (List.getElem?_eq_some_iff.mp hq).1
      rw [List.length_range] at this
      exact this
    refine law_table_spec (by omega) (by omega) (by omega) fun t M N2 ht2 hB hN2 => ?_
    refine ⟨by omega, fun c hc4 => ?_⟩
    have hsz : SzM n m M := ⟨hB.1, fun r hr => (hB.2 r hr).1⟩
    rw [ht2, show (1 : Int) + (c : Int) = ((1 + c : Nat) : Int) by omega]
    refine beat_spec (r := 1 + c) g ht hc hsz (by omega) fun ab hab => ?_
    exact ⟨_, rfl, by omega, _, _, _, beh_gst g, beh_cnt g hsz hct, rfl⟩
  · obtain ⟨hM2, qs, pl, x3, g, hct, rfl⟩ := hI
    rw [List.length_range] at hM2
    sizeOf_list_dec
    refine for_r1 (n := 2) (fun k ε M => M ≤ M2 + 310000 * k ∧ ∃ (qs : List Pr) (pl : List Nat) (x3 x6 x7 x8 x9 : Sl), Gst n m parts qs pl ∧ Cnt m parts qs ∧ ε = [.box, .is (.sh pt.data), .is (grT x (κ 0) n m gT qs pl), x3, .is (.sh (.int (n : Int))), .is (.sh (.int (m : Int))), x6, x7, x8, x9]) (fun R h => by sizeOf_list_dec; exact h) (by omega) ⟨by omega, _, _, _, _, _, _, _, g, hct, rfl⟩ (fun k ε M hk hI => ?_) fun ε M hI => ?_
    · obtain ⟨hM, qs, pl, x3, x6, x7, x8, x9, g, hct, rfl⟩ := hI
      sizeOf_list_dec
      refine law_table_specT (by omega) (by omega) (by omega) fun Mt N3 hB hN3 => ?_
      sizeOf_list_dec
      refine ⟨by omega, fun i0 hi0 => ⟨by omega, fun j0 hj0 => ?_⟩⟩
      obtain ⟨row, hrow⟩ : ∃ row, Mt[i0]? = some row := ⟨_, List.getElem?_eq_getElem (by rw [hB.1]; omega)⟩
      have hrl := (hB.2 row (List.mem_of_getElem? hrow)).1
      refine ⟨i0, ixN_nat (by rw [hB.1]; omega), ?_⟩
      rw [List.getElem?_map, hrow, Option.map_some]
      sizeOf_list_dec
      refine ⟨j0, ixN_nat (by omega), by omega, fun way hway => ⟨by omega, fun c3 hc3 => ?_⟩⟩
      obtain ⟨often, he, ho1, ho2⟩ : ∃ often : Nat, atI [PyData.int 1, .int 2, .int 12] (c3 : Int) = some (.int (often : Int)) ∧ 1 ≤ often ∧ often ≤ 12 := by
        rcases (by omega : c3 = 0 ∨ c3 = 1 ∨ c3 = 2) with rfl | rfl | rfl
        · exact ⟨1, rfl, by omega, by omega⟩
        · exact ⟨2, rfl, by omega, by omega⟩
        · exact ⟨12, rfl, by omega, by omega⟩
      refine ⟨_, he, by omega, fun c2 hc2 al => ?_⟩
      sizeOf_list_dec
      rw [set_T]
      have hB2 := Bits.put (j := j0) hB hrow (.inr (rfl : (1 : Int) = 1))
      refine law_walked_spec (i := i0) (j := j0) (often := often) g hct ht hc (by omega) (by omega) ⟨hB2.1, fun r hr => (hB2.2 r hr).1⟩ (fun r hr => (hB2.2 r hr).2) ?_ (by omega) ⟨ho1, ho2⟩ (by omega) fun qs' pl' N' g' c' hN' => ?_
      · have hil : i0 < Mt.length := by rw [hB.1]; omega
        have hjl : j0 < row.length := by omega
        unfold cell
        rw [List.getD_eq_getElem?_getD (l := Mt.set _ _), List.getElem?_set, if_pos rfl, if_pos hil]
        show (row.set j0 1).getD j0 0 = 1
        rw [List.getD_eq_getElem?_getD, List.getElem?_set, if_pos rfl, if_pos hjl]
        rfl
      · sizeOf_list_dec
        refine ⟨?_, _, _, _, _, _, _, _, g', c', rfl⟩
        exact turn_bd (K := 310000) (by decide) hN' rfl hN3 hM
    · obtain ⟨hM, qs, pl, x3, x6, x7, x8, x9, g, hct, rfl⟩ := hI
      sizeOf_list_dec
      exact hR _ (by omega)
theorem law_right_spec (hN : N ≤ 100000000) : w_law_right κ [] N fun t N' => t.data = .bool true ∧ N' ≤ N + 700000 := law_right_spec0 hN fun N' h => ⟨rfl, h⟩
end
end K23

set_option Elab.async false
set_option linter.all false
set_option maxRecDepth 100000
set_option maxHeartbeats 1000000
namespace K23
open PySem PySem.Spec PyProof.Rows L2 Evl Cg
section
variable {P : Program} {w : World} {K : PySem.W.Frag} {mg : Str → Option Value} {base : Heap} {κ : Nat → Addr}
theorem ok_law {f : Addr} {fd : FuncData} (F : Fun K "law" "law" st_law f fd) (B : Bm mg) {f1 : Addr} {fd1 : FuncData} (d_law_folded : Df P w K mg base 1 "_law_folded" st_law_folded ["_law_script", "_law_size"] f1 fd1 (spFold K)) {f2 : Addr} {fd2 : FuncData} (d_law_box : Df P w K mg base 1 "_law_box" st_law_box ["_law_script", "_law_k"] f2 fd2 (spBox K)) {f3 : Addr} {fd3 : FuncData} (d_law_right : Df P w K mg base 8 "_law_right" st_law_right ["_law_box_here"] f3 fd3 (spRt 100000000 700000)) : FnG P w K mg base 9 f fd ["_law_script"] (spLaw K) := by
  refine fnG F sc_law (fun vs H Q E h => ?_) (fun cv A outer s H vs Q E hg hr h => ?_)
  · obtain ⟨a, ns, rfl, _⟩ := h
    rfl
  · obtain ⟨a, ns, rfl, hS, hl, q⟩ := h
    refine ⟨_, (pss_cons (ps_set (i := 1) sc_law.nd rfl (.inr rfl) (pe_call d_law_folded.G (hr.mono (by omega)) (by rfl) d_law_folded.g d_law_folded.F.kp d_law_folded.b .nil pass0 (pa_cons (pv 0) (pa_cons pe_int pa_nil))))
 (pss_one (ps_ret (pe_callB (allK K) (by rfl) B.all (by decide +kernel) (pa_cons (pe_lc (own := [("_law_k", 2)]) rfl sc_law.nd (pi_range1 (by rfl) B.range (pa_cons (pe_callB (call_max2 rfl) (by rfl) B.max (by decide +kernel) (pa_cons pe_int (pa_cons (pe_callB (lenK K) (by rfl) B.len (by decide +kernel) (pa_cons (pv 1) pa_nil)) pa_nil))) pa_nil)) (blkOk_by (own := [("_law_k", 2)]) (by kernel_rfl)) (fun _ _ _ _ _ => (pg_name (i := 2) sc_law.nd rfl (.inl rfl))) (fun _ _ _ _ _ => pts_nil) (fun _ _ _ _ _ => (pe_call d_law_right.G (hr.mono (by omega)) (by rfl) d_law_right.g d_law_right.F.kp d_law_right.b .nil pass0 (pa_cons (pe_call d_law_box.G (hr.mono (by omega)) (by rfl) d_law_box.g d_law_box.F.kp d_law_box.b .nil pass0 (pa_cons (pv 1) (pa_cons (pv 2) pa_nil))) pa_nil)))) pa_nil))))), ?_⟩
    refine ⟨.ref a, rfl, a, ns, 3, rfl, hS, by decide, by decide, by omega, fun l ms H1 e1 nl hl1 hlen => ?_⟩
    exact law_comp (s := 1) (j := 2) (ms := ms) (ev_maxN (m := 2) rfl (SqL.of hl1)) (by rw [List.length_map]; omega) rfl (by decide) (by show _ < 3; decide) (fun H' e => SqL.of (e _ _ hl1)) (fun H' => q H')
end
theorem all_mk {l : PySem.W.OpenLaw} {w : World} {K : PySem.W.Frag} {h : Heap} {mg : Str → Option Value} {fa : Addr} (X : K.In h) (G : h.Ns mainGlobals mg) (hfa : mg "law" = some (.ref fa))
    {C_Grants : Addr}
    {f0 : Addr} {od0 an0 : Option Addr} {sl0 : Array (Option Value)} {oc0 kV0 dc0 pm0 cd0 ct0 : Value}
    {f1 : Addr} {od1 an1 : Option Addr} {sl1 : Array (Option Value)} {oc1 kV1 dc1 pm1 cd1 ct1 : Value}
    {f2 : Addr} {od2 an2 : Option Addr} {sl2 : Array (Option Value)} {oc2 kV2 dc2 pm2 cd2 ct2 : Value}
    {f3 : Addr} {od3 an3 : Option Addr} {sl3 : Array (Option Value)} {oc3 kV3 dc3 pm3 cd3 ct3 : Value}
    {f4 : Addr} {od4 an4 : Option Addr} {sl4 : Array (Option Value)} {oc4 kV4 dc4 pm4 cd4 ct4 : Value}
    {f5 : Addr} {od5 an5 : Option Addr} {sl5 : Array (Option Value)} {oc5 kV5 dc5 pm5 cd5 ct5 : Value}
    {f6 : Addr} {od6 an6 : Option Addr} {sl6 : Array (Option Value)} {oc6 kV6 dc6 pm6 cd6 ct6 : Value}
    {f7 : Addr} {od7 an7 : Option Addr} {sl7 : Array (Option Value)} {oc7 kV7 dc7 pm7 cd7 ct7 : Value}
    {f8 : Addr} {od8 an8 : Option Addr} {sl8 : Array (Option Value)} {oc8 kV8 dc8 pm8 cd8 ct8 : Value}
    {f9 : Addr} {od9 an9 : Option Addr} {sl9 : Array (Option Value)} {oc9 kV9 dc9 pm9 cd9 ct9 : Value}
    {f10 : Addr} {od10 an10 : Option Addr} {sl10 : Array (Option Value)} {oc10 kV10 dc10 pm10 cd10 ct10 : Value}
    {f11 : Addr} {od11 an11 : Option Addr} {sl11 : Array (Option Value)} {oc11 kV11 dc11 pm11 cd11 ct11 : Value}
    {f12 : Addr} {od12 an12 : Option Addr} {sl12 : Array (Option Value)} {oc12 kV12 dc12 pm12 cd12 ct12 : Value}
    {f13 : Addr} {od13 an13 : Option Addr} {sl13 : Array (Option Value)} {oc13 kV13 dc13 pm13 cd13 ct13 : Value}
    {f14 : Addr} {od14 an14 : Option Addr} {sl14 : Array (Option Value)} {oc14 kV14 dc14 pm14 cd14 ct14 : Value}
    {f15 : Addr} {od15 an15 : Option Addr} {sl15 : Array (Option Value)} {oc15 kV15 dc15 pm15 cd15 ct15 : Value}
    {f16 : Addr} {od16 an16 : Option Addr} {sl16 : Array (Option Value)} {oc16 kV16 dc16 pm16 cd16 ct16 : Value}
    {f17 : Addr} {od17 an17 : Option Addr} {sl17 : Array (Option Value)} {oc17 kV17 dc17 pm17 cd17 ct17 : Value}
    {f18 : Addr} {od18 an18 : Option Addr} {sl18 : Array (Option Value)} {oc18 kV18 dc18 pm18 cd18 ct18 : Value}
    {f19 : Addr} {od19 an19 : Option Addr} {sl19 : Array (Option Value)} {oc19 kV19 dc19 pm19 cd19 ct19 : Value}
    {f20 : Addr} {od20 an20 : Option Addr} {sl20 : Array (Option Value)} {oc20 kV20 dc20 pm20 cd20 ct20 : Value}
    {f21 : Addr} {od21 an21 : Option Addr} {sl21 : Array (Option Value)} {oc21 kV21 dc21 pm21 cd21 ct21 : Value}
    {f22 : Addr} {od22 an22 : Option Addr} {sl22 : Array (Option Value)} {oc22 kV22 dc22 pm22 cd22 ct22 : Value}
    {f23 : Addr} {od23 an23 : Option Addr} {sl23 : Array (Option Value)} {oc23 kV23 dc23 pm23 cd23 ct23 : Value}
    {f24 : Addr} {od24 an24 : Option Addr} {sl24 : Array (Option Value)} {oc24 kV24 dc24 pm24 cd24 ct24 : Value}
    {f25 : Addr} {od25 an25 : Option Addr} {sl25 : Array (Option Value)} {oc25 kV25 dc25 pm25 cd25 ct25 : Value}
    {f26 : Addr} {od26 an26 : Option Addr} {sl26 : Array (Option Value)} {oc26 kV26 dc26 pm26 cd26 ct26 : Value}
    {f27 : Addr} {od27 an27 : Option Addr} {sl27 : Array (Option Value)} {oc27 kV27 dc27 pm27 cd27 ct27 : Value}
    {f28 : Addr} {od28 an28 : Option Addr} {sl28 : Array (Option Value)} {oc28 kV28 dc28 pm28 cd28 ct28 : Value}
    {f29 : Addr} {od29 an29 : Option Addr} {sl29 : Array (Option Value)} {oc29 kV29 dc29 pm29 cd29 ct29 : Value}
    {f30 : Addr} {od30 an30 : Option Addr} {sl30 : Array (Option Value)} {oc30 kV30 dc30 pm30 cd30 ct30 : Value}
    {f31 : Addr} {od31 an31 : Option Addr} {sl31 : Array (Option Value)} {oc31 kV31 dc31 pm31 cd31 ct31 : Value}
    {f32 : Addr} {od32 an32 : Option Addr} {sl32 : Array (Option Value)} {oc32 kV32 dc32 pm32 cd32 ct32 : Value}
    {f33 : Addr} {od33 an33 : Option Addr} {sl33 : Array (Option Value)} {oc33 kV33 dc33 pm33 cd33 ct33 : Value}
    {f34 : Addr} {od34 an34 : Option Addr} {sl34 : Array (Option Value)} {oc34 kV34 dc34 pm34 cd34 ct34 : Value}
    {f35 : Addr} {od35 an35 : Option Addr} {sl35 : Array (Option Value)} {oc35 kV35 dc35 pm35 cd35 ct35 : Value}
    {f36 : Addr} {od36 an36 : Option Addr} {sl36 : Array (Option Value)} {oc36 kV36 dc36 pm36 cd36 ct36 : Value}
    {f37 : Addr} {od37 an37 : Option Addr} {sl37 : Array (Option Value)} {oc37 kV37 dc37 pm37 cd37 ct37 : Value}
    {f38 : Addr} {od38 an38 : Option Addr} {sl38 : Array (Option Value)} {oc38 kV38 dc38 pm38 cd38 ct38 : Value}
    {f39 : Addr} {od39 an39 : Option Addr} {sl39 : Array (Option Value)} {oc39 kV39 dc39 pm39 cd39 ct39 : Value}
    {f40 : Addr} {od40 an40 : Option Addr} {sl40 : Array (Option Value)} {oc40 kV40 dc40 pm40 cd40 ct40 : Value}
    {f41 : Addr} {od41 an41 : Option Addr} {sl41 : Array (Option Value)} {oc41 kV41 dc41 pm41 cd41 ct41 : Value}
    {f42 : Addr} {od42 an42 : Option Addr} {sl42 : Array (Option Value)} {oc42 kV42 dc42 pm42 cd42 ct42 : Value}
    {tk0 : Tok}
    {tk1 : Tok}
    {tk2 : Tok}
    (aC_Grants : PySem.W.nsIn K mainGlobals "Grants" = some (some (.ref C_Grants)))
    (pg_Grants : PySem.W.plainGet K C_Grants Str.empty = true)
    (hd_Grants : PySem.W.hasDictIn K C_Grants = true)
    (po_Grants : PySem.W.plainOver K C_Grants = true)
    (sa_Grants : PySem.W.findIn K (.ref C_Grants) "__setattr__" = some (some (.builtin "object.__setattr__")))
    (mk_Grants : PySem.W.makesIn K C_Grants = true)
    (kc_Grants : PySem.W.keepIn K (.ref C_Grants) = true)
    (n_Grants_inlets : PySem.W.findIn K (.ref C_Grants) "inlets" = some none)
    (n_Grants_outlets : PySem.W.findIn K (.ref C_Grants) "outlets" = some none)
    (n_Grants_shares : PySem.W.findIn K (.ref C_Grants) "shares" = some none)
    (n_Grants_outlet_pointers : PySem.W.findIn K (.ref C_Grants) "outlet_pointers" = some none)
    (n_Grants_inlet_places : PySem.W.findIn K (.ref C_Grants) "inlet_places" = some none)
    (a0 : PySem.W.nsIn K mainGlobals "is_number" = some (some (.ref f0)))
    (l0 : K.lookup f0 = some ⟨oc0, od0, .func (PySem.W.fnOf "is_number" "is_number" (defArgs st_is_number) (defBody st_is_number) (defScope st_is_number) .none kV0 dc0 pm0 an0 cd0 ct0), sl0⟩) (c0 : PySem.W.codeIn K cd0 "is_number" = true) (k0 : PySem.W.keepIn K (.ref f0) = true)
    (a1 : PySem.W.nsIn K mainGlobals "is_between" = some (some (.ref f1)))
    (l1 : K.lookup f1 = some ⟨oc1, od1, .func (PySem.W.fnOf "is_between" "is_between" (defArgs st_is_between) (defBody st_is_between) (defScope st_is_between) .none kV1 dc1 pm1 an1 cd1 ct1), sl1⟩) (c1 : PySem.W.codeIn K cd1 "is_between" = true) (k1 : PySem.W.keepIn K (.ref f1) = true)
    (a2 : PySem.W.nsIn K mainGlobals "is_place" = some (some (.ref f2)))
    (l2 : K.lookup f2 = some ⟨oc2, od2, .func (PySem.W.fnOf "is_place" "is_place" (defArgs st_is_place) (defBody st_is_place) (defScope st_is_place) .none kV2 dc2 pm2 an2 cd2 ct2), sl2⟩) (c2 : PySem.W.codeIn K cd2 "is_place" = true) (k2 : PySem.W.keepIn K (.ref f2) = true)
    (a3 : PySem.W.nsIn K mainGlobals "is_list_or_tuple" = some (some (.ref f3)))
    (l3 : K.lookup f3 = some ⟨oc3, od3, .func (PySem.W.fnOf "is_list_or_tuple" "is_list_or_tuple" (defArgs st_is_list_or_tuple) (defBody st_is_list_or_tuple) (defScope st_is_list_or_tuple) .none kV3 dc3 pm3 an3 cd3 ct3), sl3⟩) (c3 : PySem.W.codeIn K cd3 "is_list_or_tuple" = true) (k3 : PySem.W.keepIn K (.ref f3) = true)
    (a4 : PySem.W.nsIn K mainGlobals "is_size" = some (some (.ref f4)))
    (l4 : K.lookup f4 = some ⟨oc4, od4, .func (PySem.W.fnOf "is_size" "is_size" (defArgs st_is_size) (defBody st_is_size) (defScope st_is_size) .none kV4 dc4 pm4 an4 cd4 ct4), sl4⟩) (c4 : PySem.W.codeIn K cd4 "is_size" = true) (k4 : PySem.W.keepIn K (.ref f4) = true)
    (a5 : PySem.W.nsIn K mainGlobals "outlets_in" = some (some (.ref f5)))
    (l5 : K.lookup f5 = some ⟨oc5, od5, .func (PySem.W.fnOf "outlets_in" "outlets_in" (defArgs st_outlets_in) (defBody st_outlets_in) (defScope st_outlets_in) .none kV5 dc5 pm5 an5 cd5 ct5), sl5⟩) (c5 : PySem.W.codeIn K cd5 "outlets_in" = true) (k5 : PySem.W.keepIn K (.ref f5) = true)
    (a6 : PySem.W.nsIn K mainGlobals "turned" = some (some (.ref f6)))
    (l6 : K.lookup f6 = some ⟨oc6, od6, .func (PySem.W.fnOf "turned" "turned" (defArgs st_turned) (defBody st_turned) (defScope st_turned) .none kV6 dc6 pm6 an6 cd6 ct6), sl6⟩) (c6 : PySem.W.codeIn K cd6 "turned" = true) (k6 : PySem.W.keepIn K (.ref f6) = true)
    (a7 : PySem.W.nsIn K mainGlobals "left_out" = some (some (.ref f7)))
    (l7 : K.lookup f7 = some ⟨oc7, od7, .func (PySem.W.fnOf "left_out" "left_out" (defArgs st_left_out) (defBody st_left_out) (defScope st_left_out) .none kV7 dc7 pm7 an7 cd7 ct7), sl7⟩) (c7 : PySem.W.codeIn K cd7 "left_out" = true) (k7 : PySem.W.keepIn K (.ref f7) = true)
    (a8 : PySem.W.nsIn K mainGlobals "is_ask" = some (some (.ref f8)))
    (l8 : K.lookup f8 = some ⟨oc8, od8, .func (PySem.W.fnOf "is_ask" "is_ask" (defArgs st_is_ask) (defBody st_is_ask) (defScope st_is_ask) .none kV8 dc8 pm8 an8 cd8 ct8), sl8⟩) (c8 : PySem.W.codeIn K cd8 "is_ask" = true) (k8 : PySem.W.keepIn K (.ref f8) = true)
    (a9 : PySem.W.nsIn K mainGlobals "inlets_of" = some (some (.ref f9)))
    (l9 : K.lookup f9 = some ⟨oc9, od9, .func (PySem.W.fnOf "inlets_of" "inlets_of" (defArgs st_inlets_of) (defBody st_inlets_of) (defScope st_inlets_of) .none kV9 dc9 pm9 an9 cd9 ct9), sl9⟩) (c9 : PySem.W.codeIn K cd9 "inlets_of" = true) (k9 : PySem.W.keepIn K (.ref f9) = true)
    (a10 : PySem.W.nsIn K mainGlobals "outlets_of" = some (some (.ref f10)))
    (l10 : K.lookup f10 = some ⟨oc10, od10, .func (PySem.W.fnOf "outlets_of" "outlets_of" (defArgs st_outlets_of) (defBody st_outlets_of) (defScope st_outlets_of) .none kV10 dc10 pm10 an10 cd10 ct10), sl10⟩) (c10 : PySem.W.codeIn K cd10 "outlets_of" = true) (k10 : PySem.W.keepIn K (.ref f10) = true)
    (a11 : PySem.W.nsIn K mainGlobals "asks_left" = some (some (.ref f11)))
    (l11 : K.lookup f11 = some ⟨oc11, od11, .func (PySem.W.fnOf "asks_left" "asks_left" (defArgs st_asks_left) (defBody st_asks_left) (defScope st_asks_left) .none kV11 dc11 pm11 an11 cd11 ct11), sl11⟩) (c11 : PySem.W.codeIn K cd11 "asks_left" = true) (k11 : PySem.W.keepIn K (.ref f11) = true)
    (a12 : PySem.W.nsIn K mainGlobals "first_from" = some (some (.ref f12)))
    (l12 : K.lookup f12 = some ⟨oc12, od12, .func (PySem.W.fnOf "first_from" "first_from" (defArgs st_first_from) (defBody st_first_from) (defScope st_first_from) .none kV12 dc12 pm12 an12 cd12 ct12), sl12⟩) (c12 : PySem.W.codeIn K cd12 "first_from" = true) (k12 : PySem.W.keepIn K (.ref f12) = true)
    (a13 : PySem.W.nsIn K mainGlobals "granted" = some (some (.ref f13)))
    (l13 : K.lookup f13 = some ⟨oc13, od13, .func (PySem.W.fnOf "granted" "granted" (defArgs st_granted) (defBody st_granted) (defScope st_granted) .none kV13 dc13 pm13 an13 cd13 ct13), sl13⟩) (c13 : PySem.W.codeIn K cd13 "granted" = true) (k13 : PySem.W.keepIn K (.ref f13) = true)
    (a14 : PySem.W.nsIn K mainGlobals "accepted" = some (some (.ref f14)))
    (l14 : K.lookup f14 = some ⟨oc14, od14, .func (PySem.W.fnOf "accepted" "accepted" (defArgs st_accepted) (defBody st_accepted) (defScope st_accepted) .none kV14 dc14 pm14 an14 cd14 ct14), sl14⟩) (c14 : PySem.W.codeIn K cd14 "accepted" = true) (k14 : PySem.W.keepIn K (.ref f14) = true)
    (a15 : PySem.W.nsIn K mainGlobals "passed" = some (some (.ref f15)))
    (l15 : K.lookup f15 = some ⟨oc15, od15, .func (PySem.W.fnOf "passed" "passed" (defArgs st_passed) (defBody st_passed) (defScope st_passed) .none kV15 dc15 pm15 an15 cd15 ct15), sl15⟩) (c15 : PySem.W.codeIn K cd15 "passed" = true) (k15 : PySem.W.keepIn K (.ref f15) = true)
    (a16 : PySem.W.nsIn K mainGlobals "steps_to" = some (some (.ref f16)))
    (l16 : K.lookup f16 = some ⟨oc16, od16, .func (PySem.W.fnOf "steps_to" "steps_to" (defArgs st_steps_to) (defBody st_steps_to) (defScope st_steps_to) .none kV16 dc16 pm16 an16 cd16 ct16), sl16⟩) (c16 : PySem.W.codeIn K cd16 "steps_to" = true) (k16 : PySem.W.keepIn K (.ref f16) = true)
    (a17 : PySem.W.nsIn K mainGlobals "ahead_of" = some (some (.ref f17)))
    (l17 : K.lookup f17 = some ⟨oc17, od17, .func (PySem.W.fnOf "ahead_of" "ahead_of" (defArgs st_ahead_of) (defBody st_ahead_of) (defScope st_ahead_of) .none kV17 dc17 pm17 an17 cd17 ct17), sl17⟩) (c17 : PySem.W.codeIn K cd17 "ahead_of" = true) (k17 : PySem.W.keepIn K (.ref f17) = true)
    (a18 : PySem.W.nsIn K mainGlobals "left_of" = some (some (.ref f18)))
    (l18 : K.lookup f18 = some ⟨oc18, od18, .func (PySem.W.fnOf "left_of" "left_of" (defArgs st_left_of) (defBody st_left_of) (defScope st_left_of) .none kV18 dc18 pm18 an18 cd18 ct18), sl18⟩) (c18 : PySem.W.codeIn K cd18 "left_of" = true) (k18 : PySem.W.keepIn K (.ref f18) = true)
    (a19 : PySem.W.nsIn K mainGlobals "within" = some (some (.ref f19)))
    (l19 : K.lookup f19 = some ⟨oc19, od19, .func (PySem.W.fnOf "within" "within" (defArgs st_within) (defBody st_within) (defScope st_within) .none kV19 dc19 pm19 an19 cd19 ct19), sl19⟩) (c19 : PySem.W.codeIn K cd19 "within" = true) (k19 : PySem.W.keepIn K (.ref f19) = true)
    (a20 : PySem.W.nsIn K mainGlobals "is_share" = some (some (.ref f20)))
    (l20 : K.lookup f20 = some ⟨oc20, od20, .func (PySem.W.fnOf "is_share" "is_share" (defArgs st_is_share) (defBody st_is_share) (defScope st_is_share) .none kV20 dc20 pm20 an20 cd20 ct20), sl20⟩) (c20 : PySem.W.codeIn K cd20 "is_share" = true) (k20 : PySem.W.keepIn K (.ref f20) = true)
    (a21 : PySem.W.nsIn K mainGlobals "are_shares" = some (some (.ref f21)))
    (l21 : K.lookup f21 = some ⟨oc21, od21, .func (PySem.W.fnOf "are_shares" "are_shares" (defArgs st_are_shares) (defBody st_are_shares) (defScope st_are_shares) .none kV21 dc21 pm21 an21 cd21 ct21), sl21⟩) (c21 : PySem.W.codeIn K cd21 "are_shares" = true) (k21 : PySem.W.keepIn K (.ref f21) = true)
    (a22 : PySem.W.nsIn K mainGlobals "shares_for" = some (some (.ref f22)))
    (l22 : K.lookup f22 = some ⟨oc22, od22, .func (PySem.W.fnOf "shares_for" "shares_for" (defArgs st_shares_for) (defBody st_shares_for) (defScope st_shares_for) .none kV22 dc22 pm22 an22 cd22 ct22), sl22⟩) (c22 : PySem.W.codeIn K cd22 "shares_for" = true) (k22 : PySem.W.keepIn K (.ref f22) = true)
    (a23 : PySem.W.nsIn K mainGlobals "grants_by" = some (some (.ref f23)))
    (l23 : K.lookup f23 = some ⟨oc23, od23, .func (PySem.W.fnOf "grants_by" "grants_by" (defArgs st_grants_by) (defBody st_grants_by) (defScope st_grants_by) .none kV23 dc23 pm23 an23 cd23 ct23), sl23⟩) (c23 : PySem.W.codeIn K cd23 "grants_by" = true) (k23 : PySem.W.keepIn K (.ref f23) = true)
    (a24 : PySem.W.nsIn K mainGlobals "accepts_by" = some (some (.ref f24)))
    (l24 : K.lookup f24 = some ⟨oc24, od24, .func (PySem.W.fnOf "accepts_by" "accepts_by" (defArgs st_accepts_by) (defBody st_accepts_by) (defScope st_accepts_by) .none kV24 dc24 pm24 an24 cd24 ct24), sl24⟩) (c24 : PySem.W.codeIn K cd24 "accepts_by" = true) (k24 : PySem.W.keepIn K (.ref f24) = true)
    (a25 : PySem.W.nsIn K mainGlobals "pairs_by" = some (some (.ref f25)))
    (l25 : K.lookup f25 = some ⟨oc25, od25, .func (PySem.W.fnOf "pairs_by" "pairs_by" (defArgs st_pairs_by) (defBody st_pairs_by) (defScope st_pairs_by) .none kV25 dc25 pm25 an25 cd25 ct25), sl25⟩) (c25 : PySem.W.codeIn K cd25 "pairs_by" = true) (k25 : PySem.W.keepIn K (.ref f25) = true)
    (a26 : PySem.W.findIn K (.ref C_Grants) "__init__" = some (some (.ref f26))) (i26 : PySem.W.isFn K (.ref f26) = true)
    (l26 : K.lookup f26 = some ⟨oc26, od26, .func (PySem.W.fnOf "__init__" "Grants.__init__" (defArgs st_Grants_init) (defBody st_Grants_init) (defScope st_Grants_init) .none kV26 dc26 pm26 an26 cd26 ct26), sl26⟩) (c26 : PySem.W.codeIn K cd26 "Grants.__init__" = true) (k26 : PySem.W.keepIn K (.ref f26) = true)
    (a27 : PySem.W.findIn K (.ref C_Grants) "beat" = some (some (.ref f27))) (i27 : PySem.W.isFn K (.ref f27) = true)
    (l27 : K.lookup f27 = some ⟨oc27, od27, .func (PySem.W.fnOf "beat" "Grants.beat" (defArgs st_Grants_beat) (defBody st_Grants_beat) (defScope st_Grants_beat) .none kV27 dc27 pm27 an27 cd27 ct27), sl27⟩) (c27 : PySem.W.codeIn K cd27 "Grants.beat" = true) (k27 : PySem.W.keepIn K (.ref f27) = true)
    (a28 : PySem.W.findIn K (.ref C_Grants) "turn" = some (some (.ref f28))) (i28 : PySem.W.isFn K (.ref f28) = true)
    (l28 : K.lookup f28 = some ⟨oc28, od28, .func (PySem.W.fnOf "turn" "Grants.turn" (defArgs st_Grants_turn) (defBody st_Grants_turn) (defScope st_Grants_turn) .none kV28 dc28 pm28 an28 cd28 ct28), sl28⟩) (c28 : PySem.W.codeIn K cd28 "Grants.turn" = true) (k28 : PySem.W.keepIn K (.ref f28) = true)
    (a29 : PySem.W.findIn K (.ref C_Grants) "pointers" = some (some (.ref f29))) (i29 : PySem.W.isFn K (.ref f29) = true)
    (l29 : K.lookup f29 = some ⟨oc29, od29, .func (PySem.W.fnOf "pointers" "Grants.pointers" (defArgs st_Grants_pointers) (defBody st_Grants_pointers) (defScope st_Grants_pointers) .none kV29 dc29 pm29 an29 cd29 ct29), sl29⟩) (c29 : PySem.W.codeIn K cd29 "Grants.pointers" = true) (k29 : PySem.W.keepIn K (.ref f29) = true)
    (a30 : PySem.W.findIn K (.ref C_Grants) "places" = some (some (.ref f30))) (i30 : PySem.W.isFn K (.ref f30) = true)
    (l30 : K.lookup f30 = some ⟨oc30, od30, .func (PySem.W.fnOf "places" "Grants.places" (defArgs st_Grants_places) (defBody st_Grants_places) (defScope st_Grants_places) .none kV30 dc30 pm30 an30 cd30 ct30), sl30⟩) (c30 : PySem.W.codeIn K cd30 "Grants.places" = true) (k30 : PySem.W.keepIn K (.ref f30) = true)
    (a31 : PySem.W.nsIn K mainGlobals "_law_box" = some (some (.ref f31)))
    (l31 : K.lookup f31 = some ⟨oc31, od31, .func (PySem.W.fnOf "_law_box" "_law_box" (defArgs st_law_box) (defBody st_law_box) (defScope st_law_box) .none kV31 dc31 pm31 an31 cd31 ct31), sl31⟩) (c31 : PySem.W.codeIn K cd31 "_law_box" = true) (k31 : PySem.W.keepIn K (.ref f31) = true)
    (a32 : PySem.W.nsIn K mainGlobals "_law_take" = some (some (.ref f32)))
    (l32 : K.lookup f32 = some ⟨oc32, od32, .func (PySem.W.fnOf "_law_take" "_law_take" (defArgs st_law_take) (defBody st_law_take) (defScope st_law_take) .none kV32 dc32 pm32 an32 cd32 ct32), sl32⟩) (c32 : PySem.W.codeIn K cd32 "_law_take" = true) (k32 : PySem.W.keepIn K (.ref f32) = true)
    (a33 : PySem.W.nsIn K mainGlobals "_law_folded" = some (some (.ref f33)))
    (l33 : K.lookup f33 = some ⟨oc33, od33, .func (PySem.W.fnOf "_law_folded" "_law_folded" (defArgs st_law_folded) (defBody st_law_folded) (defScope st_law_folded) .none kV33 dc33 pm33 an33 cd33 ct33), sl33⟩) (c33 : PySem.W.codeIn K cd33 "_law_folded" = true) (k33 : PySem.W.keepIn K (.ref f33) = true)
    (a34 : PySem.W.nsIn K mainGlobals "_law_sizes" = some (some (.ref f34)))
    (l34 : K.lookup f34 = some ⟨oc34, od34, .func (PySem.W.fnOf "_law_sizes" "_law_sizes" (defArgs st_law_sizes) (defBody st_law_sizes) (defScope st_law_sizes) .none kV34 dc34 pm34 an34 cd34 ct34), sl34⟩) (c34 : PySem.W.codeIn K cd34 "_law_sizes" = true) (k34 : PySem.W.keepIn K (.ref f34) = true)
    (a35 : PySem.W.nsIn K mainGlobals "_law_table" = some (some (.ref f35)))
    (l35 : K.lookup f35 = some ⟨oc35, od35, .func (PySem.W.fnOf "_law_table" "_law_table" (defArgs st_law_table) (defBody st_law_table) (defScope st_law_table) .none kV35 dc35 pm35 an35 cd35 ct35), sl35⟩) (c35 : PySem.W.codeIn K cd35 "_law_table" = true) (k35 : PySem.W.keepIn K (.ref f35) = true)
    (a36 : PySem.W.nsIn K mainGlobals "_law_shares" = some (some (.ref f36)))
    (l36 : K.lookup f36 = some ⟨oc36, od36, .func (PySem.W.fnOf "_law_shares" "_law_shares" (defArgs st_law_shares) (defBody st_law_shares) (defScope st_law_shares) .none kV36 dc36 pm36 an36 cd36 ct36), sl36⟩) (c36 : PySem.W.codeIn K cd36 "_law_shares" = true) (k36 : PySem.W.keepIn K (.ref f36) = true)
    (a37 : PySem.W.nsIn K mainGlobals "_law_next_table" = some (some (.ref f37)))
    (l37 : K.lookup f37 = some ⟨oc37, od37, .func (PySem.W.fnOf "_law_next_table" "_law_next_table" (defArgs st_law_next_table) (defBody st_law_next_table) (defScope st_law_next_table) .none kV37 dc37 pm37 an37 cd37 ct37), sl37⟩) (c37 : PySem.W.codeIn K cd37 "_law_next_table" = true) (k37 : PySem.W.keepIn K (.ref f37) = true)
    (a38 : PySem.W.nsIn K mainGlobals "_law_nearest" = some (some (.ref f38)))
    (l38 : K.lookup f38 = some ⟨oc38, od38, .func (PySem.W.fnOf "_law_nearest" "_law_nearest" (defArgs st_law_nearest) (defBody st_law_nearest) (defScope st_law_nearest) .none kV38 dc38 pm38 an38 cd38 ct38), sl38⟩) (c38 : PySem.W.codeIn K cd38 "_law_nearest" = true) (k38 : PySem.W.keepIn K (.ref f38) = true)
    (a39 : PySem.W.nsIn K mainGlobals "_law_late_ones" = some (some (.ref f39)))
    (l39 : K.lookup f39 = some ⟨oc39, od39, .func (PySem.W.fnOf "_law_late_ones" "_law_late_ones" (defArgs st_law_late_ones) (defBody st_law_late_ones) (defScope st_law_late_ones) .none kV39 dc39 pm39 an39 cd39 ct39), sl39⟩) (c39 : PySem.W.codeIn K cd39 "_law_late_ones" = true) (k39 : PySem.W.keepIn K (.ref f39) = true)
    (a40 : PySem.W.nsIn K mainGlobals "_law_walked" = some (some (.ref f40)))
    (l40 : K.lookup f40 = some ⟨oc40, od40, .func (PySem.W.fnOf "_law_walked" "_law_walked" (defArgs st_law_walked) (defBody st_law_walked) (defScope st_law_walked) .none kV40 dc40 pm40 an40 cd40 ct40), sl40⟩) (c40 : PySem.W.codeIn K cd40 "_law_walked" = true) (k40 : PySem.W.keepIn K (.ref f40) = true)
    (a41 : PySem.W.nsIn K mainGlobals "_law_right" = some (some (.ref f41)))
    (l41 : K.lookup f41 = some ⟨oc41, od41, .func (PySem.W.fnOf "_law_right" "_law_right" (defArgs st_law_right) (defBody st_law_right) (defScope st_law_right) .none kV41 dc41 pm41 an41 cd41 ct41), sl41⟩) (c41 : PySem.W.codeIn K cd41 "_law_right" = true) (k41 : PySem.W.keepIn K (.ref f41) = true)
    (a42 : PySem.W.nsIn K mainGlobals "law" = some (some (.ref f42)))
    (l42 : K.lookup f42 = some ⟨oc42, od42, .func (PySem.W.fnOf "law" "law" (defArgs st_law) (defBody st_law) (defScope st_law) .none kV42 dc42 pm42 an42 cd42 ct42), sl42⟩) (c42 : PySem.W.codeIn K cd42 "law" = true) (k42 : PySem.W.keepIn K (.ref f42) = true)
    (v0 : PySem.W.nsIn K mainGlobals "MOST_PLACES" = some (some (.int 12 tk0)))
    (v1 : PySem.W.nsIn K mainGlobals "ROUNDS" = some (some (.int 4 tk1)))
    (v2 : PySem.W.nsIn K mainGlobals "MOST_SHARE" = some (some (.int 9 tk2)))
    (z0 : PySem.W.nsIn K mainGlobals "int" = some none)
    (z1 : PySem.W.nsIn K mainGlobals "bool" = some none)
    (z2 : PySem.W.nsIn K mainGlobals "list" = some none)
    (z3 : PySem.W.nsIn K mainGlobals "tuple" = some none)
    (z4 : PySem.W.nsIn K mainGlobals "str" = some none)
    (z5 : PySem.W.nsIn K mainGlobals "len" = some none)
    (z6 : PySem.W.nsIn K mainGlobals "all" = some none)
    (z7 : PySem.W.nsIn K mainGlobals "isinstance" = some none)
    (z8 : PySem.W.nsIn K mainGlobals "range" = some none)
    (z9 : PySem.W.nsIn K mainGlobals "enumerate" = some none)
    (z10 : PySem.W.nsIn K mainGlobals "zip" = some none)
    (z11 : PySem.W.nsIn K mainGlobals "repr" = some none)
    (z12 : PySem.W.nsIn K mainGlobals "abs" = some none)
    (z13 : PySem.W.nsIn K mainGlobals "min" = some none)
    (z14 : PySem.W.nsIn K mainGlobals "max" = some none)
    (z15 : PySem.W.nsIn K mainGlobals "divmod" = some none)
    (z16 : PySem.W.nsIn K mainGlobals "sum" = some none)
    (z17 : PySem.W.nsIn K mainGlobals "sorted" = some none)
    (z18 : PySem.W.nsIn K mainGlobals "any" = some none)
    (z19 : PySem.W.nsIn K mainGlobals "set" = some none)
    (z20 : PySem.W.nsIn K mainGlobals "reversed" = some none)
    (z21 : PySem.W.nsIn K mainGlobals "dict" = some none) :
    ∃ fd : FuncData, (∀ (s : Shared) (v : Value), BindsTo s fd ⟨[v], []⟩ [("_law_script", v)]) ∧ ∀ base : Heap, K.In base → base.Ns mainGlobals mg → FnG l.prog w K mg base 9 fa fd ["_law_script"] (spLaw K) := by
  have e := hfa.symm.trans (PySem.W.mg_of X G a42)
  cases e
  have c_Grants : Cls K C_Grants := ⟨pg_Grants, hd_Grants, po_Grants, sa_Grants⟩
  have g_Grants := PySem.W.mg_of X G aC_Grants
  have F_is_number := fun_mk (st := st_is_number) l0 c0 k0
  have b_is_number := F_is_number.binds (ps := ["thing"]) fun _ _ _ _ _ _ us hl => match us, hl with | [_], _ => rfl
  have g_is_number := PySem.W.mg_of X G a0
  have F_is_between := fun_mk (st := st_is_between) l1 c1 k1
  have b_is_between := F_is_between.binds (ps := ["thing", "least", "most"]) fun _ _ _ _ _ _ us hl => match us, hl with | [_, _, _], _ => rfl
  have g_is_between := PySem.W.mg_of X G a1
  have F_is_place := fun_mk (st := st_is_place) l2 c2 k2
  have b_is_place := F_is_place.binds (ps := ["thing", "many"]) fun _ _ _ _ _ _ us hl => match us, hl with | [_, _], _ => rfl
  have g_is_place := PySem.W.mg_of X G a2
  have F_is_list_or_tuple := fun_mk (st := st_is_list_or_tuple) l3 c3 k3
  have b_is_list_or_tuple := F_is_list_or_tuple.binds (ps := ["thing"]) fun _ _ _ _ _ _ us hl => match us, hl with | [_], _ => rfl
  have g_is_list_or_tuple := PySem.W.mg_of X G a3
  have F_is_size := fun_mk (st := st_is_size) l4 c4 k4
  have b_is_size := F_is_size.binds (ps := ["thing"]) fun _ _ _ _ _ _ us hl => match us, hl with | [_], _ => rfl
  have g_is_size := PySem.W.mg_of X G a4
  have F_outlets_in := fun_mk (st := st_outlets_in) l5 c5 k5
  have b_outlets_in := F_outlets_in.binds (ps := ["table"]) fun _ _ _ _ _ _ us hl => match us, hl with | [_], _ => rfl
  have g_outlets_in := PySem.W.mg_of X G a5
  have F_turned := fun_mk (st := st_turned) l6 c6 k6
  have b_turned := F_turned.binds (ps := ["table"]) fun _ _ _ _ _ _ us hl => match us, hl with | [_], _ => rfl
  have g_turned := PySem.W.mg_of X G a6
  have F_left_out := fun_mk (st := st_left_out) l7 c7 k7
  have b_left_out := F_left_out.binds (ps := ["table", "inlets", "outlets"]) fun _ _ _ _ _ _ us hl => match us, hl with | [_, _, _], _ => rfl
  have g_left_out := PySem.W.mg_of X G a7
  have F_is_ask := fun_mk (st := st_is_ask) l8 c8 k8
  have b_is_ask := F_is_ask.binds (ps := ["table", "thing"]) fun _ _ _ _ _ _ us hl => match us, hl with | [_, _], _ => rfl
  have g_is_ask := PySem.W.mg_of X G a8
  have F_inlets_of := fun_mk (st := st_inlets_of) l9 c9 k9
  have b_inlets_of := F_inlets_of.binds (ps := ["pairs"]) fun _ _ _ _ _ _ us hl => match us, hl with | [_], _ => rfl
  have g_inlets_of := PySem.W.mg_of X G a9
  have F_outlets_of := fun_mk (st := st_outlets_of) l10 c10 k10
  have b_outlets_of := F_outlets_of.binds (ps := ["pairs"]) fun _ _ _ _ _ _ us hl => match us, hl with | [_], _ => rfl
  have g_outlets_of := PySem.W.mg_of X G a10
  have F_asks_left := fun_mk (st := st_asks_left) l11 c11 k11
  have b_asks_left := F_asks_left.binds (ps := ["table", "pairs"]) fun _ _ _ _ _ _ us hl => match us, hl with | [_, _], _ => rfl
  have g_asks_left := PySem.W.mg_of X G a11
  have F_first_from := fun_mk (st := st_first_from) l12 c12 k12
  have b_first_from := F_first_from.binds (ps := ["marks", "place"]) fun _ _ _ _ _ _ us hl => match us, hl with | [_, _], _ => rfl
  have g_first_from := PySem.W.mg_of X G a12
  have F_granted := fun_mk (st := st_granted) l13 c13 k13
  have b_granted := F_granted.binds (ps := ["asking", "pointer"]) fun _ _ _ _ _ _ us hl => match us, hl with | [_, _], _ => rfl
  have g_granted := PySem.W.mg_of X G a13
  have F_accepted := fun_mk (st := st_accepted) l14 c14 k14
  have b_accepted := F_accepted.binds (ps := ["granting", "place"]) fun _ _ _ _ _ _ us hl => match us, hl with | [_, _], _ => rfl
  have g_accepted := PySem.W.mg_of X G a14
  have F_passed := fun_mk (st := st_passed) l15 c15 k15
  have b_passed := F_passed.binds (ps := ["pointer", "inlet", "shares"]) fun _ _ _ _ _ _ us hl => match us, hl with | [_, _, _], _ => rfl
  have g_passed := PySem.W.mg_of X G a15
  have F_steps_to := fun_mk (st := st_steps_to) l16 c16 k16
  have b_steps_to := F_steps_to.binds (ps := ["target", "place", "many"]) fun _ _ _ _ _ _ us hl => match us, hl with | [_, _, _], _ => rfl
  have g_steps_to := PySem.W.mg_of X G a16
  have F_ahead_of := fun_mk (st := st_ahead_of) l17 c17 k17
  have b_ahead_of := F_ahead_of.binds (ps := ["grants", "inlet", "outlet"]) fun _ _ _ _ _ _ us hl => match us, hl with | [_, _, _], _ => rfl
  have g_ahead_of := PySem.W.mg_of X G a17
  have F_left_of := fun_mk (st := st_left_of) l18 c18 k18
  have b_left_of := F_left_of.binds (ps := ["grants", "table", "inlet", "outlet"]) fun _ _ _ _ _ _ us hl => match us, hl with | [_, _, _, _], _ => rfl
  have g_left_of := PySem.W.mg_of X G a18
  have F_within := fun_mk (st := st_within) l19 c19 k19
  have b_within := F_within.binds (ps := ["grants", "inlet", "outlet"]) fun _ _ _ _ _ _ us hl => match us, hl with | [_, _, _], _ => rfl
  have g_within := PySem.W.mg_of X G a19
  have F_is_share := fun_mk (st := st_is_share) l20 c20 k20
  have b_is_share := F_is_share.binds (ps := ["thing"]) fun _ _ _ _ _ _ us hl => match us, hl with | [_], _ => rfl
  have g_is_share := PySem.W.mg_of X G a20
  have F_are_shares := fun_mk (st := st_are_shares) l21 c21 k21
  have b_are_shares := F_are_shares.binds (ps := ["thing", "inlets"]) fun _ _ _ _ _ _ us hl => match us, hl with | [_, _], _ => rfl
  have g_are_shares := PySem.W.mg_of X G a21
  have F_shares_for := fun_mk (st := st_shares_for) l22 c22 k22
  have b_shares_for := F_shares_for.binds (ps := ["inlets", "outlets", "shares"]) fun _ _ _ _ _ _ us hl => match us, hl with | [_, _, _], _ => rfl
  have g_shares_for := PySem.W.mg_of X G a22
  have F_grants_by := fun_mk (st := st_grants_by) l23 c23 k23
  have b_grants_by := F_grants_by.binds (ps := ["table", "pointers"]) fun _ _ _ _ _ _ us hl => match us, hl with | [_, _], _ => rfl
  have g_grants_by := PySem.W.mg_of X G a23
  have F_accepts_by := fun_mk (st := st_accepts_by) l24 c24 k24
  have b_accepts_by := F_accepts_by.binds (ps := ["grants", "places", "outlets"]) fun _ _ _ _ _ _ us hl => match us, hl with | [_, _, _], _ => rfl
  have g_accepts_by := PySem.W.mg_of X G a24
  have F_pairs_by := fun_mk (st := st_pairs_by) l25 c25 k25
  have b_pairs_by := F_pairs_by.binds (ps := ["rounds"]) fun _ _ _ _ _ _ us hl => match us, hl with | [_], _ => rfl
  have g_pairs_by := PySem.W.mg_of X G a25
  have F_Grants_init := fun_mk (st := st_Grants_init) l26 c26 k26
  have kb_Grants_init : KBn K (PySem.W.fnOf "__init__" "Grants.__init__" (defArgs st_Grants_init) (defBody st_Grants_init) (defScope st_Grants_init) .none kV26 dc26 pm26 an26 cd26 ct26) ["self", "inlets", "outlets", "shares"] 3 ["shares"] (fun us ws => us ++ ws) (fun vs zs => vs ++ zs) := ⟨fun s us ws _ l1 l2 => .of_eq (match us, ws, l1, l2 with | [_, _, _], [_], _, _ => rfl), fun r1 r2 => r1.append r2⟩
  have mk_Grants : Mk K C_Grants f26 := ⟨mk_Grants, a26, i26, kc_Grants⟩
  have F_Grants_beat := fun_mk (st := st_Grants_beat) l27 c27 k27
  have kb_Grants_beat : KBn K (PySem.W.fnOf "beat" "Grants.beat" (defArgs st_Grants_beat) (defBody st_Grants_beat) (defScope st_Grants_beat) .none kV27 dc27 pm27 an27 cd27 ct27) ["self", "table", "rounds"] 2 ["rounds"] (fun us ws => us ++ ws) (fun vs zs => vs ++ zs) := ⟨fun s us ws _ l1 l2 => .of_eq (match us, ws, l1, l2 with | [_, _], [_], _, _ => rfl), fun r1 r2 => r1.append r2⟩
  have m_Grants_beat : Meth K C_Grants "beat" f27 := ⟨a27, i27, k27⟩
  have F_Grants_turn := fun_mk (st := st_Grants_turn) l28 c28 k28
  have b_Grants_turn := F_Grants_turn.binds (ps := ["self", "accepts"]) fun _ _ _ _ _ _ us hl => match us, hl with | [_, _], _ => rfl
  have m_Grants_turn : Meth K C_Grants "turn" f28 := ⟨a28, i28, k28⟩
  have F_Grants_pointers := fun_mk (st := st_Grants_pointers) l29 c29 k29
  have b_Grants_pointers := F_Grants_pointers.binds (ps := ["self"]) fun _ _ _ _ _ _ us hl => match us, hl with | [_], _ => rfl
  have m_Grants_pointers : Meth K C_Grants "pointers" f29 := ⟨a29, i29, k29⟩
  have F_Grants_places := fun_mk (st := st_Grants_places) l30 c30 k30
  have b_Grants_places := F_Grants_places.binds (ps := ["self"]) fun _ _ _ _ _ _ us hl => match us, hl with | [_], _ => rfl
  have m_Grants_places : Meth K C_Grants "places" f30 := ⟨a30, i30, k30⟩
  have F_law_box := fun_mk (st := st_law_box) l31 c31 k31
  have b_law_box := F_law_box.binds (ps := ["_law_script", "_law_k"]) fun _ _ _ _ _ _ us hl => match us, hl with | [_, _], _ => rfl
  have g_law_box := PySem.W.mg_of X G a31
  have F_law_take := fun_mk (st := st_law_take) l32 c32 k32
  have b_law_take := F_law_take.binds (ps := ["_law_box_here", "_law_size"]) fun _ _ _ _ _ _ us hl => match us, hl with | [_, _], _ => rfl
  have g_law_take := PySem.W.mg_of X G a32
  have F_law_folded := fun_mk (st := st_law_folded) l33 c33 k33
  have b_law_folded := F_law_folded.binds (ps := ["_law_script", "_law_size"]) fun _ _ _ _ _ _ us hl => match us, hl with | [_, _], _ => rfl
  have g_law_folded := PySem.W.mg_of X G a33
  have F_law_sizes := fun_mk (st := st_law_sizes) l34 c34 k34
  have b_law_sizes := F_law_sizes.binds (ps := ["_law_box_here", "_law_most"]) fun _ _ _ _ _ _ us hl => match us, hl with | [_, _], _ => rfl
  have g_law_sizes := PySem.W.mg_of X G a34
  have F_law_table := fun_mk (st := st_law_table) l35 c35 k35
  have b_law_table := F_law_table.binds (ps := ["_law_box_here", "_law_n", "_law_m"]) fun _ _ _ _ _ _ us hl => match us, hl with | [_, _, _], _ => rfl
  have g_law_table := PySem.W.mg_of X G a35
  have F_law_shares := fun_mk (st := st_law_shares) l36 c36 k36
  have b_law_shares := F_law_shares.binds (ps := ["_law_box_here", "_law_n", "_law_m"]) fun _ _ _ _ _ _ us hl => match us, hl with | [_, _, _], _ => rfl
  have g_law_shares := PySem.W.mg_of X G a36
  have F_law_next_table := fun_mk (st := st_law_next_table) l37 c37 k37
  have b_law_next_table := F_law_next_table.binds (ps := ["_law_box_here", "_law_table_here", "_law_pairs", "_law_way"]) fun _ _ _ _ _ _ us hl => match us, hl with | [_, _, _, _], _ => rfl
  have g_law_next_table := PySem.W.mg_of X G a37
  have F_law_nearest := fun_mk (st := st_law_nearest) l38 c38 k38
  have b_law_nearest := F_law_nearest.binds (ps := ["_law_grants", "_law_table_here", "_law_inlet", "_law_outlet"]) fun _ _ _ _ _ _ us hl => match us, hl with | [_, _, _, _], _ => rfl
  have g_law_nearest := PySem.W.mg_of X G a38
  have F_law_late_ones := fun_mk (st := st_law_late_ones) l39 c39 k39
  have b_law_late_ones := F_law_late_ones.binds (ps := ["_law_box_here", "_law_grants", "_law_table_here", "_law_inlet", "_law_outlet"]) fun _ _ _ _ _ _ us hl => match us, hl with | [_, _, _, _, _], _ => rfl
  have g_law_late_ones := PySem.W.mg_of X G a39
  have F_law_walked := fun_mk (st := st_law_walked) l40 c40 k40
  have b_law_walked := F_law_walked.binds (ps := ["_law_box_here", "_law_grants", "_law_table_here", "_law_one", "_law_case"]) fun _ _ _ _ _ _ us hl => match us, hl with | [_, _, _, _, _], _ => rfl
  have g_law_walked := PySem.W.mg_of X G a40
  have F_law_right := fun_mk (st := st_law_right) l41 c41 k41
  have b_law_right := F_law_right.binds (ps := ["_law_box_here"]) fun _ _ _ _ _ _ us hl => match us, hl with | [_], _ => rfl
  have g_law_right := PySem.W.mg_of X G a41
  have F_law := fun_mk (st := st_law) l42 c42 k42
  have b_law := F_law.binds (ps := ["_law_script"]) fun _ _ _ _ _ _ us hl => match us, hl with | [_], _ => rfl
  have g_law := PySem.W.mg_of X G a42
  have C_MOST_PLACES := PySem.W.mg_of X G v0
  have C_ROUNDS := PySem.W.mg_of X G v1
  have C_MOST_SHARE := PySem.W.mg_of X G v2
  have B : Bm mg := ⟨PySem.W.mg_none_of X G z0, PySem.W.mg_none_of X G z1, PySem.W.mg_none_of X G z2, PySem.W.mg_none_of X G z3, PySem.W.mg_none_of X G z4, PySem.W.mg_none_of X G z5, PySem.W.mg_none_of X G z6, PySem.W.mg_none_of X G z7, PySem.W.mg_none_of X G z8, PySem.W.mg_none_of X G z9, PySem.W.mg_none_of X G z10, PySem.W.mg_none_of X G z11, PySem.W.mg_none_of X G z12, PySem.W.mg_none_of X G z13, PySem.W.mg_none_of X G z14, PySem.W.mg_none_of X G z15, PySem.W.mg_none_of X G z16, PySem.W.mg_none_of X G z17, PySem.W.mg_none_of X G z18, PySem.W.mg_none_of X G z19, PySem.W.mg_none_of X G z20, PySem.W.mg_none_of X G z21⟩
  refine ⟨PySem.W.fnOf "law" "law" (defArgs st_law) (defBody st_law) (defScope st_law) .none kV42 dc42 pm42 an42 cd42 ct42, fun s v => .of_eq rfl, fun base _ _ => ?_⟩
  have D_is_number : Df l.prog w K mg base 1 _ _ _ _ _ _ := ⟨F_is_number, g_is_number, b_is_number, ok_is_number (P := l.prog) (w := w) (base := base) F_is_number B ⟩
  have D_is_between : Df l.prog w K mg base 2 _ _ _ _ _ _ := ⟨F_is_between, g_is_between, b_is_between, ok_is_between (P := l.prog) (w := w) (base := base) F_is_between B D_is_number⟩
  have D_is_place : Df l.prog w K mg base 3 _ _ _ _ _ _ := ⟨F_is_place, g_is_place, b_is_place, ok_is_place (P := l.prog) (w := w) (base := base) F_is_place B D_is_between⟩
  have D_is_list_or_tuple : Df l.prog w K mg base 1 _ _ _ _ _ _ := ⟨F_is_list_or_tuple, g_is_list_or_tuple, b_is_list_or_tuple, ok_is_list_or_tuple (P := l.prog) (w := w) (base := base) F_is_list_or_tuple B ⟩
  have D_is_size : Df l.prog w K mg base 3 _ _ _ _ _ _ := ⟨F_is_size, g_is_size, b_is_size, ok_is_size (P := l.prog) (w := w) (base := base) F_is_size B C_MOST_PLACES D_is_between⟩
  have D_outlets_in : Df l.prog w K mg base 1 _ _ _ _ _ _ := ⟨F_outlets_in, g_outlets_in, b_outlets_in, ok_outlets_in (P := l.prog) (w := w) (base := base) F_outlets_in B ⟩
  have D_turned : Df l.prog w K mg base 1 _ _ _ _ _ _ := ⟨F_turned, g_turned, b_turned, ok_turned (P := l.prog) (w := w) (base := base) F_turned B ⟩
  have D_left_out : Df l.prog w K mg base 1 _ _ _ _ _ _ := ⟨F_left_out, g_left_out, b_left_out, ok_left_out (P := l.prog) (w := w) (base := base) F_left_out B ⟩
  have D_is_ask : Df l.prog w K mg base 4 _ _ _ _ _ _ := ⟨F_is_ask, g_is_ask, b_is_ask, ok_is_ask (P := l.prog) (w := w) (base := base) F_is_ask B D_is_place D_outlets_in⟩
  have D_inlets_of : Df l.prog w K mg base 1 _ _ _ _ _ _ := ⟨F_inlets_of, g_inlets_of, b_inlets_of, ok_inlets_of (P := l.prog) (w := w) (base := base) F_inlets_of B ⟩
  have D_outlets_of : Df l.prog w K mg base 1 _ _ _ _ _ _ := ⟨F_outlets_of, g_outlets_of, b_outlets_of, ok_outlets_of (P := l.prog) (w := w) (base := base) F_outlets_of B ⟩
  have D_asks_left : Df l.prog w K mg base 2 _ _ _ _ _ _ := ⟨F_asks_left, g_asks_left, b_asks_left, ok_asks_left (P := l.prog) (w := w) (base := base) F_asks_left B D_inlets_of D_left_out D_outlets_of⟩
  have D_first_from : Df l.prog w K mg base 1 _ _ _ _ _ _ := ⟨F_first_from, g_first_from, b_first_from, ok_first_from (P := l.prog) (w := w) (base := base) F_first_from B ⟩
  have D_granted : Df l.prog w K mg base 2 _ _ _ _ _ _ := ⟨F_granted, g_granted, b_granted, ok_granted (P := l.prog) (w := w) (base := base) F_granted B D_first_from⟩
  have D_accepted : Df l.prog w K mg base 2 _ _ _ _ _ _ := ⟨F_accepted, g_accepted, b_accepted, ok_accepted (P := l.prog) (w := w) (base := base) F_accepted B D_first_from⟩
  have D_passed : Df l.prog w K mg base 1 _ _ _ _ _ _ := ⟨F_passed, g_passed, b_passed, ok_passed (P := l.prog) (w := w) (base := base) F_passed B ⟩
  have D_steps_to : Df l.prog w K mg base 1 _ _ _ _ _ _ := ⟨F_steps_to, g_steps_to, b_steps_to, ok_steps_to (P := l.prog) (w := w) (base := base) F_steps_to B ⟩
  have D_is_share : Df l.prog w K mg base 3 _ _ _ _ _ _ := ⟨F_is_share, g_is_share, b_is_share, ok_is_share (P := l.prog) (w := w) (base := base) F_is_share B C_MOST_SHARE D_is_between⟩
  have D_are_shares : Df l.prog w K mg base 4 _ _ _ _ _ _ := ⟨F_are_shares, g_are_shares, b_are_shares, ok_are_shares (P := l.prog) (w := w) (base := base) F_are_shares B D_is_list_or_tuple D_is_share⟩
  have D_shares_for : Df l.prog w K mg base 5 _ _ _ _ _ _ := ⟨F_shares_for, g_shares_for, b_shares_for, ok_shares_for (P := l.prog) (w := w) (base := base) F_shares_for B D_are_shares D_is_list_or_tuple⟩
  have D_grants_by : Df l.prog w K mg base 3 _ _ _ _ _ _ := ⟨F_grants_by, g_grants_by, b_grants_by, ok_grants_by (P := l.prog) (w := w) (base := base) F_grants_by B D_granted D_turned⟩
  have D_accepts_by : Df l.prog w K mg base 3 _ _ _ _ _ _ := ⟨F_accepts_by, g_accepts_by, b_accepts_by, ok_accepts_by (P := l.prog) (w := w) (base := base) F_accepts_by B D_accepted⟩
  have D_pairs_by : Df l.prog w K mg base 1 _ _ _ _ _ _ := ⟨F_pairs_by, g_pairs_by, b_pairs_by, ok_pairs_by (P := l.prog) (w := w) (base := base) F_pairs_by B ⟩
  have D_Grants_init : Dm l.prog w K mg base 6 _ _ _ _ _ _ _ := ⟨F_Grants_init, ok_Grants_init (P := l.prog) (w := w) (base := base) (κ := (fun _ => C_Grants)) F_Grants_init B D_is_size D_shares_for c_Grants n_Grants_inlets n_Grants_outlets n_Grants_shares n_Grants_outlet_pointers n_Grants_inlet_places⟩
  have D_Grants_turn : Dm l.prog w K mg base 2 _ _ _ _ _ _ _ := ⟨F_Grants_turn, ok_Grants_turn (P := l.prog) (w := w) (base := base) (κ := (fun _ => C_Grants)) F_Grants_turn B D_passed c_Grants n_Grants_outlet_pointers n_Grants_shares n_Grants_inlet_places n_Grants_outlets⟩
  have D_Grants_beat : Dm l.prog w K mg base 4 _ _ _ _ _ _ _ := ⟨F_Grants_beat, ok_Grants_beat (P := l.prog) (w := w) (base := base) (κ := (fun _ => C_Grants)) F_Grants_beat B D_Grants_turn D_accepts_by D_asks_left D_grants_by c_Grants n_Grants_outlet_pointers n_Grants_outlets n_Grants_inlet_places m_Grants_turn b_Grants_turn⟩
  have D_Grants_pointers : Dm l.prog w K mg base 1 _ _ _ _ _ _ _ := ⟨F_Grants_pointers, ok_Grants_pointers (P := l.prog) (w := w) (base := base) (κ := (fun _ => C_Grants)) F_Grants_pointers B c_Grants n_Grants_outlet_pointers⟩
  have D_ahead_of : Df l.prog w K mg base 2 _ _ _ _ _ _ := ⟨F_ahead_of, g_ahead_of, b_ahead_of, ok_ahead_of (P := l.prog) (w := w) (base := base) (κ := (fun _ => C_Grants)) F_ahead_of B D_Grants_pointers D_steps_to c_Grants m_Grants_pointers b_Grants_pointers n_Grants_shares n_Grants_inlets⟩
  have D_within : Df l.prog w K mg base 3 _ _ _ _ _ _ := ⟨F_within, g_within, b_within, ok_within (P := l.prog) (w := w) (base := base) (κ := (fun _ => C_Grants)) F_within B D_ahead_of c_Grants n_Grants_inlets n_Grants_outlets⟩
  have D_Grants_places : Dm l.prog w K mg base 1 _ _ _ _ _ _ _ := ⟨F_Grants_places, ok_Grants_places (P := l.prog) (w := w) (base := base) (κ := (fun _ => C_Grants)) F_Grants_places B c_Grants n_Grants_inlet_places⟩
  have D_left_of : Df l.prog w K mg base 5 _ _ _ _ _ _ := ⟨F_left_of, g_left_of, b_left_of, ok_left_of (P := l.prog) (w := w) (base := base) (κ := (fun _ => C_Grants)) F_left_of B D_Grants_places D_Grants_pointers D_ahead_of D_granted D_is_ask D_steps_to D_turned c_Grants m_Grants_pointers b_Grants_pointers n_Grants_inlets n_Grants_outlets m_Grants_places b_Grants_places⟩
  have D_law_box : Df l.prog w K mg base 1 _ _ _ _ _ _ := ⟨F_law_box, g_law_box, b_law_box, ok_law_box (P := l.prog) (w := w) (base := base) F_law_box B⟩
  have D_law_take : Df l.prog w K mg base 1 _ _ _ _ _ _ := ⟨F_law_take, g_law_take, b_law_take, ok_law_take (P := l.prog) (w := w) (base := base) F_law_take B⟩
  have D_law_folded : Df l.prog w K mg base 1 _ _ _ _ _ _ := ⟨F_law_folded, g_law_folded, b_law_folded, ok_law_folded (P := l.prog) (w := w) (base := base) F_law_folded B⟩
  have D_law_sizes : Df l.prog w K mg base 2 _ _ _ _ _ _ := ⟨F_law_sizes, g_law_sizes, b_law_sizes, ok_law_sizes (P := l.prog) (w := w) (base := base) F_law_sizes B D_law_take⟩
  have D_law_table : Df l.prog w K mg base 2 _ _ _ _ _ _ := ⟨F_law_table, g_law_table, b_law_table, ok_law_table (P := l.prog) (w := w) (base := base) F_law_table B D_law_take⟩
  have D_law_shares : Df l.prog w K mg base 2 _ _ _ _ _ _ := ⟨F_law_shares, g_law_shares, b_law_shares, ok_law_shares (P := l.prog) (w := w) (base := base) F_law_shares B D_law_take⟩
  have D_law_next_table : Df l.prog w K mg base 2 _ _ _ _ _ _ := ⟨F_law_next_table, g_law_next_table, b_law_next_table, ok_law_next_table (P := l.prog) (w := w) (base := base) F_law_next_table B D_law_take⟩
  have D_law_nearest : Df l.prog w K mg base 2 _ _ _ _ _ _ := ⟨F_law_nearest, g_law_nearest, b_law_nearest, ok_law_nearest (P := l.prog) (w := w) (base := base) (κ := (fun _ => C_Grants)) F_law_nearest B D_Grants_pointers c_Grants m_Grants_pointers b_Grants_pointers⟩
  have D_law_late_ones : Df l.prog w K mg base 3 _ _ _ _ _ _ := ⟨F_law_late_ones, g_law_late_ones, b_law_late_ones, ok_law_late_ones (P := l.prog) (w := w) (base := base) (κ := (fun _ => C_Grants)) F_law_late_ones B D_law_nearest D_law_take⟩
  have D_law_walked : Df l.prog w K mg base 6 _ _ _ _ _ _ := ⟨F_law_walked, g_law_walked, b_law_walked, ok_law_walked (P := l.prog) (w := w) (base := base) (κ := (fun _ => C_Grants)) F_law_walked B D_Grants_beat D_law_late_ones D_law_next_table D_left_of D_pairs_by D_within c_Grants m_Grants_beat kb_Grants_beat⟩
  have D_law_right : Df l.prog w K mg base 8 _ _ _ _ _ _ := ⟨F_law_right, g_law_right, b_law_right, ok_law_right (P := l.prog) (w := w) (base := base) (κ := (fun _ => C_Grants)) F_law_right B D_Grants_init D_Grants_beat D_law_shares D_law_sizes D_law_table D_law_take D_law_walked mk_Grants g_Grants kb_Grants_init c_Grants m_Grants_beat kb_Grants_beat⟩
  have D_right : Df l.prog w K mg base 8 "_law_right" st_law_right ["_law_box_here"] _ _ (spRt 100000000 700000) := ⟨F_law_right, g_law_right, b_law_right, D_law_right.G.imp fun _ _ _ _ h => sp_right (fun N hN => law_right_spec hN) h⟩
  exact ok_law F_law B D_law_folded D_law_box D_right
end K23
open PySem PySem.W PyProof.Rows
set_option maxHeartbeats 0 in
theorem PySem.Challenge.cw_crossgrants_k23_what_is_left_falls_holds : PySem.Challenge.rw_crossgrants_k23_what_is_left_falls.Holds := by
  w_on; o_law; k_head; (case hw => w_witness2)
  k_fill
  refine Cg.walkG (l := PySem.Challenge.rw_crossgrants_k23_what_is_left_falls) (n := 63) (k := 9) (x := "_law_script") (sp := Cg.spLaw) rfl (by decide) rfl ⟨rfl, by decide, by decide⟩ (fun w h Y => PySem.W.kIn_of Y) ?F (fun K H a ns hl hS => ⟨a, ns, rfl, hS, hl, fun _ => rfl⟩)
  case F =>
    intro w mg fa h KX G hmg
    refine' K23.all_mk KX G hmg ?aC_Grants ?pg_Grants ?hd_Grants ?po_Grants ?sa_Grants ?mk_Grants ?kc_Grants ?n_Grants_inlets ?n_Grants_outlets ?n_Grants_shares ?n_Grants_outlet_pointers ?n_Grants_inlet_places ?a0 ?l0 ?c0 ?k0 ?a1 ?l1 ?c1 ?k1 ?a2 ?l2 ?c2 ?k2 ?a3 ?l3 ?c3 ?k3 ?a4 ?l4 ?c4 ?k4 ?a5 ?l5 ?c5 ?k5 ?a6 ?l6 ?c6 ?k6 ?a7 ?l7 ?c7 ?k7 ?a8 ?l8 ?c8 ?k8 ?a9 ?l9 ?c9 ?k9 ?a10 ?l10 ?c10 ?k10 ?a11 ?l11 ?c11 ?k11 ?a12 ?l12 ?c12 ?k12 ?a13 ?l13 ?c13 ?k13 ?a14 ?l14 ?c14 ?k14 ?a15 ?l15 ?c15 ?k15 ?a16 ?l16 ?c16 ?k16 ?a17 ?l17 ?c17 ?k17 ?a18 ?l18 ?c18 ?k18 ?a19 ?l19 ?c19 ?k19 ?a20 ?l20 ?c20 ?k20 ?a21 ?l21 ?c21 ?k21 ?a22 ?l22 ?c22 ?k22 ?a23 ?l23 ?c23 ?k23 ?a24 ?l24 ?c24 ?k24 ?a25 ?l25 ?c25 ?k25 ?a26 ?i26 ?l26 ?c26 ?k26 ?a27 ?i27 ?l27 ?c27 ?k27 ?a28 ?i28 ?l28 ?c28 ?k28 ?a29 ?i29 ?l29 ?c29 ?k29 ?a30 ?i30 ?l30 ?c30 ?k30 ?a31 ?l31 ?c31 ?k31 ?a32 ?l32 ?c32 ?k32 ?a33 ?l33 ?c33 ?k33 ?a34 ?l34 ?c34 ?k34 ?a35 ?l35 ?c35 ?k35 ?a36 ?l36 ?c36 ?k36 ?a37 ?l37 ?c37 ?k37 ?a38 ?l38 ?c38 ?k38 ?a39 ?l39 ?c39 ?k39 ?a40 ?l40 ?c40 ?k40 ?a41 ?l41 ?c41 ?k41 ?a42 ?l42 ?c42 ?k42 ?v0 ?v1 ?v2 ?z0 ?z1 ?z2 ?z3 ?z4 ?z5 ?z6 ?z7 ?z8 ?z9 ?z10 ?z11 ?z12 ?z13 ?z14 ?z15 ?z16 ?z17 ?z18 ?z19 ?z20 ?z21
    (case aC_Grants => k_is); (case pg_Grants => k_is); (case hd_Grants => k_is); (case po_Grants => k_is); (case sa_Grants => k_is); (case mk_Grants => k_is); (case kc_Grants => k_is); (case n_Grants_inlets => k_is); (case n_Grants_outlets => k_is); (case n_Grants_shares => k_is); (case n_Grants_outlet_pointers => k_is); (case n_Grants_inlet_places => k_is); (case a0 => k_is); (case l0 => k_is); (case c0 => k_is); (case k0 => k_is); (case a1 => k_is); (case l1 => k_is); (case c1 => k_is); (case k1 => k_is); (case a2 => k_is); (case l2 => k_is); (case c2 => k_is); (case k2 => k_is); (case a3 => k_is); (case l3 => k_is); (case c3 => k_is); (case k3 => k_is); (case a4 => k_is); (case l4 => k_is); (case c4 => k_is); (case k4 => k_is); (case a5 => k_is); (case l5 => k_is); (case c5 => k_is); (case k5 => k_is); (case a6 => k_is); (case l6 => k_is); (case c6 => k_is); (case k6 => k_is); (case a7 => k_is); (case l7 => k_is); (case c7 => k_is); (case k7 => k_is); (case a8 => k_is); (case l8 => k_is); (case c8 => k_is); (case k8 => k_is); (case a9 => k_is); (case l9 => k_is); (case c9 => k_is); (case k9 => k_is); (case a10 => k_is); (case l10 => k_is); (case c10 => k_is); (case k10 => k_is); (case a11 => k_is); (case l11 => k_is); (case c11 => k_is); (case k11 => k_is); (case a12 => k_is); (case l12 => k_is); (case c12 => k_is); (case k12 => k_is); (case a13 => k_is); (case l13 => k_is); (case c13 => k_is); (case k13 => k_is); (case a14 => k_is); (case l14 => k_is); (case c14 => k_is); (case k14 => k_is); (case a15 => k_is); (case l15 => k_is); (case c15 => k_is); (case k15 => k_is); (case a16 => k_is); (case l16 => k_is); (case c16 => k_is); (case k16 => k_is); (case a17 => k_is); (case l17 => k_is); (case c17 => k_is); (case k17 => k_is); (case a18 => k_is); (case l18 => k_is); (case c18 => k_is); (case k18 => k_is); (case a19 => k_is); (case l19 => k_is); (case c19 => k_is); (case k19 => k_is); (case a20 => k_is); (case l20 => k_is); (case c20 => k_is); (case k20 => k_is); (case a21 => k_is); (case l21 => k_is); (case c21 => k_is); (case k21 => k_is); (case a22 => k_is); (case l22 => k_is); (case c22 => k_is); (case k22 => k_is); (case a23 => k_is); (case l23 => k_is); (case c23 => k_is); (case k23 => k_is); (case a24 => k_is); (case l24 => k_is); (case c24 => k_is); (case k24 => k_is); (case a25 => k_is); (case l25 => k_is); (case c25 => k_is); (case k25 => k_is); (case a26 => k_is); (case i26 => k_is); (case l26 => k_is); (case c26 => k_is); (case k26 => k_is); (case a27 => k_is); (case i27 => k_is); (case l27 => k_is); (case c27 => k_is); (case k27 => k_is); (case a28 => k_is); (case i28 => k_is); (case l28 => k_is); (case c28 => k_is); (case k28 => k_is); (case a29 => k_is); (case i29 => k_is); (case l29 => k_is); (case c29 => k_is); (case k29 => k_is); (case a30 => k_is); (case i30 => k_is); (case l30 => k_is); (case c30 => k_is); (case k30 => k_is); (case a31 => k_is); (case l31 => k_is); (case c31 => k_is); (case k31 => k_is); (case a32 => k_is); (case l32 => k_is); (case c32 => k_is); (case k32 => k_is); (case a33 => k_is); (case l33 => k_is); (case c33 => k_is); (case k33 => k_is); (case a34 => k_is); (case l34 => k_is); (case c34 => k_is); (case k34 => k_is); (case a35 => k_is); (case l35 => k_is); (case c35 => k_is); (case k35 => k_is); (case a36 => k_is); (case l36 => k_is); (case c36 => k_is); (case k36 => k_is); (case a37 => k_is); (case l37 => k_is); (case c37 => k_is); (case k37 => k_is); (case a38 => k_is); (case l38 => k_is); (case c38 => k_is); (case k38 => k_is); (case a39 => k_is); (case l39 => k_is); (case c39 => k_is); (case k39 => k_is); (case a40 => k_is); (case l40 => k_is); (case c40 => k_is); (case k40 => k_is); (case a41 => k_is); (case l41 => k_is); (case c41 => k_is); (case k41 => k_is); (case a42 => k_is); (case l42 => k_is); (case c42 => k_is); (case k42 => k_is); (case v0 => k_is); (case v1 => k_is); (case v2 => k_is); (case z0 => k_is); (case z1 => k_is); (case z2 => k_is); (case z3 => k_is); (case z4 => k_is); (case z5 => k_is); (case z6 => k_is); (case z7 => k_is); (case z8 => k_is); (case z9 => k_is); (case z10 => k_is); (case z11 => k_is); (case z12 => k_is); (case z13 => k_is); (case z14 => k_is); (case z15 => k_is); (case z16 => k_is); (case z17 => k_is); (case z18 => k_is); (case z19 => k_is); (case z20 => k_is); (case z21 => k_is)
