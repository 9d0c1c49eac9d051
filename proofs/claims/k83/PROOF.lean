import PyProof.Rows.All
import Wide.All
import OpenK.AllK
import Wide.FinOn
import HandS.ForMost
import HandS.IsInst
import HandS.Evl
import PyProof.StrLawsRepr
import KE.KDictZip
import KE.KStar
import HandS.Zip0
import HandS.Star
import KE.GoesMore
import HandS.Zip
import HandS.Conv
import HandS.Style
import HandS.SetFor
import HandS.Deep
import HandS.SortInts
import HandS.SortRule
import HandS.RaiseMore
import KE.GoesZip
import HandS.More
import HandS.TupSets
import HandS.DictComp
import PySem.Challenge.RW_crossgrants_k83_whole_covers_of_all_smal
set_option Elab.async false
set_option linter.all false
set_option maxRecDepth 100000
namespace Cg
open PySem PySem.Spec PyProof.Rows L2
/-! ### calls where no repr is under way around them -/
section
variable {P : Program} {w : World} {K : PySem.W.Frag} {mg : Str → Option Value} {base : Heap}
/-- one call of a def of the text, at one place: its body's walk there -/
theorem run_at {k : Nat} {f : Addr} {x q : Str} {ar : Arguments} {bd : List Stmt} {sc : Scope} {d1 d2 d3 d4 cv d5 oc : Value} {an od : Option Addr} {sl : Array (Option Value)} {N ps : List Str}
    {A : Around} {outer : List Env} {s : Shared} {H : Hp} {args : Args} {us : List Value} {vs : List V} {Q : VK} {E : XK}
    (look : K.lookup f = some ⟨oc, od, .func (PySem.W.fnOf x q ar bd sc d1 d2 d3 d4 an cv d5), sl⟩) (code : PySem.W.codeIn K cv q = true) (S : FnScope N ps sc) (len : vs.length = ps.length)
    (room : Room (k + 1) A) (e0 : Env0 P w K mg base A outer s H) (bnd : BindsTo s (PySem.W.fnOf x q ar bd sc d1 d2 d3 d4 an cv d5) args (ps.zip us)) (rel : Vals vs us)
    (walk : ∃ t, PSs (cxOf CX0 P w K mg base N q sc f cv A outer s H E) bd t ∧ t { nx := fun _ H' => Q .non H', rt := Q } (start N vs) H) :
    codeAny (model P w) A (.call (.ref f) args) (CR CX0 outer P w H s Q E) s := by
  have old : ∀ b o, base.get? b = some o → s.heap.get? b = some o := fun b o e => (e0.bs b o e).1
  have kin := e0.mod.kin.keeps old
  refine codeAny_call_function room.depth (kin _ _ look) rfl S.co S.gen rfl (PySem.W.codeRec_of kin code) (bnd _ _ _ _ ?_)
  refine wpAny_newFunctionEnv_cells S.kind (fun z hz => ?_) ?_
  · obtain ⟨n, v⟩ := z
    cases S.par n (List.of_mem_zip hz).1 with
    | inl q1 => exact .inl q1
    | inr q1 => exact .inr ⟨q1, PySem.W.cellsFrom_some _ _ _ (.inl q1)⟩
  · rintro env rfl s1 ic
    refine ⟨(e0.mod.nolimit.keeps old).keeps ic.toInCall.keep, codeAny_func ?_⟩
    obtain ⟨t, ht, hq⟩ := walk
    have I0 := inv_start (CX := CX0) (E := E) S room.hd e0 len rel ic
    refine wpAny_mono (ht.run [] s1 (start N vs) H _ I0 hq) ?_ (fun _ _ z => z)
    rintro (_ | u | _ | _) s2 got
    all_goals first
      | (obtain ⟨σ2, H2, J, g⟩ := got; exact ⟨V.non, H2, J.os, J.bare, J.base, J.hok, rfl, g⟩)
      | (obtain ⟨v2, σ2, H2, J, rv, g⟩ := got; exact ⟨v2, H2, J.os, J.bare, J.base, J.hok, rv, g⟩)
      | (obtain ⟨_, _, _, g⟩ := got; exact g.elim)
/-- a def's promise, kept where no repr is under way -/
structure FnG (P : Program) (w : World) (K : PySem.W.Frag) (mg : Str → Option Value) (base : Heap) (k : Nat) (f : Addr) (fd : FuncData) (ps : List Str) (sp : Sp) : Prop where
  len : ∀ vs H Q E, sp vs H Q E → vs.length = ps.length
  go : ∀ (A : Around) (outer : List Env) (s : Shared) (H : Hp) (args : Args) (us : List Value) (vs : List V) (Q : VK) (E : XK), A.guards = some [] → Room k A → Env0 P w K mg base A outer s H →
    BindsTo s fd args (ps.zip us) → Vals vs us → sp vs H Q E → codeAny (model P w) A (.call (.ref f) args) (CR CX0 outer P w H s Q E) s
theorem fnG {x q : Str} {st : Stmt} {f : Addr} {fd : FuncData} {N ps : List Str} {k : Nat} {sp : Sp} (F : Fun K x q st f fd) (S : FnScope N ps (defScope st)) (len : ∀ vs H Q E, sp vs H Q E → vs.length = ps.length)
    (walk : ∀ (cv : Value) (A : Around) (outer : List Env) (s : Shared) (H : Hp) (vs : List V) (Q : VK) (E : XK), A.guards = some [] → Room k (A.deeper (envOfC q (defScope st) s.heap.objs.size f cv)) → sp vs H Q E →
      ∃ t, PSs (cxOf CX0 P w K mg base N q (defScope st) f cv A outer s H E).nox (defBody st) t ∧ t { nx := fun _ H' => Q .non H', rt := Q } (start N vs) H) : FnG P w K mg base (k + 1) f fd ps sp := by
  obtain ⟨oc, od, d2, d3, d4, an, cv, d5, sl, rfl, look, code⟩ := F.ex
  refine ⟨len, fun A outer s H args us vs Q E hg room e0 bnd rel h => ?_⟩
  obtain ⟨t, ht, hq⟩ := walk cv A outer s H vs Q E hg (room.deeper _) h
  exact run_at look code S (len _ _ _ _ h) room e0 bnd rel ⟨t, ht.nox, hq⟩
/-- f(e, ..) of such a def -/
theorem pe_callG {X : Cx} {k : Nat} {f : Addr} {fd : FuncData} {ps : List Str} {sp : Sp} {x : Str} {p pos : Pos} {e : Expr} {es : List Expr} {t : TA} (F : FnG X.prog X.w X.K X.mg X.base k f fd ps sp) (hg : X.A.guards = some []) (hr : Room k X.A) (gl : Gl X x)
    (hm : X.mg x = some (.ref f)) (kp : PySem.W.keepIn X.K (.ref f) = true) (b : Binds X.K fd ps []) (ha : PA X (e :: es) t) (hdb : (x == ("__debug__" : Str)) = false := by decide)
    (he : starEach (e :: es) X.env = (false, eval e X.env) :: starEach es X.env := by rfl) (hpl : (backTo pos (starEach es X.env)).any (·.1) = false := by rfl) : PE X (.Call (.Name x p) (e :: es) [] pos) (tCall sp [] E0 t) := by
  constructor
  intro pins s σ H Q I h
  refine wpAny_Call_Name_kw (ld_glob I gl hm (PySem.W.callWith_K (h₀ := X.base) I.ok.mod.kin kp (thn (ha.run pos pins s σ H _ I h) ?_) he hpl) hdb)
  rintro us s1 ⟨vs, H1, I1, rel, q⟩
  refine ⟨I1.kIn, ?_⟩
  rw [List.append_nil] at q
  have hl : us.length = ps.length := by rw [← rel.length]; exact F.len _ _ _ _ q
  have bb := b s1 us I1.kIn (by rw [List.append_nil]; exact hl)
  rw [List.append_nil] at bb
  refine wpAny_call (codeAny_mono (F.go X.A X.stack s1 H1 ⟨us, []⟩ us vs Q E0 hg hr I1.env0 bb rel q) ?_)
  rintro (err | (_ | _ | _ | u)) s2 got
  all_goals first
    | exact I1.after got
    | exact False.elim got
/-- the law itself, called from outside -/
theorem law_at {mb : Str → Option Value} {k : Nat} {fa a : Addr} {fd : FuncData} {x : Str} {sp : Sp} {s1 : Shared} {vs : List Value} {ns : List Int} (kin : K.In s1.heap) (gl : s1.heap.Ns mainGlobals mg) (bl : s1.heap.Ns builtinsNs mb)
    (bb : ∀ y : Str, y ≠ "__name__" → mb y = bootBuiltins y) (lim : s1.heap.NoLimit) (gens : s1.gens = #[]) (ha : s1.heap.get? a = some { cls := .type "list", data := .seq vs.toArray }) (hi : IntsAre vs ns) (hl : ns.length ≤ sizeLine) (room : Room k callerA)
    (F : ∀ base : Heap, K.In base → base.Ns mainGlobals mg → FnG P w K mg base k fa fd [x] sp) (bnd : ∀ (s : Shared) (u : Value), BindsTo s fd ⟨[u], []⟩ [(x, u)])
    (hsp : ∀ H : Hp, SqL K H a (ns.map V.int) → sp [.ref a] H (fun v _ => v = .bl true) E0) :
    codeAny (model P w) callerA (.call (.ref fa) ⟨[.ref a], []⟩) (fun r s' => r = .ok (.ret (.bool true)) ∧ OldK s1.heap s'.heap ∧ s'.os = s1.os ∧ AllBare s'.gens) s1 := by
  have rv := vals_ints hi
  have lv := hi.length
  let ob : Obj := { cls := .type "list", data := .seq vs.toArray }
  -- what is tracked: the script, known, unless it is the module's own
  obtain ⟨H, hS, hok, only⟩ : ∃ H : Hp, SqL K H a (ns.map V.int) ∧ HOk P w H s1.heap ∧ ∀ b u, H b = some u → b = a ∧ u = .frz ob (.lst (ns.map V.int)) ∧ K.lookup b = none := by
    cases hk : K.lookup a with
    | some o =>
      have e := kin a o hk
      rw [ha] at e
      cases e
      exact ⟨fun _ => none, .inr ⟨_, vs.toArray, _, hk, rfl, rfl, rfl, by rw [List.size_toArray, lv]; exact hl, by simpa using rv⟩, (fun _ _ z => nomatch z), fun _ _ z => nomatch z⟩
    | none =>
      have one : ∀ b u, (if b = a then some (HO.frz ob (.lst (ns.map V.int))) else none) = some u → b = a ∧ u = .frz ob (.lst (ns.map V.int)) := fun b u z => by
        by_cases hb : b = a
        · rw [if_pos hb] at z; exact ⟨hb, (Option.some.inj z).symm⟩
        · rw [if_neg hb] at z; cases z
      refine ⟨fun b => if b = a then some (.frz ob (.lst (ns.map V.int))) else none, .inl (.inr ⟨ob, if_pos rfl⟩), fun b u z => ?_, fun b u z => ⟨(one b u z).1, (one b u z).2, by rw [(one b u z).1]; exact hk⟩⟩
      obtain ⟨rfl, rfl⟩ := one b u z
      exact ⟨ha, by rw [List.length_map]; exact hl, vs, _, rv, ha⟩
  have free : ∀ {b : Addr} {o : Obj}, s1.heap.get? b = some o → (∀ es n, o.data = .seq es n → False) → H b = none := fun {b o} e d => by
    cases z : H b with
    | none => rfl
    | some u =>
      obtain ⟨rfl, _, _⟩ := only b u z
      rw [ha] at e
      cases e
      exact (d _ _ rfl).elim
  have nsK : ∀ {b : Addr} {m : Str → Option Value}, s1.heap.Ns b m → (hidT s1.heap H).Ns b m := fun {b m} ⟨o, es, ep, e, d, r⟩ => ⟨o, es, ep, hidT_get e (free e fun _ _ z => by rw [d] at z; cases z), d, r⟩
  have kin' : K.In (hidT s1.heap H) := fun b o e => hidT_get (kin b o e) (by
    cases z : H b with
    | none => rfl
    | some u => rw [(only b u z).2.2] at e; cases e)
  obtain ⟨mc, l1, l2⟩ := lim
  have e0 : Env0 P w K mg (hidT s1.heap H) callerA [] s1 H := ⟨rfl, ⟨kin', nsK gl, ⟨mb, nsK bl, bb⟩, ⟨mc, nsK l1, l2⟩⟩, fun _ _ e => of_hidT e, Nat.le_of_eq (hidT_size _ _), trivial, (fun _ z => nomatch z), hok, .of_eq gens⟩
  refine codeAny_mono ((F _ kin' (nsK gl)).go callerA [] s1 H ⟨[.ref a], []⟩ [.ref a] [.ref a] _ _ rfl room e0 (bnd s1 (.ref a)) (.cons rfl .nil) (hsp H hS)) ?_
  rintro (err | (_ | _ | _ | u)) s2 got
  all_goals first
    | exact False.elim got
    | skip
  obtain ⟨v, H2, os, bare, un, hok2, rel, rfl⟩ := got
  obtain rfl : u = Value.bool true := rel
  refine ⟨rfl, OldK.of_keep fun b o e => ?_, os, bare⟩
  cases z : H b with
  | none => exact un.keep b o e z (fun y => nomatch y) (fun y => nomatch y)
  | some u =>
    obtain ⟨_, rfl, _⟩ := only b u z
    have k1 := (hok b _ z).1
    have k2 := (hok2 b _ (un.frzs b _ _ z)).1
    rw [e] at k1
    cases k1
    exact k2
end
/-- the goal that k_head leaves, from the law's promise -/
theorem walkG {l : PySem.W.OpenLaw} {n k : Nat} {q : Program} {loose : List Str} {XP : (Str → Option Value) → Heap → Prop} {YP : World → Heap → Prop} {d : DefRec} {K : Params → PySem.W.Frag} {sp : PySem.W.Frag → Sp} {x : Str}
    (hn : l.most = some n) (hn2 : n ≤ sizeLine) (hdf : d.params.defaults = []) (room : Room k callerA) (hY : ∀ (w : World) (h : Heap), YP w h → (K w.params).In h)
    (F : ∀ (w : World) (mg : Str → Option Value) (fa : Addr) (h : Heap), (K w.params).In h → h.Ns mainGlobals mg → mg d.name = some (.ref fa) → ∃ fd : FuncData, (∀ (s : Shared) (u : Value), BindsTo s fd ⟨[u], []⟩ [(x, u)]) ∧
      ∀ base : Heap, (K w.params).In base → base.Ns mainGlobals mg → FnG l.prog w (K w.params) mg base k fa fd [x] (sp (K w.params)))
    (hsp : ∀ (K : PySem.W.Frag) (H : Hp) (a : Addr) (ns : List Int), ns.length ≤ n → SqL K H a (ns.map V.int) → sp K [.ref a] H (fun v _ => v = .bl true) E0) : PySem.W.WalkO q loose XP YP l.row.toRowW d [] (fun f vs => PySem.call f vs) := by
  refine Att.attach_call hn hdf ?_
  intro w s0 s1 mg mb fa o pm cd doc a vs ns G Y ho hd hcd hmg hobj hints hlen gens
  obtain ⟨fd, hb, hF⟩ := F w mg fa _ (hY w _ Y) G.T.g hmg
  exact law_at (hY w _ Y) G.T.g G.T.b G.T.builtins G.T.nolimit gens hobj hints (Nat.le_trans hlen hn2) room hF hb fun H hS => hsp _ H a ns hlen hS
end Cg

set_option Elab.async false
set_option linter.all false
set_option maxRecDepth 100000
namespace Cg
open PySem PySem.Spec PyProof.Rows L2
/-! ### data: what repr makes of them -/
mutual
/-- no dict, no int that is too great for repr, texts of signs -/
def okD : PyData → Bool
  | .none => true
  | .bool _ => true
  | .int i => decide (i.natAbs.log2 < 1920)
  | .str x => PyData.strOk x
  | .list xs => okAll xs
  | .tuple xs => okAll xs
  | .dict _ => false
def okAll : List PyData → Bool
  | [] => true
  | x :: xs => okD x && okAll xs
end
mutual
/-- at least as long as its text -/
def wz : PyData → Nat
  | .none => 4
  | .bool _ => 5
  | .int i => i.natAbs.log2 + 2
  | .str x => 10 * x.length + 2
  | .list xs => wzAll xs + 3
  | .tuple xs => wzAll xs + 3
  | .dict _ => 0
def wzAll : List PyData → Nat
  | [] => 0
  | x :: xs => wz x + 2 + wzAll xs
end
theorem listText_le : ∀ ts : List Str, (listText ts).length ≤ piled ts + 2
  | [] => by decide
  | t :: r => by
    have h := textFrom_length_pos r 1 (("[" : Str) ++ ("" : String) ++ t) (Nat.succ_pos 0)
    have e : (("[" : Str) ++ ("" : String) ++ t).length = 1 + t.length := by
      rw [strLen_append, strLen_append]; rfl
    have e2 : (listText (t :: r)).length = (textFrom 1 (("[" : Str) ++ ("" : String) ++ t) r).length + 1 := by
      show (textFrom 1 (("[" : Str) ++ ("" : String) ++ t) r ++ "]").length = _
      rw [strLen_append]; rfl
    rw [e2, h, e, piled_cons]
    omega
theorem tupleText_le (ts : List Str) : (tupleText ts).length ≤ piled ts + 3 := by
  have e0 : (tupleText ts).length = 1 + (Str.join ", " ts).length + ((if ts.length == 1 then ",)" else ")" : String) : Str).length := by
    show ((("(" : Str) ++ Str.join ", " ts) ++ ((if ts.length == 1 then ",)" else ")" : String) : Str)).length = _
    rw [strLen_append, strLen_append]; rfl
  have e1 : ((if ts.length == 1 then ",)" else ")" : String) : Str).length ≤ 2 := by split <;> decide
  cases ts with
  | nil => decide
  | cons t r =>
    have e2 := join_length_add (t :: r) (by simp)
    omega
mutual
theorem shown_le : ∀ d : PyData, okD d = true → d.showable = true ∧ d.hasDict = false ∧ d.shown.length ≤ wz d
  | .none, _ => ⟨rfl, rfl, by decide⟩
  | .bool b, _ => ⟨rfl, rfl, by cases b <;> decide⟩
  | .int i, h => ⟨h, rfl, by
      show (Str.ofString (toString i)).length ≤ i.natAbs.log2 + 2
      rw [PySem.ofString_length]
      exact int_text_length_le (k := i.natAbs.log2 + 1) (by omega) (by omega)⟩
  | .str x, h => ⟨rfl, rfl, PySem.StrLaws.reprText_len x fun c hc => by
      have h' : x.cps.all (fun c => decide (c < 0x110000)) = true := h
      rw [← Array.all_toList] at h'
      exact Nat.lt_trans (of_decide_eq_true (List.all_eq_true.mp h' c hc)) (by decide)⟩
  | .list xs, h => by
    obtain ⟨a, b, c⟩ := shownAll_le xs h
    refine ⟨a, b, ?_⟩
    show (listText (PyData.shownAll xs)).length ≤ wzAll xs + 3
    have := listText_le (PyData.shownAll xs)
    omega
  | .tuple xs, h => by
    obtain ⟨a, b, c⟩ := shownAll_le xs h
    refine ⟨a, b, ?_⟩
    show (tupleText (PyData.shownAll xs)).length ≤ wzAll xs + 3
    have := tupleText_le (PyData.shownAll xs)
    omega
  | .dict _, h => by cases h
theorem shownAll_le : ∀ xs : List PyData, okAll xs = true → PyData.showableAll xs = true ∧ PyData.hasDictAll xs = false ∧ piled (PyData.shownAll xs) ≤ wzAll xs
  | [], _ => ⟨rfl, rfl, Nat.le_refl _⟩
  | x :: xs, h => by
    have h' : (okD x && okAll xs) = true := h
    rw [Bool.and_eq_true] at h'
    obtain ⟨a, b, c⟩ := shown_le x h'.1
    obtain ⟨a', b', c'⟩ := shownAll_le xs h'.2
    refine ⟨by show (PyData.showable x && PyData.showableAll xs) = true; rw [a, a']; rfl, by show (PyData.hasDict x || PyData.hasDictAll xs) = false; rw [b, b']; rfl, ?_⟩
    show piled (x.shown :: PyData.shownAll xs) ≤ wz x + 2 + wzAll xs
    rw [piled_cons]
    omega
end
/-- repr of data, where no repr is under way -/
def rReprD (K : PySem.W.Frag) : List V → Hp → VK → Prop := fun xs H Q => ∃ (v : V) (d : PyData), xs = [v] ∧ Dp K H v d ∧ okD d = true ∧ d.depth ≤ 40 ∧ wz d ≤ sizeLine ∧ Q (.str d.shown) H
theorem call_reprD {X : Cx} (hg : X.A.guards = some []) (hu : X.A.units + 64 < cLine) : CallR X (.builtin "repr") (rReprD X.K) := by
  intro pins s σ H xs us Q I r h
  obtain ⟨v, d, rfl, hd, ok, dp, wl, q⟩ := h
  obtain ⟨u, rfl, ru⟩ := vals1 r
  obtain ⟨h1, h2, h3⟩ := shown_le d ok
  have h4 : d.shown.length ≤ sizeLine := Nat.le_trans h3 wl
  obtain ⟨as, rd⟩ := Dp.reads I d v u hd ru
  have far : ∀ a : Addr, u = Value.ref a → wpAny (model X.prog X.w) X.A (call (.builtin "repr") [u]) (EP X pins σ Q) X.xe s := fun a e => by
    subst e
    exact repr_of_reads' rd h1 (PyData.noDict_hsm h2) hg (by omega) (fun _ _ e => e) (fun h' t tk hk => ⟨.str d.shown, H, I.kept hk, ⟨t, rfl⟩, q⟩) h4
  cases hd with
  | non =>
    cases ru
    exact PySem.P.repr_of_none ⟨.str _, H, I.tok _, ⟨_, rfl⟩, q⟩
  | bl b =>
    cases ru
    exact PySem.P.repr_of_bool ⟨.str _, H, I.tok _, ⟨_, rfl⟩, q⟩
  | int i =>
    obtain ⟨t, rfl⟩ := ru
    exact PySem.P.repr_of_int (of_decide_eq_true ok) ⟨.str _, H, I.tok _, ⟨_, rfl⟩, q⟩
  | str x =>
    obtain ⟨t, rfl⟩ := ru
    exact PySem.P.repr_of_str ⟨.str _, H, I.tok _, ⟨_, rfl⟩, q⟩ h4
  | lst _ _ => exact far _ ru
  | tup _ _ => exact far _ ru
end Cg

set_option Elab.async false
set_option linter.all false
set_option maxRecDepth 100000
namespace Cg
open PySem PySem.Spec PyProof.Rows L2 Evl
/-! ### data that are tracked -/
/-- a dict's rows of ints, as they stand and as data -/
def kvI (p : Int × Int) : Key × V := (.inl p.1, .int p.2)
def kdI (p : Int × Int) : PyData × PyData := (.int p.1, .int p.2)
mutual
inductive Dq (H : Hp) : V → PyData → Prop
  | non : Dq H .non .none
  | bl (b : Bool) : Dq H (.bl b) (.bool b)
  | int (i : Int) : Dq H (.int i) (.int i)
  | str (x : Str) : Dq H (.str x) (.str x)
  | lst {a : Addr} {xs : List V} {ds : List PyData} (e : H a = some (.lst xs)) (h : DqAll H xs ds) : Dq H (.ref a) (.list ds)
  | tup {a : Addr} {xs : List V} {ds : List PyData} (e : H a = some (.tup xs)) (h : DqAll H xs ds) : Dq H (.ref a) (.tuple ds)
  | dic {a : Addr} {kvs : List (Int × Int)} (e : H a = some (.dK (kvs.map kvI))) : Dq H (.ref a) (.dict (kvs.map kdI))
inductive DqAll (H : Hp) : List V → List PyData → Prop
  | nil : DqAll H [] []
  | cons {v : V} {vs : List V} {d : PyData} {ds : List PyData} (h : Dq H v d) (t : DqAll H vs ds) : DqAll H (v :: vs) (d :: ds)
end
section
variable {H H' : Hp} {K : PySem.W.Frag}
mutual
theorem Dq.mono (e : Same H H') : ∀ {v : V} {d : PyData}, Dq H v d → Dq H' v d
  | _, _, .non => .non
  | _, _, .bl b => .bl b
  | _, _, .int i => .int i
  | _, _, .str x => .str x
  | _, _, .lst a h => .lst (e _ _ a) (h.mono e)
  | _, _, .tup a h => .tup (e _ _ a) (h.mono e)
  | _, _, .dic a => .dic (e _ _ a)
theorem DqAll.mono (e : Same H H') : ∀ {vs : List V} {ds : List PyData}, DqAll H vs ds → DqAll H' vs ds
  | _, _, .nil => .nil
  | _, _, .cons h t => .cons (h.mono e) (t.mono e)
end
mutual
/-- no dict in it -/
def noD : PyData → Bool
  | .none => true
  | .bool _ => true
  | .int _ => true
  | .str _ => true
  | .list xs => noDs xs
  | .tuple xs => noDs xs
  | .dict _ => false
def noDs : List PyData → Bool
  | [] => true
  | x :: xs => noD x && noDs xs
end
mutual
theorem noD_lay : ∀ {d : PyData}, d.canLay0 = true → noD d = true
  | .none, _ => rfl
  | .bool _, _ => rfl
  | .int _, _ => rfl
  | .str _, _ => rfl
  | .list xs, h => noDs_lay (ds := xs) h
  | .tuple xs, h => noDs_lay (ds := xs) h
  | .dict _, h => nomatch h
theorem noDs_lay : ∀ {ds : List PyData}, PyData.canLayAll0 ds = true → noDs ds = true
  | [], _ => rfl
  | x :: xs, h => by
    have h' := (Bool.and_eq_true _ _).mp h
    show (noD x && noDs xs) = true
    rw [noD_lay h'.1, noDs_lay h'.2]
    rfl
end
theorem noD_shaped {d : PyData} (h : SeqAt.shaped d = true) : noD d = true := noD_lay (SeqAt.canLay_of_shaped h)
mutual
theorem noD_ok : ∀ {d : PyData}, okD d = true → noD d = true
  | .none, _ => rfl
  | .bool _, _ => rfl
  | .int _, _ => rfl
  | .str _, _ => rfl
  | .list xs, h => noDs_ok (ds := xs) h
  | .tuple xs, h => noDs_ok (ds := xs) h
  | .dict _, h => nomatch h
theorem noDs_ok : ∀ {ds : List PyData}, okAll ds = true → noDs ds = true
  | [], _ => rfl
  | x :: xs, h => by
    have h' := (Bool.and_eq_true _ _).mp h
    show (noD x && noDs xs) = true
    rw [noD_ok h'.1, noDs_ok h'.2]
    rfl
end
mutual
theorem Dq.dp : ∀ {v : V} {d : PyData}, Dq H v d → noD d = true → Dp K H v d
  | _, _, .non, _ => .non
  | _, _, .bl b, _ => .bl b
  | _, _, .int i, _ => .int i
  | _, _, .str x, _ => .str x
  | _, _, .lst a h, n => .lst (SqL.of a) (h.dp n)
  | _, _, .tup a h, n => .tup (SqT.of a) (h.dp n)
  | _, _, .dic _, n => nomatch n
theorem DqAll.dp : ∀ {vs : List V} {ds : List PyData}, DqAll H vs ds → noDs ds = true → DpAll K H vs ds
  | _, _, .nil, _ => .nil
  | _, _, .cons h t, n => .cons (h.dp ((Bool.and_eq_true _ _).mp n).1) (t.dp ((Bool.and_eq_true _ _).mp n).2)
end
theorem DqAll.len : ∀ {vs : List V} {ds : List PyData}, DqAll H vs ds → vs.length = ds.length
  | _, _, .nil => rfl
  | _, _, .cons _ t => by rw [List.length_cons, List.length_cons, t.len]
theorem DqAll.get : ∀ {vs : List V} {ds : List PyData}, DqAll H vs ds → ∀ {i : Nat} {v : V}, vs[i]? = some v → ∃ d, ds[i]? = some d ∧ Dq H v d
  | _, _, .nil, i, v, h => by simp at h
  | _, _, .cons (d := d) h t, 0, v, e => by
    have e' : _ = v := Option.some.inj e
    subst e'
    exact ⟨d, rfl, h⟩
  | _, _, .cons h t, i + 1, v, e => t.get (i := i) e
theorem DqAll.at : ∀ {vs : List V} {ds : List PyData}, DqAll H vs ds → ∀ {i : Nat} {d : PyData}, ds[i]? = some d → ∃ v, vs[i]? = some v ∧ Dq H v d
  | _, _, .nil, i, v, h => by simp at h
  | _, _, .cons (v := w) h t, 0, v, e => by
    have e' : _ = v := Option.some.inj e
    subst e'
    exact ⟨w, rfl, h⟩
  | _, _, .cons h t, i + 1, v, e => t.at (i := i) e
theorem DqAll.append : ∀ {vs us : List V} {ds es : List PyData}, DqAll H vs ds → DqAll H us es → DqAll H (vs ++ us) (ds ++ es)
  | _, _, _, _, .nil, q => q
  | _, _, _, _, .cons h t, q => .cons h (t.append q)
theorem DqAll.take : ∀ {vs : List V} {ds : List PyData} (n : Nat), DqAll H vs ds → DqAll H (vs.take n) (ds.take n)
  | _, _, 0, _ => .nil
  | _, _, _ + 1, .nil => .nil
  | _, _, n + 1, .cons h t => .cons h (t.take n)
theorem DqAll.drop : ∀ {vs : List V} {ds : List PyData} (n : Nat), DqAll H vs ds → DqAll H (vs.drop n) (ds.drop n)
  | _, _, 0, q => q
  | _, _, _ + 1, .nil => .nil
  | _, _, n + 1, .cons _ t => t.drop n
theorem DqAll.rep {v : V} {d : PyData} (h : Dq H v d) : ∀ n : Nat, DqAll H (List.replicate n v) (List.replicate n d)
  | 0 => .nil
  | n + 1 => .cons h (DqAll.rep h n)
theorem DqAll.ints : ∀ ns : List Int, DqAll H (ns.map V.int) (ns.map PyData.int)
  | [] => .nil
  | n :: r => .cons (.int n) (DqAll.ints r)
theorem Dq.list_inv {v : V} {ds : List PyData} (h : Dq H v (.list ds)) : ∃ a xs, v = .ref a ∧ H a = some (.lst xs) ∧ DqAll H xs ds := by
  cases h with
  | lst e h => exact ⟨_, _, rfl, e, h⟩
theorem Dq.tup_inv {v : V} {ds : List PyData} (h : Dq H v (.tuple ds)) : ∃ a xs, v = .ref a ∧ H a = some (.tup xs) ∧ DqAll H xs ds := by
  cases h with
  | tup e h => exact ⟨_, _, rfl, e, h⟩
theorem Dq.int_inv {v : V} {i : Int} (h : Dq H v (.int i)) : v = .int i := by
  cases h
  rfl
def tyN : PyData → String
  | .none => "NoneType"
  | .bool _ => "bool"
  | .int _ => "int"
  | .str _ => "str"
  | .list _ => "list"
  | .tuple _ => "tuple"
  | .dict _ => "dict"
theorem Dq.ty {v : V} {d : PyData} (h : Dq H v d) : TyX K H v (.type (tyN d)) := by
  cases h with
  | non => exact .base .non
  | bl b => exact .base (.bl b)
  | int i => exact .base (.int i)
  | str x => exact .base (.str x)
  | lst e _ => exact .base (.lst e)
  | tup e _ => exact .base (.tup e)
  | dic e => exact .base (.dK e)
def isInt : PyData → Bool
  | .int _ => true
  | .bool _ => true
  | _ => false
def isBool : PyData → Bool
  | .bool _ => true
  | _ => false
def isList : PyData → Bool
  | .list _ => true
  | _ => false
def isTuple : PyData → Bool
  | .tuple _ => true
  | _ => false
def isStr : PyData → Bool
  | .str _ => true
  | _ => false
theorem kit_int (d : PyData) : kitB (tyN d) "int" = some (isInt d) := by cases d <;> (simp only [tyN, isInt]; decide +kernel)
theorem kit_bool (d : PyData) : kitB (tyN d) "bool" = some (isBool d) := by cases d <;> (simp only [tyN, isBool]; decide +kernel)
theorem kit_list (d : PyData) : kitB (tyN d) "list" = some (isList d) := by cases d <;> (simp only [tyN, isList]; decide +kernel)
theorem kit_tuple (d : PyData) : kitB (tyN d) "tuple" = some (isTuple d) := by cases d <;> (simp only [tyN, isTuple]; decide +kernel)
theorem kit_str (d : PyData) : kitB (tyN d) "str" = some (isStr d) := by cases d <;> (simp only [tyN, isStr]; decide +kernel)
end
/-! ### readings -/
section
variable {K : PySem.W.Frag} {σ : L2.St} {H : Hp} {ta tb te tl : TE} {x v : V} {d : PyData} {T : String} {b : Bool}
theorem ev_isi (ha : Ev ta σ H v) (hd : Dq H v d) (hk : kitB (tyN d) T = some b) : Ev (tCB (rIsi K) (tCons ta (tCons (tC (.ty T)) tNil))) σ H (.bl b) := fun H1 e Q q =>
  ha H1 e _ fun H2 e2 => ⟨v, .ty T, .type (tyN d), .type T, b, rfl, .ty T, (hd.mono (e.trans e2)).ty, kit_ty hk, q H2 e2⟩
theorem ev_lenD {ds : List PyData} (ha : Ev ta σ H v) (hd : Dq H v (.list ds)) : Ev (tCB (rLenS K) (tCons ta tNil)) σ H (.int (ds.length : Int)) := by
  obtain ⟨a, xs, rfl, e, h⟩ := hd.list_inv
  rw [← h.len]
  exact ev_len ha (SqL.of e)
theorem ev_ixD {ds : List PyData} {i : Nat} (ha : Ev ta σ H v) (hd : Dq H v (.list ds)) (hb : Ev tb σ H (.int (i : Int))) (hi : i < ds.length) (k : ∀ x, Dq H x ds[i] → Ev (tOp (rIxL K) ta tb) σ H x → b = true) : b = true := by
  obtain ⟨a, xs, rfl, e, h⟩ := hd.list_inv
  obtain ⟨x, hx, hq⟩ := h.at (List.getElem?_eq_getElem hi)
  exact k x hq (ev_op ha hb (rv_ixL (SqL.of e) (atI_nat hx)))
/-- the item of a list of data at a place -/
theorem ix_D {ds : List PyData} {i : Nat} (ha : Ev ta σ H v) (hd : Dq H v (.list ds)) (hb : Ev tb σ H (.int (i : Int))) (hi : i < ds.length) : ∃ x, Dq H x ds[i] ∧ Ev (tOp (rIxL K) ta tb) σ H x := by
  obtain ⟨a, xs, rfl, e, h⟩ := hd.list_inv
  obtain ⟨x, hx, hq⟩ := h.at (List.getElem?_eq_getElem hi)
  exact ⟨x, hq, ev_op ha hb (rv_ixL (SqL.of e) (atI_nat hx))⟩
theorem given_all (n : Nat) (g : Nat → V) : given n (fun _ => true) g = (List.range n).map g := by
  unfold given
  rw [List.filter_eq_self.mpr fun _ _ => rfl]
theorem et_yes : EvT tYes σ H true := fun H1 _ _ q => q H1 (Ex.refl H1)
/-- [e for x in xs], data by data -/
theorem el_lcD {ds : List PyData} {j : Nat} {vs : List Nat} (g : PyData → V) (h : Ev tl σ H v) (hd : Dq H v (.list ds)) (hz : ds.length ≤ 40000) (hw : ∀ x, wipe ((wipe σ vs).set j (some x)) vs = wipe σ vs)
    (he : ∀ (x : V) (d : PyData) (H1 : Hp), Same H H1 → d ∈ ds → Dq H1 x d → Ev te ((wipe σ vs).set j (some x)) H1 (g d)) : EvL (tLc (iList K tl) (gName j) tYes te vs) σ H (ds.map g) := by
  obtain ⟨a, xs, rfl, e, hq⟩ := hd.list_inv
  have q := el_lcL (K := K) (t := tYes) (te := te) (j := j) (vs := vs) (fun _ => true) (fun i => g (ds.getD i .none)) h (SqL.of e) (by rw [hq.len]; exact hz) hw (fun _ _ H1 _ _ => et_yes) (fun i x H1 e1 hx _ => by
    obtain ⟨d, h1, h2⟩ := hq.get hx
    have h3 : ds.getD i .none = d := by rw [List.getD_eq_getElem?_getD, h1]; rfl
    show Ev te _ H1 (g (ds.getD i .none))
    rw [h3]
    exact he x d H1 e1 (List.mem_of_getElem? h1) (h2.mono e1))
  have e3 : given xs.length (fun _ => true) (fun i => g (ds.getD i .none)) = ds.map g := by
    rw [given_all, hq.len]
    apply List.ext_getElem
    · simp
    · intro i h1 h2
      simp at h1
      rw [List.getElem_map, List.getElem_range, List.getElem_map, List.getD_eq_getElem?_getD, List.getElem?_eq_getElem h1] <;> rfl
  rw [e3] at q
  exact q
theorem ev_all {bs : List Bool} (h : EvL ta σ H (bs.map V.bl)) : Ev (tCB (rAll K) (tCons ta tNil)) σ H (.bl (bs.all id)) := fun H1 e Q q =>
  h H1 e _ fun p H2 hp e2 h2 => ⟨p, bs, rfl, SqL.of h2, q H2 e2⟩
/-- all([p(x) for x in xs]) -/
theorem ev_allD {ds : List PyData} {j : Nat} {vs : List Nat} (p : PyData → Bool) (h : Ev tl σ H v) (hd : Dq H v (.list ds)) (hz : ds.length ≤ 40000) (hw : ∀ x, wipe ((wipe σ vs).set j (some x)) vs = wipe σ vs)
    (he : ∀ (x : V) (d : PyData) (H1 : Hp), Same H H1 → d ∈ ds → Dq H1 x d → Ev te ((wipe σ vs).set j (some x)) H1 (.bl (p d))) : Ev (tCB (rAll K) (tCons (tLc (iList K tl) (gName j) tYes te vs) tNil)) σ H (.bl (ds.all p)) := by
  have q := el_lcD (K := K) (fun d => V.bl (p d)) h hd hz hw he
  have e1 : ds.map (fun d => V.bl (p d)) = (ds.map p).map V.bl := by rw [List.map_map]; rfl
  rw [e1] at q
  have e2 : ((ds.map p).all id) = ds.all p := by rw [List.all_map]; rfl
  rw [← e2]
  exact ev_all q
end
/-! ### rules whose reading names the written part itself -/
section
variable {X : Cx}
def rTupS (K : PySem.W.Frag) : List V → Hp → VK → Prop := fun xs H Q => ∃ p ys, xs = [.ref p] ∧ ((SqL K H p ys ∧ ∀ l, H l = none → Q (.ref l) (upd H l (.tup ys))) ∨ (SqT K H p ys ∧ Q (.ref p) H))
theorem lenK (K : PySem.W.Frag) (hK : X.K = K := by rfl) : CallR X (.builtin "len") (rLenS K) := by subst hK; exact call_len_seq
theorem isiK (K : PySem.W.Frag) (hK : X.K = K := by rfl) : CallR X (.builtin "isinstance") (rIsi K) := by subst hK; exact call_isi
theorem isiTK (K : PySem.W.Frag) (hK : X.K = K := by rfl) : CallR X (.builtin "isinstance") (rIsiT K) := by subst hK; exact call_isiT
theorem allK (K : PySem.W.Frag) (hK : X.K = K := by rfl) (hc : X.calm = true := by rfl) : CallR X (.builtin "all") (rAll K) := by subst hK; exact cr_all hc
theorem anyK (K : PySem.W.Frag) (hK : X.K = K := by rfl) (hc : X.calm = true := by rfl) : CallR X (.builtin "any") (rAny K) := by subst hK; exact cr_any hc
theorem listK (K : PySem.W.Frag) (hK : X.K = K := by rfl) : CallR X (.type "list") (rListS K) := by subst hK; exact call_list_of
theorem tupK (K : PySem.W.Frag) (hK : X.K = K := by rfl) : CallR X (.type "tuple") (rTupS K) := by subst hK; exact call_tuple_of
theorem reprK (K : PySem.W.Frag) (hg : X.A.guards = some []) (hu : X.A.units + 64 < cLine) (hK : X.K = K := by rfl) : CallR X (.builtin "repr") (rReprD K) := by subst hK; exact call_reprD hg hu
theorem ixLK (K : PySem.W.Frag) (hK : X.K = K := by rfl) : IxR X (rIxL K) := by subst hK; exact ix_list
theorem ixTK (K : PySem.W.Frag) (hK : X.K = K := by rfl) : IxR X (rIxT K) := by subst hK; exact ix_tup
theorem slLK (K : PySem.W.Frag) (hK : X.K = K := by rfl) : SlR X (rSlL K) := by subst hK; exact sl_list
theorem slTK (K : PySem.W.Frag) (hK : X.K = K := by rfl) : SlR X (rSlT K) := by subst hK; exact sl_tup
theorem inK (K : PySem.W.Frag) (hK : X.K = K := by rfl) : OpR X (compareOp .In) (rIn K false) := by subst hK; exact op_in_seq
theorem notInK (K : PySem.W.Frag) (hK : X.K = K := by rfl) : OpR X (compareOp .NotIn) (rIn K true) := by subst hK; exact op_notIn_seq
theorem eqDK (K : PySem.W.Frag) (hu : X.A.units + 64 < cLine) (hK : X.K = K := by rfl) : OpR X (compareOp .Eq) (rEqD K) := by subst hK; exact op_eqD hu
theorem neDK (K : PySem.W.Frag) (hu : X.A.units + 64 < cLine) (hK : X.K = K := by rfl) : OpR X (compareOp .NotEq) (rNeD K) := by subst hK; exact op_neD hu
theorem pi_listK (K : PySem.W.Frag) {tg l : Expr} {tl : TE} (hl : PE X l tl) (hK : X.K = K := by rfl) : PI X tg l (iList K tl) := by subst hK; exact pi_list hl
theorem pi_tupK (K : PySem.W.Frag) {tg l : Expr} {tl : TE} (hl : PE X l tl) (hK : X.K = K := by rfl) : PI X tg l (iTup K tl) := by subst hK; exact pi_tup hl
theorem pi_enumK (K : PySem.W.Frag) {e : Expr} {ta : TA} {p pos tpos : Pos} {elts : List Expr} {kk : Nat} (hg : Gl X "enumerate") (hm : X.mg "enumerate" = none) (ha : PA X [e] ta) (hK : X.K = K := by rfl) (hs : starEach [e] X.env = [(false, eval e X.env)] := by rfl) :
    PI X (.Tuple elts kk tpos) (.Call (.Name "enumerate" p) [e] [] pos) (iEnum K ta) := by subst hK; exact pi_enum hg hm ha hs
theorem pi_zipK (K : PySem.W.Frag) {e e2 : Expr} {ta : TA} {p pos tpos : Pos} {elts : List Expr} {kk : Nat} (hg : Gl X "zip") (hm : X.mg "zip" = none) (ha : PA X [e, e2] ta) (hK : X.K = K := by rfl)
    (hs : starEach [e, e2] X.env = (false, eval e X.env) :: starEach [e2] X.env := by rfl) (hpl : (backTo pos (starEach [e2] X.env)).any (·.1) = false := by rfl) :
    PI X (.Tuple elts kk tpos) (.Call (.Name "zip" p) [e, e2] [] pos) (iZip K ta) := by subst hK; exact pi_zip hg hm ha hs hpl
theorem pg_tupK (K : PySem.W.Frag) {es : List Expr} {k : Nat} {t : TGs} {n : Nat} {pos : Pos} (hc : X.calm = true) (h : PGs X es t) (hK : X.K = K := by rfl) (hn : (assignEach es X.env).length = n := by rfl) (hst : (assignEach es X.env).findIdx? (·.1) = none := by rfl) :
    PG X (.Tuple es k pos) (gTup K n t) := by subst hK; exact pg_tup hc h hn hst
end
/-! ### promises: a truth of one thing -/
def spP (f : PyData → Bool) : Sp := fun vs H Q _ => ∃ v d, vs = [v] ∧ Dq H v d ∧ RetV (.bl (f d)) H Q
theorem spv_P {f : PyData → Bool} {v : V} {d : PyData} {H : Hp} (h : Dq H v d) : SpV (spP f) [v] H (.bl (f d)) := fun H1 e Q q E => ⟨v, d, rfl, h.mono e, fun H2 e2 => q H2 e2⟩
/-- a def of the text, where it stands, how it is called, what it promises -/
structure Df (P : Program) (w : World) (K : PySem.W.Frag) (mg : Str → Option Value) (base : Heap) (k : Nat) (x : Str) (st : Stmt) (ps : List Str) (f : Addr) (fd : FuncData) (sp : Sp) : Prop where
  F : Fun K x x st f fd
  g : mg x = some (.ref f)
  b : Binds K fd ps []
  G : FnOk P w K mg base CX0 k f fd ps sp
/-- the built-ins that the text asks are the built-ins still -/
structure Bl (mg : Str → Option Value) : Prop where
  int : mg "int" = none
  bool : mg "bool" = none
  list : mg "list" = none
  tuple : mg "tuple" = none
  str : mg "str" = none
  len : mg "len" = none
  all : mg "all" = none
  isinstance : mg "isinstance" = none
  range : mg "range" = none
  enumerate : mg "enumerate" = none
  zip : mg "zip" = none
  repr : mg "repr" = none
  abs : mg "abs" = none
  min : mg "min" = none
  max : mg "max" = none
  divmod : mg "divmod" = none
end Cg

set_option Elab.async false
set_option linter.all false
set_option maxRecDepth 100000
namespace Cg
open PySem PySem.Spec PyProof.Rows L2 Evl
/-! ### all but some objects is kept -/
def hid (bs : List Addr) (H : Hp) : Hp := fun a => if a ∈ bs then none else H a
def Keep (bs : List Addr) (H H' : Hp) : Prop := Same (hid bs H) (hid bs H')
section
variable {bs cs : List Addr} {H H1 H2 H3 : Hp} {p a : Addr} {o u : HO}
theorem hid_in (h : a ∈ bs) : hid bs H a = none := if_pos h
theorem hid_out (h : a ∉ bs) : hid bs H a = H a := if_neg h
theorem hid_some (h : hid bs H a = some o) : a ∉ bs ∧ H a = some o := by
  by_cases hm : a ∈ bs
  · rw [hid_in hm] at h; cases h
  · rw [hid_out hm] at h; exact ⟨hm, h⟩
theorem hid_same : Same (hid bs H) H := fun b x e => (hid_some e).2
theorem Keep.refl (bs : List Addr) (H : Hp) : Keep bs H H := Same.refl _
theorem Keep.trans (k : Keep bs H H1) (j : Keep bs H1 H2) : Keep bs H H2 := Same.trans k j
theorem Keep.of (e : Same H H1) : Keep bs H H1 := fun b x q => by
  obtain ⟨h1, h2⟩ := hid_some q
  rw [hid_out h1]
  exact e b x h2
theorem Keep.ext (k : Keep bs H H1) (e : Same H1 H2) : Keep bs H H2 := k.trans (.of e)
theorem Keep.new (k : Keep bs H H1) (h : H1 p = none) : Keep bs H (upd H1 p o) := k.ext (Ex.new h)
theorem Keep.put (k : Keep bs H H1) (h : p ∈ bs) : Keep bs H (upd H1 p o) := k.trans fun b x q => by
  obtain ⟨h1, h2⟩ := hid_some q
  rw [hid_out h1, upd_ne (fun z => h1 (by rw [z]; exact h))]
  exact h2
theorem Keep.more (k : Keep bs H H1) (h : ∀ b ∈ bs, b ∈ cs) : Keep cs H H1 := fun b x q => by
  obtain ⟨h1, h2⟩ := hid_some q
  have h3 : b ∉ bs := fun z => h1 (h b z)
  have := k b x (by rw [hid_out h3]; exact h2)
  rw [hid_out h1]
  exact (hid_some this).2
theorem Keep.get (k : Keep bs H H1) (h : a ∉ bs) (e : H a = some o) : H1 a = some o := (hid_some (k a o (by rw [hid_out h]; exact e))).2
theorem Keep.dq {v : V} {d : PyData} (k : Keep bs H H1) (h : Dq (hid bs H) v d) : Dq (hid bs H1) v d := h.mono k
theorem Keep.dqAll {v : List V} {d : List PyData} (k : Keep bs H H1) (h : DqAll (hid bs H) v d) : DqAll (hid bs H1) v d := h.mono k
theorem dq_vis {v : V} {d : PyData} (h : Dq (hid bs H) v d) : Dq H v d := h.mono hid_same
theorem dqAll_vis {v : List V} {d : List PyData} (h : DqAll (hid bs H) v d) : DqAll H v d := h.mono hid_same
theorem hid_less (h : ∀ b ∈ bs, b ∈ cs) : Same (hid cs H) (hid bs H) := fun b x q => by
  obtain ⟨h1, h2⟩ := hid_some q
  rw [hid_out (fun z => h1 (h b z))]
  exact h2
/-- a new object beside what is hidden -/
theorem new_out (h : H p = none) (hb : ∀ b ∈ bs, H b ≠ none) : p ∉ bs := fun z => hb p z h
end
/-! ### the box of draws -/
def Box (H : Hp) (b : Addr) (n : Nat) : Prop := ∃ r s c : Int, H b = some (.lst [.int r, .int s, .int c]) ∧ 0 ≤ r ∧ 0 ≤ s ∧ s < 2147483647 ∧ 0 ≤ c ∧ c ≤ n
section
variable {bs : List Addr} {H H1 : Hp} {b : Addr} {n m : Nat}
theorem Box.mono (h : Box H b n) (e : Same H H1) : Box H1 b n := by
  obtain ⟨r, s, c, h1, h2⟩ := h
  exact ⟨r, s, c, e _ _ h1, h2⟩
theorem Box.keep (h : Box H b n) (k : Keep bs H H1) (hb : b ∉ bs) : Box H1 b n := by
  obtain ⟨r, s, c, h1, h2⟩ := h
  exact ⟨r, s, c, k.get hb h1, h2⟩
theorem Box.le (h : Box H b n) (hm : n ≤ m) : Box H b m := by
  obtain ⟨r, s, c, h1, h2, h3, h4, h5, h6⟩ := h
  exact ⟨r, s, c, h1, h2, h3, h4, h5, by omega⟩
theorem Box.is (h : Box H b n) : H b ≠ none := by
  obtain ⟨r, s, c, h1, _⟩ := h
  rw [h1]
  exact fun z => nomatch z
theorem Box.ne {p : Addr} (h : Box H b n) (hp : H p = none) : p ≠ b := fun z => h.is (z ▸ hp)
theorem Box.upd {p : Addr} {o : HO} (h : Box H b n) (hp : H p = none) : Box (L2.upd H p o) b n := h.mono (Ex.new hp)
end
theorem Keep.free {H H1 : Hp} {b p : Addr} {n : Nat} (k : Keep [b] H H1) (hB : Box H1 b n) (hp : H1 p = none) : H p = none := by
  cases hh : H p with
  | none => rfl
  | some o =>
    have hb : p ∉ [b] := by simpa using hB.ne hp
    rw [k.get hb hh] at hp
    cases hp
theorem Box.out {H : Hp} {b p : Addr} {n : Nat} (hB : Box H b n) (hp : H p = none) : p ∉ [b] := by simpa using hB.ne hp
theorem Box.outT {H : Hp} {b p : Addr} {n : Nat} {xs : List V} (hB : Box H b n) (hp : H p = some (.tup xs)) : p ∉ [b] := fun z => by
  have z' : p = b := by simpa using z
  obtain ⟨r, s, c, g, _⟩ := hB
  rw [← z', hp] at g
  cases g
theorem Keep.putNew {H H1 : Hp} {bs : List Addr} {p : Addr} {o : HO} (k : Keep bs H H1) (h : H p = none) : Keep bs H (upd H1 p o) := fun a x q => by
  obtain ⟨q1, q2⟩ := hid_some q
  rw [hid_out q1, upd_ne (ne_of_none q2 h)]
  exact k.get q1 q2
theorem Box.put {H : Hp} {b p : Addr} {n : Nat} {o : HO} (h : Box H b n) (hp : p ≠ b) : Box (L2.upd H p o) b n := by
  obtain ⟨r, s, c, g, g'⟩ := h
  exact ⟨r, s, c, by rw [upd_ne hp.symm]; exact g, g'⟩
/-- what is kept is tracked still -/
theorem Keep.live {H H1 : Hp} {b x : Addr} {n : Nat} (k : Keep [b] H H1) (hB : Box H1 b n) (hx : H x ≠ none) : H1 x ≠ none := by
  by_cases e : x = b
  · subst e; exact hB.is
  · cases hh : H x with
    | none => exact absurd hh hx
    | some o =>
      rw [k.get (by simpa using e) hh]
      exact fun z => nomatch z
/-- the data of a table -/
def TblD (n m : Nat) (d : PyData) : Prop := ∃ rows : List PyData, d = .list rows ∧ rows.length = n ∧ ∀ r ∈ rows, ∃ xs : List PyData, r = .list xs ∧ xs.length = m ∧ ∀ x ∈ xs, x = .int 0 ∨ x = .int 1
/-- what a draw promises -/
def spTake : Sp := fun vs H Q _ => ∃ (b : Addr) (m : Int) (n : Nat), vs = [.ref b, .int m] ∧ Box H b n ∧ n ≤ 1000000000 ∧ 1 ≤ m ∧ m ≤ 10000000 ∧
  ∀ (k : Int) (H' : Hp), 0 ≤ k → k < m → Box H' b (n + 1) → Keep [b] H H' → Q (.int k) H'
/-- a draw, read -/
theorem r_take {σ : L2.St} {H : Hp} {Q : VK} {te : TE} {i : Nat} {b : Addr} {m : Int} {n : Nat} (hs : σ[i]? = some (some (.ref b))) (hm : Ev te σ H (.int m)) (hB : Box H b n) (hn : n ≤ 1000000000) (h1 : 1 ≤ m) (h2 : m ≤ 10000000)
    (k : ∀ (k : Int) (H' : Hp), 0 ≤ k → k < m → Box H' b (n + 1) → Keep [b] H H' → Q (.int k) H') : tCall spTake [] E0 (tCons (tVar i) (tCons te tNil)) σ H Q :=
  ⟨.ref b, hs, hm H (Ex.refl H) _ fun H1 e1 => ⟨b, m, n, rfl, hB.mono e1, hn, h1, h2, fun x H2 a1 a2 a3 a4 => k x H2 a1 a2 a3 ((Keep.of e1).trans a4)⟩⟩
theorem ev_cb1 {σ : L2.St} {H : Hp} {r : List V → Hp → VK → Prop} {ta : TE} {x z : V} (h : Ev ta σ H x) (hr : ∀ (H1 : Hp) (Q : VK), Q z H1 → r [x] H1 Q) : Ev (tCB r (tCons ta tNil)) σ H z := ev_cb (ea_cons h ea_nil) fun H1 _ Q q => hr H1 Q (q H1 (Ex.refl _))
theorem ev_cb2 {σ : L2.St} {H : Hp} {r : List V → Hp → VK → Prop} {ta tb : TE} {x y z : V} (h : Ev ta σ H x) (h' : Ev tb σ H y) (hr : ∀ (H1 : Hp) (Q : VK), Q z H1 → r [x, y] H1 Q) : Ev (tCB r (tCons ta (tCons tb tNil))) σ H z := ev_cb (ea_cons h (ea_cons h' ea_nil)) fun H1 _ Q q => hr H1 Q (q H1 (Ex.refl _))
/-- for (k, x) in enumerate(xs), xs left as it is -/
theorem for_enum {K : PySem.W.Frag} {a : Addr} {xs : List V} {g : TG} {tb : TS} {D : Ends} {σ : L2.St} {H : Hp} (Pv : Nat → L2.St → Hp → Prop) (h0 : Pv 0 σ H) (hl : ∀ i σ H, i ≤ xs.length → Pv i σ H → SqL K H a xs)
    (hs : ∀ i x T σ H, xs[i]? = some x → Pv i σ H → H T = none → g (.ref T) σ (upd H T (.tup [.int (i : Nat), x])) fun σ2 H2 => tb { D with nx := Pv (i + 1), ct := Pv (i + 1), bk := D.nx } σ2 H2) (hd : ∀ σ H, Pv xs.length σ H → D.nx σ H) :
    ∃ W : Nat → Nat → L2.St → Hp → Prop, (∃ m, W 0 m σ H) ∧ ∀ i m σ H, W i m σ H → ((Ite K a).stop i H ∧ D.nx σ H) ∨ ((Ite K a).go i H ∧ ∃ N : L2.St → Hp → Prop, (∀ σ' H', N σ' H' → ∃ m', m' < m ∧ W (i + 1) m' σ' H') ∧
      ∀ x H', (Ite K a).yld i H x H' → g x σ H' fun σ2 H2 => tb { D with nx := N, ct := N, bk := D.nx } σ2 H2) := by
  refine ⟨fun i m σ H => i + m = xs.length ∧ Pv i σ H, ⟨xs.length, by omega, h0⟩, fun i m σ H hw => ?_⟩
  obtain ⟨e, p⟩ := hw
  have q := hl i σ H (by omega) p
  cases m with
  | zero =>
    obtain rfl : i = xs.length := by omega
    exact .inl ⟨⟨xs, q, Nat.le_refl _⟩, hd σ H p⟩
  | succ m =>
    have hi : i < xs.length := by omega
    refine .inr ⟨⟨xs, xs[i], q, List.getElem?_eq_getElem hi⟩, Pv (i + 1), fun σ' H' p' => ⟨m, by omega, by omega, p'⟩, fun v H' y => ?_⟩
    obtain ⟨T, x, rfl, hT, rfl, hx⟩ := y
    exact hs i x T σ H (hx xs q) p hT
theorem q_forE {K : PySem.W.Frag} {σ : L2.St} {H : Hp} {tl : TE} {i j : Nat} {xs : List V} {tu tz : TS} {D : Ends} (h : EvL tl σ H xs) (Pv : Addr → Nat → L2.St → Hp → Prop) (h0 : ∀ p H1, H p = none → Same H H1 → H1 p = some (.lst xs) → Pv p 0 σ H1)
    (hl : ∀ p k σ' H', k ≤ xs.length → Pv p k σ' H' → SqL K H' p xs)
    (hs : ∀ p (k : Nat) x T σ' H', xs[k]? = some x → Pv p k σ' H' → H' T = none → tu { D with nx := Pv p (k + 1), ct := Pv p (k + 1), bk := tz D } ((σ'.set i (some (.int (k : Nat)))).set j (some x)) (upd H' T (.tup [.int (k : Nat), x])))
    (hd : ∀ p σ' H', Pv p xs.length σ' H' → tz D σ' H') : tSeq (tFor (iEnum K (tCons tl tNil)) (gTup K 2 (gCons (gName i) (gCons (gName j) gNil))) tu) tz D σ H := by
  refine h H (Ex.refl _) _ fun p H1 np e1 hp => ⟨p, xs, rfl, SqL.of hp, ?_⟩
  refine for_enum (D := { D with nx := tz D }) (Pv p) (h0 p H1 np e1 hp) (hl p) (fun k x T σ' H' hx hP hT => ?_) (hd p)
  exact ⟨T, _, rfl, SqT.of upd_same, rfl, _, _, rfl, _, _, rfl, rfl, hs p k x T σ' H' hx hP hT⟩
/-- [e for k in range(n)], e a draw or more at each turn -/
theorem r_lcB {σ : L2.St} {H : Hp} {Q : VK} {ta : TA} {te : TE} {j n : Nat} {vs : List Nat} {b : Addr} {N c : Nat} {bs : List Addr} (p : PyData → Prop) (hb : b ∈ bs) (hbs : ∀ x ∈ bs, H x ≠ none) (hB : Box H b N) (ha : EvA ta σ H [.int (n : Int)]) (hn : n ≤ 40000)
    (hw : ∀ x, wipe ((wipe σ vs).set j (some x)) vs = wipe σ vs)
    (step : ∀ (i : Nat) (H' : Hp) (cs : List Addr) (Q' : VK), i < n → (∀ x ∈ bs, x ∈ cs) → (∀ x ∈ cs, H' x ≠ none) → Box H' b (N + c * i) → Keep cs H H' →
      (∀ (y : V) (d : PyData) (H2 : Hp), Box H2 b (N + c * (i + 1)) → Keep [b] H' H2 → Dq (hid cs H2) y d → p d → Q' y H2) → te ((wipe σ vs).set j (some (.int (i : Int)))) H' Q')
    (k : ∀ (D : Addr) (ds : List PyData) (H' : Hp), H D = none → Box H' b (N + c * n) → Keep [b] H H' → Dq (hid bs H') (.ref D) (.list ds) → ds.length = n → (∀ d ∈ ds, p d) → Q (.ref D) H') :
    tLc (iRng1 ta) (gName j) tYes te vs σ H Q := by
  refine ha H (Ex.refl _) _ fun H1 e1 => ⟨n, rfl, by omega, by omega, fun D hD => ?_⟩
  have hHD : H D = none := fresh_back e1 hD
  have hDb : D ∉ bs := fun z => hbs D z hHD
  have toN : ((n : Int)).toNat = n := by omega
  rw [toN]
  refine lc_range (lo := 0) (n := n) (fun i H' => ∃ (acc : List V) (ds : List PyData), H' D = some (.lst acc) ∧ ds.length = i ∧ DqAll (hid (D :: bs) H') acc ds ∧ (∀ d ∈ ds, p d) ∧ Box H' b (N + c * i) ∧ Keep [b] H H')
    ⟨[], [], upd_same, rfl, .nil, (fun _ z => nomatch z), (hB.mono e1).upd hD, (Keep.of e1).new hD⟩ (fun i H' hi hp => ?_) (fun H' hp => ?_)
  · obtain ⟨acc, ds, h1, h2, h3, h4, h5, h6⟩ := hp
    have e0 : (0 : Int) + (i : Int) = (i : Int) := Int.zero_add _
    show wipe ((wipe σ vs).set j (some (.int ((0 : Int) + (i : Int))))) vs = wipe σ vs ∧ te ((wipe σ vs).set j (some (.int ((0 : Int) + (i : Int))))) H' _
    rw [e0]
    refine ⟨hw _, step i H' (D :: bs) _ hi (fun x hx => List.mem_cons_of_mem _ hx) (fun x hx => ?_) h5 (h6.more fun x hx => ?_) fun y d H2 b1 b2 b3 b4 => ?_⟩
    · rcases List.mem_cons.mp hx with rfl | hx
      · rw [h1]; exact fun z => nomatch z
      · by_cases hxb : x = b
        · subst hxb; exact h5.is
        · intro z
          cases hh : H x with
          | none => exact hbs x hx hh
          | some o =>
            rw [h6.get (by simpa using hxb) hh] at z
            cases z
    · have e : x = b := by simpa using hx
      subst e
      exact List.mem_cons_of_mem _ hb
    · have hbD : D ≠ b := fun z => hDb (z ▸ hb)
      have hb1 : D ∉ [b] := by simpa using hbD
      refine ⟨acc, b2.get hb1 h1, ?_, acc ++ [y], ds ++ [d], upd_same, by rw [List.length_append, h2] <;> rfl, ?_, ?_, ?_, ?_⟩
      · have := h3.len
        rw [h2] at this
        exact Nat.lt_of_le_of_lt (Nat.le_of_eq this) (Nat.lt_of_lt_of_le (Nat.lt_trans hi (Nat.lt_of_le_of_lt hn (by decide : 40000 < 50000))) (by decide))
      · have kk : Keep (D :: bs) H' (upd H2 D (.lst (acc ++ [y]))) := (b2.more fun x hx => by
          have e : x = b := by simpa using hx
          subst e
          exact List.mem_cons_of_mem _ hb).put (List.mem_cons_self ..)
        have k2 : Keep (D :: bs) H2 (upd H2 D (.lst (acc ++ [y]))) := (Keep.refl _ _).put (List.mem_cons_self ..)
        exact (kk.dqAll h3).append (.cons (k2.dq b3) .nil)
      · intro d' hd'
        rcases List.mem_append.mp hd' with hd' | hd'
        · exact h4 d' hd'
        · have e : d' = d := by simpa using hd'
          subst e
          exact b4
      · obtain ⟨r, s, c', g1, g2⟩ := b1
        exact ⟨r, s, c', by rw [upd_ne hbD.symm]; exact g1, g2⟩
      · intro x o q
        obtain ⟨q1, q2⟩ := hid_some q
        have hxD : x ≠ D := ne_of_none q2 hHD
        rw [hid_out q1, upd_ne hxD]
        exact b2.get q1 (h6.get q1 q2)
  · obtain ⟨acc, ds, h1, h2, h3, h4, h5, h6⟩ := hp
    refine k D ds H' hHD h5 h6 (.lst (by rw [hid_out hDb]; exact h1) (h3.mono (hid_less fun x hx => List.mem_cons_of_mem _ hx))) h2 h4
end Cg

set_option Elab.async false
set_option linter.all false
set_option maxRecDepth 100000
namespace Cg
open PySem PySem.Spec PyProof.Rows L2 Evl
/-! ### readings by the data: nothing is changed, bs is what may be hidden -/
def Live (bs : List Addr) (H : Hp) : Prop := ∀ x ∈ bs, H x ≠ none
def EvQ (bs : List Addr) (te : TE) (σ : L2.St) (H : Hp) (d : PyData) : Prop := ∀ H1, Same H H1 → ∀ Q : VK, (∀ v H2, Same H1 H2 → Dq (hid bs H2) v d → Q v H2) → te σ H1 Q
def EvQA (bs : List Addr) (ta : TA) (σ : L2.St) (H : Hp) (ds : List PyData) : Prop := ∀ H1, Same H H1 → ∀ Q : List V → Hp → Prop, (∀ vs H2, Same H1 H2 → DqAll (hid bs H2) vs ds → Q vs H2) → ta σ H1 Q
def cutG {α : Type} (xs : List α) (lo hi : Option Int) : List α := (xs.drop (HT.sIx xs.length 0 lo)).take (HT.sIx xs.length xs.length hi - HT.sIx xs.length 0 lo)
section
variable {bs : List Addr} {K : PySem.W.Frag} {σ : L2.St} {H H' : Hp} {ta tb te : TE} {v : V} {d e : PyData} {ds es : List PyData} {T : String} {b : Bool}
theorem Live.mono (l : Live bs H) (e : Same H H') : Live bs H' := fun x hx => by
  cases hh : H x with
  | none => exact absurd hh (l x hx)
  | some o => rw [e x o hh]; exact fun z => nomatch z
theorem Live.out {p : Addr} (l : Live bs H) (hp : H p = none) : p ∉ bs := fun z => l p z hp
theorem Live.keep {b : Addr} {n : Nat} (l : Live bs H) (k : Keep [b] H H') (hB : Box H' b n) : Live bs H' := fun x hx => k.live hB (l x hx)
theorem keep_up {b : Addr} (hb : b ∈ bs) (k : Keep [b] H H') : Keep bs H H' := k.more fun x hx => by
  have e : x = b := by simpa using hx
  subst e
  exact hb
theorem same_hid (e : Same H H') : Same (hid bs H) (hid bs H') := Keep.of e
theorem EvQ.mono (s : Same H H') (h : EvQ bs te σ H d) : EvQ bs te σ H' d := fun H1 a Q q => h H1 (s.trans a) Q q
theorem eq_ev (h : Ev te σ H v) (hd : Dq (hid bs H) v d) : EvQ bs te σ H d := fun H1 a Q q => h H1 a Q fun H2 e2 => q v H2 e2 (hd.mono (same_hid (a.trans e2)))
theorem eq_var {i : Nat} (h : σ[i]? = some (some v)) (hd : Dq (hid bs H) v d) : EvQ bs (tVar i) σ H d := eq_ev (ev_var h) hd
theorem eq_int {i : Int} (h : Ev te σ H (.int i)) : EvQ bs te σ H (.int i) := eq_ev h (.int i)
theorem eq_bl {b : Bool} (h : Ev te σ H (.bl b)) : EvQ bs te σ H (.bool b) := eq_ev h (.bl b)
theorem eq_non (h : Ev te σ H .non) : EvQ bs te σ H .none := eq_ev h .non
theorem eq_str {x : Str} (h : Ev te σ H (.str x)) : EvQ bs te σ H (.str x) := eq_ev h (.str x)
theorem ev_int {i : Int} (h : EvQ bs te σ H (.int i)) : Ev te σ H (.int i) := fun H1 a Q q => h H1 a Q fun v H2 e2 hd => by
  rw [hd.int_inv]
  exact q H2 e2
theorem qa_nil : EvQA bs tNil σ H [] := fun H1 _ _ q => q [] H1 (Same.refl _) .nil
theorem qa_cons {tr : TA} (h : EvQ bs te σ H d) (hr : EvQA bs tr σ H ds) : EvQA bs (tCons te tr) σ H (d :: ds) := fun H1 a Q q => h H1 a _ fun v H2 e2 hd =>
  hr H2 (a.trans e2) _ fun vs H3 e3 hds => q (v :: vs) H3 (e2.trans e3) (.cons (hd.mono (same_hid e3)) hds)
theorem eq_lst {ta : TA} (l : Live bs H) (h : EvQA bs ta σ H ds) (hz : ds.length ≤ 1000000) : EvQ bs (tLst ta) σ H (.list ds) := fun H1 a Q q => h H1 a _ fun vs H2 e2 hds =>
  ⟨by rw [hds.len]; exact Nat.le_trans hz (by decide), fun p np => q _ _ (e2.trans (Ex.new np)) (.lst (by rw [hid_out ((l.mono (a.trans e2)).out np), upd_same]) (hds.mono (same_hid (Ex.new np))))⟩
theorem eq_tup {ta : TA} (l : Live bs H) (h : EvQA bs ta σ H ds) (hz : ds.length ≤ 1000000) : EvQ bs (tTup ta) σ H (.tuple ds) := fun H1 a Q q => h H1 a _ fun vs H2 e2 hds =>
  ⟨by rw [hds.len]; exact Nat.le_trans hz (by decide), fun p np => q _ _ (e2.trans (Ex.new np)) (.tup (by rw [hid_out ((l.mono (a.trans e2)).out np), upd_same]) (hds.mono (same_hid (Ex.new np))))⟩
theorem eq_cat (l : Live bs H) (ha : EvQ bs ta σ H (.list ds)) (hb : EvQ bs tb σ H (.list es)) (hz : ds.length + es.length ≤ 1000000) : EvQ bs (tOp rCat ta tb) σ H (.list (ds ++ es)) := fun H1 a Q q => ha H1 a _ fun v H2 e2 hd => hb H2 (a.trans e2) _ fun u H3 e3 he => by
  obtain ⟨p, xs, rfl, hp, hx⟩ := (hd.mono (same_hid e3)).list_inv
  obtain ⟨r, ys, rfl, hr, hy⟩ := he.list_inv
  refine ⟨p, r, xs, ys, rfl, rfl, (hid_some hp).2, (hid_some hr).2, by rw [hx.len, hy.len]; exact Nat.le_trans hz (by decide), fun z nz => q _ _ ((e2.trans e3).trans (Ex.new nz)) (.lst (by rw [hid_out ((l.mono ((a.trans e2).trans e3)).out nz), upd_same]) ?_)⟩
  exact (hx.append hy).mono (same_hid (Ex.new nz))
theorem DqAll.cut {xs : List V} (h : DqAll H xs ds) (lo hi : Option Int) : DqAll H (cutV xs lo hi) (cutG ds lo hi) := by
  unfold cutV cutG
  rw [h.len]
  exact (h.drop _).take _
theorem eq_sl {tl th : TO} {lo hi : Option Int} (l : Live bs H) (ha : EvQ bs ta σ H (.list ds)) (h1 : EvO tl σ H lo) (h2 : EvO th σ H hi) : EvQ bs (tSl (rSlL K) ta tl th) σ H (.list (cutG ds lo hi)) := fun H1 a Q q => ha H1 a _ fun v H2 e2 hd =>
  h1 H2 (a.trans e2) _ fun H3 e3 => h2 H3 ((a.trans e2).trans e3) _ fun H4 e4 => by
  obtain ⟨p, xs, rfl, hp, hx⟩ := (hd.mono (same_hid (e3.trans e4))).list_inv
  exact ⟨p, xs, rfl, SqL.of (hid_some hp).2, fun z nz => q _ _ (((e2.trans e3).trans e4).trans (Ex.new nz)) (.lst (by rw [hid_out ((l.mono (((a.trans e2).trans e3).trans e4)).out nz), upd_same]) ((hx.cut lo hi).mono (same_hid (Ex.new nz))))⟩
theorem DqAll.flat {xs : List V} (h : DqAll H xs ds) : ∀ n : Nat, DqAll H (List.replicate n xs).flatten (List.replicate n ds).flatten
  | 0 => .nil
  | n + 1 => by
    rw [List.replicate_succ, List.flatten_cons, List.replicate_succ, List.flatten_cons]
    exact h.append (h.flat n)
theorem eq_rep {n : Nat} (l : Live bs H) (ha : EvQ bs ta σ H (.list ds)) (hb : Ev tb σ H (.int (n : Int))) (hn : n ≤ 1000000) (hz : ds.length * n ≤ 1000000) : EvQ bs (tOp rRep ta tb) σ H (.list (List.replicate n ds).flatten) := fun H1 a Q q => ha H1 a _ fun v H2 e2 hd => hb H2 (a.trans e2) _ fun H3 e3 => by
  obtain ⟨p, xs, rfl, hp, hx⟩ := (hd.mono (same_hid e3)).list_inv
  have e : ((n : Int)).toNat = n := by simp
  refine ⟨p, n, xs, rfl, rfl, (hid_some hp).2, by omega, by omega, by rw [hx.len, e]; exact Nat.le_trans hz (by decide), fun z nz => q _ _ ((e2.trans e3).trans (Ex.new nz)) (.lst (by rw [hid_out ((l.mono ((a.trans e2).trans e3)).out nz), upd_same]) ?_)⟩
  rw [e]
  exact (hx.flat n).mono (same_hid (Ex.new nz))
theorem eq_tupleL (l : Live bs H) (ha : EvQ bs ta σ H (.list ds)) : EvQ bs (tCB (rTupS K) (tCons ta tNil)) σ H (.tuple ds) := fun H1 a Q q => ha H1 a _ fun v H2 e2 hd => by
  obtain ⟨p, xs, rfl, hp, hx⟩ := hd.list_inv
  exact ⟨p, xs, rfl, .inl ⟨SqL.of (hid_some hp).2, fun z nz => q _ _ (e2.trans (Ex.new nz)) (.tup (by rw [hid_out ((l.mono (a.trans e2)).out nz), upd_same]) (hx.mono (same_hid (Ex.new nz))))⟩⟩
theorem eq_listL (l : Live bs H) (ha : EvQ bs ta σ H (.list ds)) : EvQ bs (tCB (rListS K) (tCons ta tNil)) σ H (.list ds) := fun H1 a Q q => ha H1 a _ fun v H2 e2 hd => by
  obtain ⟨p, xs, rfl, hp, hx⟩ := hd.list_inv
  exact ⟨p, xs, rfl, .inl (SqL.of (hid_some hp).2), fun z nz => q _ _ (e2.trans (Ex.new nz)) (.lst (by rw [hid_out ((l.mono (a.trans e2)).out nz), upd_same]) (hx.mono (same_hid (Ex.new nz))))⟩
theorem atG {xs : List V} {i : Int} (h : DqAll H xs ds) (hi : atI ds i = some d) : ∃ x, atI xs i = some x ∧ Dq H x d := by
  unfold atI at hi ⊢
  rw [h.len]
  cases hx : ixN ds.length i with
  | none => rw [hx] at hi; cases hi
  | some j =>
    rw [hx] at hi
    exact h.at hi
theorem eq_ix {i : Int} (ha : EvQ bs ta σ H (.list ds)) (hb : Ev tb σ H (.int i)) (hi : atI ds i = some d) : EvQ bs (tOp (rIxL K) ta tb) σ H d := fun H1 a Q q => ha H1 a _ fun v H2 e2 hd => hb H2 (a.trans e2) _ fun H3 e3 => by
  obtain ⟨p, xs, rfl, hp, hx⟩ := (hd.mono (same_hid e3)).list_inv
  obtain ⟨x, h1, h2⟩ := atG hx hi
  exact ⟨p, xs, i, x, rfl, rfl, SqL.of (hid_some hp).2, h1, q x H3 (e2.trans e3) h2⟩
theorem ev_isiQ (ha : EvQ bs ta σ H d) (hk : kitB (tyN d) T = some b) : Ev (tCB (rIsi K) (tCons ta (tCons (tC (.ty T)) tNil))) σ H (.bl b) := fun H1 e Q q =>
  ha H1 e _ fun v H2 e2 hd => ⟨v, .ty T, .type (tyN d), .type T, b, rfl, .ty T, (dq_vis hd).ty, kit_ty hk, q H2 e2⟩
theorem ev_lenQ (ha : EvQ bs ta σ H (.list ds)) : Ev (tCB (rLenS K) (tCons ta tNil)) σ H (.int (ds.length : Int)) := fun H1 e Q q => ha H1 e _ fun v H2 e2 hd => by
  obtain ⟨p, xs, rfl, hp, hx⟩ := hd.list_inv
  refine ⟨p, xs, rfl, .inl (SqL.of (hid_some hp).2), ?_⟩
  rw [hx.len]
  exact q H2 e2
theorem ev_lenQT (ha : EvQ bs ta σ H (.tuple ds)) : Ev (tCB (rLenS K) (tCons ta tNil)) σ H (.int (ds.length : Int)) := fun H1 e Q q => ha H1 e _ fun v H2 e2 hd => by
  obtain ⟨p, xs, rfl, hp, hx⟩ := hd.tup_inv
  refine ⟨p, xs, rfl, .inr (SqT.of (hid_some hp).2), ?_⟩
  rw [hx.len]
  exact q H2 e2
theorem ev_neQ (ha : EvQ bs ta σ H d) (hb : EvQ bs tb σ H e) (s1 : SeqAt.shaped d = true) (s2 : SeqAt.shaped e = true) : Ev (tOp (rNeD K) ta tb) σ H (.bl (!PyData.eqv d e)) := fun H1 a Q q => ha H1 a _ fun v H2 e2 hd => hb H2 (a.trans e2) _ fun u H3 e3 he =>
  ⟨d, e, (dq_vis (hd.mono (same_hid e3))).dp (noD_shaped s1), (dq_vis he).dp (noD_shaped s2), s1, s2, q H3 (e2.trans e3)⟩
theorem ev_eqQ (ha : EvQ bs ta σ H d) (hb : EvQ bs tb σ H e) (s1 : SeqAt.shaped d = true) (s2 : SeqAt.shaped e = true) : Ev (tOp (rEqD K) ta tb) σ H (.bl (PyData.eqv d e)) := fun H1 a Q q => ha H1 a _ fun v H2 e2 hd => hb H2 (a.trans e2) _ fun u H3 e3 he =>
  ⟨d, e, (dq_vis (hd.mono (same_hid e3))).dp (noD_shaped s1), (dq_vis he).dp (noD_shaped s2), s1, s2, q H3 (e2.trans e3)⟩
theorem eq_if {t : TT} {c : Bool} (h : EvT t σ H c) (h1 : c = true → EvQ bs ta σ H d) (h2 : c = false → EvQ bs tb σ H d) : EvQ bs (tIf t ta tb) σ H d := fun H1 a Q q => h H1 a _ fun H2 e2 => by
  cases c with
  | true => exact iteT (h1 rfl H2 (a.trans e2) Q fun v H3 e3 hd => q v H3 (e2.trans e3) hd)
  | false => exact iteF (h2 rfl H2 (a.trans e2) Q fun v H3 e3 hd => q v H3 (e2.trans e3) hd)
mutual
theorem canLay_ok : ∀ d : PyData, okD d = true → d.canLay0 = true
  | .none, _ => rfl
  | .bool _, _ => rfl
  | .int _, _ => rfl
  | .str x, h => h
  | .list xs, h => canLayAll_ok xs h
  | .tuple xs, h => canLayAll_ok xs h
  | .dict _, h => by cases h
theorem canLayAll_ok : ∀ xs : List PyData, okAll xs = true → PyData.canLayAll0 xs = true
  | [], _ => rfl
  | x :: r, h => by
    have h' : (okD x && okAll r) = true := h
    rw [Bool.and_eq_true] at h'
    show (PyData.canLay0 x && PyData.canLayAll0 r) = true
    rw [canLay_ok x h'.1, canLayAll_ok r h'.2] <;> rfl
end
theorem shaped_ok {d : PyData} (h : okD d = true) (hd : d.depth ≤ 64) : SeqAt.shaped d = true := by
  show (d.canLay0 && decide (d.depth ≤ 64)) = true
  rw [canLay_ok d h, decide_eq_true hd] <;> rfl
/-! statements -/
variable {D : Ends} {tz : TS}
theorem q_asgQ {i : Nat} (h : EvQ bs te σ H d) (k : ∀ v H1, Same H H1 → Dq (hid bs H1) v d → tz D (σ.set i (some v)) H1) : tSeq (tAsg te (gName i)) tz D σ H := h H (Same.refl _) _ fun v H1 e1 hd => k v H1 e1 hd
theorem s_asgQ {i : Nat} (h : EvQ bs te σ H d) (k : ∀ v H1, Same H H1 → Dq (hid bs H1) v d → D.nx (σ.set i (some v)) H1) : tAsg te (gName i) D σ H := h H (Same.refl _) _ fun v H1 e1 hd => k v H1 e1 hd
theorem s_retQ (h : EvQ bs te σ H d) (k : ∀ v H1, Same H H1 → Dq (hid bs H1) v d → D.rt v H1) : tRet te D σ H := h H (Same.refl _) _ fun v H1 e1 hd => k v H1 e1 hd
/-- a, b = x, y -/
theorem q_parQ {i j : Nat} {d2 : PyData} (h : EvQA bs (tCons ta (tCons tb tNil)) σ H [d, d2]) (k : ∀ v u H1, Same H H1 → Dq (hid bs H1) v d → Dq (hid bs H1) u d2 → tz D ((σ.set i (some v)).set j (some u)) H1) : tSeq (tPar i j (tCons ta (tCons tb tNil))) tz D σ H := by
  show (tCons ta (tCons tb tNil)) σ H (fun vs H1 => ∃ v w, vs = [v, w] ∧ tz D ((σ.set i (some v)).set j (some w)) H1)
  refine h H (Same.refl _) _ fun vs H1 e1 hd => ?_
  cases hd with
  | cons h1 t1 => cases t1 with
    | cons h2 t2 => cases t2 with
      | nil => exact ⟨_, _, rfl, k _ _ H1 e1 h1 h2⟩
/-- x = draw -/
theorem q_take {i i0 : Nat} {b : Addr} {m : Int} {n : Nat} (h0 : σ[i0]? = some (some (.ref b))) (hm : Ev te σ H (.int m)) (hB : Box H b n) (hn : n ≤ 1000000000) (h1 : 1 ≤ m) (h2 : m ≤ 10000000)
    (k : ∀ (j : Nat) (H' : Hp), (j : Int) < m → Box H' b (n + 1) → Keep [b] H H' → tz D (σ.set i (some (.int (j : Int)))) H') : tSeq (tAsg (tCall spTake [] E0 (tCons (tVar i0) (tCons te tNil))) (gName i)) tz D σ H :=
  r_take h0 hm hB hn h1 h2 fun x H' a1 a2 a3 a4 => by
    have e : x = ((x.toNat : Nat) : Int) := by omega
    have := k x.toNat H' (by omega) a3 a4
    rw [← e] at this
    exact this
/-- x = LIST[draw] -/
theorem q_pick {i i0 : Nat} {b : Addr} {m : Int} {n : Nat} {tl : TE} (h0 : σ[i0]? = some (some (.ref b))) (hb : b ∈ bs) (hl : EvQ bs tl σ H (.list ds)) (hm : Ev te σ H (.int m)) (hB : Box H b n) (hn : n ≤ 1000000000) (h1 : 1 ≤ m) (h2 : m ≤ 10000000) (h3 : m ≤ ds.length)
    (k : ∀ (j : Nat) (hj : j < ds.length) (x : V) (H' : Hp), Dq (hid bs H') x ds[j] → Box H' b (n + 1) → Keep [b] H H' → tz D (σ.set i (some x)) H') : tSeq (tAsg (tOp (rIxL K) tl (tCall spTake [] E0 (tCons (tVar i0) (tCons te tNil)))) (gName i)) tz D σ H := by
  have go : tl σ H fun x H1 => tCall spTake [] E0 (tCons (tVar i0) (tCons te tNil)) σ H1 fun y H2 => rIxL K x y H2 fun z H3 => tz D (σ.set i (some z)) H3 := by
    refine hl H (Same.refl _) _ fun v H1 e1 hd => ?_
    refine r_take h0 (fun H2 e2 => hm H2 (e1.trans e2)) (hB.mono e1) hn h1 h2 fun x H' a1 a2 a3 a4 => ?_
    obtain ⟨p, xs, rfl, hp, hx⟩ := ((keep_up hb a4).dq hd).list_inv
    have hj : x.toNat < ds.length := by omega
    have e : x = ((x.toNat : Nat) : Int) := by omega
    obtain ⟨y, gy, dy⟩ := atG hx (atI_nat (List.getElem?_eq_getElem hj))
    rw [← e] at gy
    exact ⟨p, xs, x, y, rfl, rfl, SqL.of (hid_some hp).2, gy, k x.toNat hj y H' dy a3 ((Keep.of e1).trans a4)⟩
  exact go
/-! new lists, comprehensions -/
theorem hid_fresh {D : Addr} {o : HO} (hD : H D = none) : Same (hid bs H) (hid (D :: bs) (upd H D o)) := fun a x q => by
  obtain ⟨h1, h2⟩ := hid_some q
  have hne : a ≠ D := ne_of_none h2 hD
  rw [hid_out (fun z => (List.mem_cons.mp z).elim hne h1), upd_ne hne]
  exact h2
/-- a new list of its own -/
def EvN (bs : List Addr) (te : TE) (σ : L2.St) (H : Hp) (ds : List PyData) : Prop := ∀ H1, Same H H1 → ∀ Q : VK, (∀ p xs H2, H1 p = none → Same H1 H2 → H2 p = some (.lst xs) → DqAll (hid (p :: bs) H2) xs ds → Q (.ref p) H2) → te σ H1 Q
theorem en_lst {ta : TA} (h : EvQA bs ta σ H ds) (hz : ds.length ≤ 1000000) : EvN bs (tLst ta) σ H ds := fun H1 a Q q => h H1 a _ fun vs H2 e2 hds =>
  ⟨by rw [hds.len]; exact Nat.le_trans hz (by decide), fun p np => q p vs _ (fresh_back e2 np) (e2.trans (Ex.new np)) upd_same (hds.mono (hid_fresh np))⟩
theorem en_cat (ha : EvQ bs ta σ H (.list ds)) (hb : EvQ bs tb σ H (.list es)) (hz : ds.length + es.length ≤ 1000000) : EvN bs (tOp rCat ta tb) σ H (ds ++ es) := fun H1 a Q q => ha H1 a _ fun v H2 e2 hd => hb H2 (a.trans e2) _ fun u H3 e3 he => by
  obtain ⟨p, xs, rfl, hp, hx⟩ := (hd.mono (same_hid e3)).list_inv
  obtain ⟨r, ys, rfl, hr, hy⟩ := he.list_inv
  exact ⟨p, r, xs, ys, rfl, rfl, (hid_some hp).2, (hid_some hr).2, by rw [hx.len, hy.len]; exact Nat.le_trans hz (by decide), fun z nz => q z _ _ (fresh_back (e2.trans e3) nz) ((e2.trans e3).trans (Ex.new nz)) upd_same ((hx.append hy).mono (hid_fresh nz))⟩
theorem en_eq (l : Live bs H) (h : EvN bs te σ H ds) : EvQ bs te σ H (.list ds) := fun H1 a Q q => h H1 a Q fun p xs H2 np e2 hp hx =>
  q (.ref p) H2 e2 (.lst (by rw [hid_out ((l.mono a).out np)]; exact hp) (hx.mono (hid_less fun x hx => List.mem_cons_of_mem _ hx)))
theorem q_asgN {i : Nat} (h : EvN bs te σ H ds) (k : ∀ p xs H1, H p = none → Same H H1 → H1 p = some (.lst xs) → DqAll (hid (p :: bs) H1) xs ds → tz D (σ.set i (some (.ref p))) H1) : tSeq (tAsg te (gName i)) tz D σ H :=
  h H (Same.refl _) _ fun p xs H1 np e1 hp hx => k p xs H1 np e1 hp hx
/-- [e for x in xs], data by data -/
theorem en_lc {tl : TE} {j : Nat} {vs : List Nat} (g : PyData → PyData) (l : Live bs H) (h : EvQ bs tl σ H (.list ds)) (hz : ds.length ≤ 40000) (hw : ∀ x, wipe ((wipe σ vs).set j (some x)) vs = wipe σ vs)
    (he : ∀ (cs : List Addr) (x : V) (d : PyData) (H1 : Hp), Same H H1 → (∀ y ∈ bs, y ∈ cs) → Live cs H1 → d ∈ ds → Dq (hid cs H1) x d → EvQ cs te ((wipe σ vs).set j (some x)) H1 (g d)) :
    EvN bs (tLc (iList K tl) (gName j) tYes te vs) σ H (ds.map g) := fun H0 a Q q => h H0 a _ fun v H1 e1 hd => by
  obtain ⟨p, xs, rfl, hp, hx⟩ := hd.list_inv
  have hp' := (hid_some hp).2
  refine ⟨p, rfl, ⟨xs, SqL.of hp'⟩, fun D hD => ?_⟩
  have l1 : Live bs H1 := l.mono (a.trans e1)
  have hx0 : DqAll (hid (D :: bs) (upd H1 D (.lst []))) xs ds := hx.mono (hid_fresh hD)
  refine lc_list (K := K) (a := p) (xs := xs) (fun i H' => ∃ acc : List V, H' D = some (.lst acc) ∧ DqAll (hid (D :: bs) H') acc ((ds.take i).map g) ∧ Same H1 H' ∧ DqAll (hid (D :: bs) H') xs ds)
    ⟨[], upd_same, .nil, Ex.new hD, hx0⟩ (fun i H' _ hP => ?_) (fun i x H' hi hP => ?_) (fun H' hP => ?_)
  · obtain ⟨_, _, _, sm, _⟩ := hP
    exact SqL.of (sm _ _ hp')
  · obtain ⟨acc, h1, h2, h3, h4⟩ := hP
    obtain ⟨d, gd, dd⟩ := h4.get hi
    have hil := (List.getElem?_eq_some_iff.mp gd).1
    have lD : Live (D :: bs) H' := fun y hy => by
      rcases List.mem_cons.mp hy with rfl | hy
      · rw [h1]; exact fun z => nomatch z
      · exact (l1.mono h3) y hy
    refine ⟨hw x, ?_⟩
    show te ((wipe σ vs).set j (some x)) H' fun y H4 => ∃ acc, H4 D = some (.lst acc) ∧ acc.length < sizeLine ∧ _
    refine he (D :: bs) x d H' ((a.trans e1).trans h3) (fun y hy => List.mem_cons_of_mem _ hy) lD (List.mem_of_getElem? gd) dd H' (Same.refl _) _ fun y H4 e4 dy => ⟨acc, e4 _ _ h1, ?_, acc ++ [y], upd_same, ?_, ?_, ?_⟩
    · have := h2.len
      rw [List.length_map, List.length_take] at this
      exact Nat.lt_of_le_of_lt (show acc.length ≤ 40000 by omega) (by decide)
    · have kk : Keep (D :: bs) H4 (upd H4 D (.lst (acc ++ [y]))) := (Keep.refl _ _).put (List.mem_cons_self ..)
      rw [List.take_add_one, gd, List.map_append]
      exact ((h2.mono (same_hid e4)).mono kk).append (.cons (dy.mono kk) .nil)
    · exact fun c o q => by
        rw [upd_ne (ne_of_none q hD)]
        exact e4 _ _ (h3 _ _ q)
    · have kk : Keep (D :: bs) H4 (upd H4 D (.lst (acc ++ [y]))) := (Keep.refl _ _).put (List.mem_cons_self ..)
      exact (h4.mono (same_hid e4)).mono kk
  · obtain ⟨acc, h1, h2, h3, h4⟩ := hP
    rw [h4.len, List.take_of_length_le (Nat.le_refl _)] at h2
    exact q D acc H' (fresh_back e1 hD) (e1.trans h3) h1 h2
theorem eq_lc {tl : TE} {j : Nat} {vs : List Nat} (g : PyData → PyData) (l : Live bs H) (h : EvQ bs tl σ H (.list ds)) (hz : ds.length ≤ 40000) (hw : ∀ x, wipe ((wipe σ vs).set j (some x)) vs = wipe σ vs)
    (he : ∀ (cs : List Addr) (x : V) (d : PyData) (H1 : Hp), Same H H1 → (∀ y ∈ bs, y ∈ cs) → Live cs H1 → d ∈ ds → Dq (hid cs H1) x d → EvQ cs te ((wipe σ vs).set j (some x)) H1 (g d)) :
    EvQ bs (tLc (iList K tl) (gName j) tYes te vs) σ H (.list (ds.map g)) := en_eq l (en_lc g l h hz hw he)
theorem ev_reprQ (ha : EvQ bs ta σ H d) (h1 : okD d = true) (h2 : d.depth ≤ 40) (h3 : wz d ≤ 1000000) : Ev (tCB (rReprD K) (tCons ta tNil)) σ H (.str d.shown) := fun H1 a Q q => ha H1 a _ fun v H2 e2 hd =>
  ⟨v, d, rfl, (dq_vis hd).dp (noD_ok h1), h1, h2, Nat.le_trans h3 (by decide), q H2 e2⟩
end
/-- such a def, kept where no repr is under way -/
structure DfG (P : Program) (w : World) (K : PySem.W.Frag) (mg : Str → Option Value) (base : Heap) (k : Nat) (x : Str) (st : Stmt) (ps : List Str) (f : Addr) (fd : FuncData) (sp : Sp) : Prop where
  F : Fun K x x st f fd
  g : mg x = some (.ref f)
  b : Binds K fd ps []
  G : FnG P w K mg base k f fd ps sp
end Cg

set_option Elab.async false
set_option linter.all false
set_option maxRecDepth 100000
namespace Cg
open PySem PySem.Spec PyProof.Rows L2 Evl
/-! ### lists of data: what holds of each -/
theorem okAll_iff : ∀ {xs : List PyData}, okAll xs = true ↔ ∀ x ∈ xs, okD x = true
  | [] => ⟨(fun _ _ z => nomatch z), fun _ => rfl⟩
  | x :: r => by
    show (okD x && okAll r) = true ↔ _
    rw [Bool.and_eq_true, okAll_iff (xs := r)]
    exact ⟨fun h y hy => (List.mem_cons.mp hy).elim (fun e => e ▸ h.1) (h.2 y), fun h => ⟨h x (List.mem_cons_self ..), fun y hy => h y (List.mem_cons_of_mem _ hy)⟩⟩
theorem depthAll_iff {k : Nat} : ∀ {xs : List PyData}, PyData.depthAll xs ≤ k ↔ ∀ x ∈ xs, x.depth ≤ k
  | [] => ⟨(fun _ _ z => nomatch z), fun _ => Nat.zero_le _⟩
  | x :: r => by
    show max x.depth (PyData.depthAll r) ≤ k ↔ _
    rw [Nat.max_le, depthAll_iff (xs := r)]
    exact ⟨fun h y hy => (List.mem_cons.mp hy).elim (fun e => e ▸ h.1) (h.2 y), fun h => ⟨h x (List.mem_cons_self ..), fun y hy => h y (List.mem_cons_of_mem _ hy)⟩⟩
theorem wzAll_append : ∀ (xs ys : List PyData), wzAll (xs ++ ys) = wzAll xs + wzAll ys
  | [], ys => (Nat.zero_add _).symm
  | x :: r, ys => by
    show wz x + 2 + wzAll (r ++ ys) = wz x + 2 + wzAll r + wzAll ys
    rw [wzAll_append r ys]
    omega
theorem wzAll_split (n : Nat) (xs : List PyData) : wzAll (xs.take n) + wzAll (xs.drop n) = wzAll xs := by rw [← wzAll_append, List.take_append_drop]
theorem wzAll_drop1 (xs : List PyData) (n : Nat) : wzAll (xs.drop (n + 1)) ≤ wzAll (xs.drop n) := by
  have h := wzAll_split 1 (xs.drop n)
  rw [List.drop_drop] at h
  omega
theorem wzAll_le {R : Nat} : ∀ {xs : List PyData}, (∀ x ∈ xs, wz x ≤ R) → wzAll xs ≤ (R + 2) * xs.length
  | [], _ => Nat.zero_le _
  | x :: r, h => by
    have h1 := wzAll_le (xs := r) fun y hy => h y (List.mem_cons_of_mem _ hy)
    have h2 := h x (List.mem_cons_self ..)
    show wz x + 2 + wzAll r ≤ (R + 2) * (r.length + 1)
    rw [Nat.mul_succ]
    omega
theorem cut_to {α : Type} (xs : List α) (n : Nat) : cutG xs none (some (n : Int)) = xs.take n := by
  unfold cutG
  rw [HT.sIx_none, HT.sIx_nat, Nat.sub_zero, List.drop_zero]
  by_cases h : n ≤ xs.length
  · rw [Nat.min_eq_left h]
  · rw [Nat.min_eq_right (show xs.length ≤ n by omega), List.take_of_length_le (Nat.le_refl _), List.take_of_length_le (show xs.length ≤ n by omega)]
theorem cut_from {α : Type} (xs : List α) (n : Nat) : cutG xs (some (n : Int)) none = xs.drop n := by
  unfold cutG
  rw [HT.sIx_none, HT.sIx_nat]
  by_cases h : n ≤ xs.length
  · rw [Nat.min_eq_left h, List.take_of_length_le (by rw [List.length_drop]; omega)]
  · rw [Nat.min_eq_right (show xs.length ≤ n by omega), List.drop_of_length_le (Nat.le_refl _), List.drop_of_length_le (show xs.length ≤ n by omega), List.take_nil]
theorem eqv_nil (xs : List PyData) : PyData.eqv (.list xs) (.list []) = xs.isEmpty := by cases xs <;> rfl
/-- `[x] * n` -/
theorem rep_one {α : Type} (n : Nat) (x : α) : (List.replicate n [x]).flatten = List.replicate n x := by
  induction n with
  | zero => rfl
  | succ n ih => rw [List.replicate_succ, List.flatten_cons, ih]; rfl
/-- return all([e for k in range(n)]), each e True, nothing changed that was -/
theorem r_lawAll {K : PySem.W.Frag} {σ : L2.St} {H : Hp} {D : Ends} {ta : TA} {te : TE} {j n : Nat} {vs : List Nat} (ha : EvA ta σ H [.int (n : Int)]) (hn : n ≤ 40000) (hw : ∀ x, wipe ((wipe σ vs).set j (some x)) vs = wipe σ vs)
    (step : ∀ (i : Nat) (H' : Hp) (Q : VK), i < n → Same H H' → (∀ H2, Same H' H2 → Q (.bl true) H2) → te ((wipe σ vs).set j (some (.int (i : Int)))) H' Q) (k : ∀ H', Same H H' → D.rt (.bl true) H') :
    tRet (tCB (rAll K) (tCons (tLc (iRng1 ta) (gName j) tYes te vs) tNil)) D σ H := by
  have go : tLc (iRng1 ta) (gName j) tYes te vs σ H fun x H1 => rAll K [x] H1 D.rt := by
    refine ha H (Ex.refl _) _ fun H1 e1 => ⟨n, rfl, by omega, by omega, fun A nA => ?_⟩
    have toN : ((n : Int)).toNat = n := by omega
    rw [toN]
    refine lc_range (lo := 0) (n := n) (fun i H' => H' A = some (.lst ((List.replicate i true).map V.bl)) ∧ Same H1 H') ⟨upd_same, Ex.new nA⟩ (fun i H' hi hP => ?_) (fun H' hP => ?_)
    · obtain ⟨h1, h2⟩ := hP
      have e0 : (0 : Int) + (i : Int) = (i : Int) := Int.zero_add _
      show wipe ((wipe σ vs).set j (some (.int ((0 : Int) + (i : Int))))) vs = wipe σ vs ∧ te ((wipe σ vs).set j (some (.int ((0 : Int) + (i : Int))))) H' _
      rw [e0]
      refine ⟨hw _, step i H' _ hi (e1.trans h2) fun H2 e2 => ⟨_, e2 _ _ h1, ?_, ?_, fun a o q => ?_⟩⟩
      · rw [List.length_map, List.length_replicate]
        exact Nat.lt_of_le_of_lt (show i ≤ 40000 by omega) (by decide)
      · rw [upd_same, List.replicate_succ', List.map_append]; rfl
      · rw [upd_ne (ne_of_none q nA)]
        exact e2 _ _ (h2 _ _ q)
    · obtain ⟨h1, h2⟩ := hP
      refine ⟨A, List.replicate n true, rfl, SqL.of h1, ?_⟩
      have e : (List.replicate n true).all id = true := List.all_eq_true.mpr fun x hx => by rw [List.eq_of_mem_replicate hx]; rfl
      rw [e]
      exact k H' (e1.trans h2)
  exact go
/-- a box made here is nobody else's -/
theorem same_box {H H1 H2 : Hp} {b : Addr} (e : Same H H1) (nb : H b = none) (k : Keep [b] H1 H2) : Same H H2 := fun a o q => k.get (by simpa using ne_of_none q nb) (e _ _ q)
/-- max(1, len(xs)) -/
theorem ev_max1 {K : PySem.W.Frag} {σ : L2.St} {H : Hp} {i : Nat} {l : Addr} {xs : List V} (hs : σ[i]? = some (some (.ref l))) (hh : H l = some (.lst xs)) :
    EvA (tCons (tCB (fun xs H Q => ∃ i j, xs = [V.int i, V.int j] ∧ Q (V.int (if j > i then j else i)) H) (tCons (tC (.int 1)) (tCons (tCB (rLenS K) (tCons (tVar i) tNil)) tNil))) tNil) σ H [.int ((max 1 xs.length : Nat) : Int)] := by
  refine ea_cons (ev_is (ev_cb2 ev_c (ev_len (ev_var hs) (SqL.of hh)) fun H1 Q q => ⟨_, _, rfl, q⟩) ?_) ea_nil
  split
  · rw [Nat.max_eq_right (by omega)]
  · rw [Nat.max_eq_left (by omega)]; rfl
end Cg

set_option Elab.async false
set_option linter.all false
set_option maxRecDepth 100000
set_option maxHeartbeats 1000000
namespace Cg
open PySem PySem.Spec PyProof.Rows L2 Evl
/-! ### zip of any number of lists, or of tuples -/
def RIt (kd : Bool) (h : Heap) (it a : Addr) (k : Nat) : Prop := match kd with
  | true => h.IsListIter it a k
  | false => h.IsTupleIter it a k
def RSq (kd : Bool) (h : Heap) (a : Addr) (items : Array Value) : Prop := match kd with
  | true => h.IsList a items
  | false => h.IsTuple a items
section
variable {kd : Bool} {h h' : Heap} {it a : Addr} {k : Nat} {items : Array Value}
theorem RIt.keep (x : RIt kd h it a k) (e : ∀ o, h.get? it = some o → h'.get? it = some o) : RIt kd h' it a k := by
  cases kd with
  | true => exact Heap.IsListIter.at x e
  | false => exact Heap.IsTupleIter.at x e
theorem RSq.keep (x : RSq kd h a items) (e : ∀ o, h.get? a = some o → h'.get? a = some o) : RSq kd h' a items := by
  cases kd with
  | true =>
    obtain ⟨o, ho, r⟩ := x
    exact ⟨o, e _ ho, r⟩
  | false =>
    obtain ⟨o, ho, r⟩ := x
    exact ⟨o, e _ ho, r⟩
theorem RIt.obj (x : RIt kd h it a k) : ∃ o, h.get? it = some o ∧ ∀ v, o.data ≠ .cell v := by
  cases kd with
  | true =>
    obtain ⟨o, e, _, d⟩ := x
    exact ⟨o, e, fun v z => by rw [d] at z; cases z⟩
  | false =>
    obtain ⟨o, e, _, d⟩ := x
    exact ⟨o, e, fun v z => by rw [d] at z; cases z⟩
end
section
variable {prog : Program} {w : World} {A : Around} {E : Value → Shared → Prop} {s : Shared} {kd : Bool}
theorem next_item {it l : Addr} {i : Nat} {items : Array Value} {x : Value} {Q : Value → Shared → Prop} (hit : RIt kd s.heap it l i) (hl : RSq kd s.heap l items) (hx : items[i]? = some x)
    (hQ : ∀ h', RIt kd h' it l (i + 1) → Heap.SameBut it s.heap h' → Q x { s with heap := h' }) : wpAny (model prog w) A (Builtin.SmallTypes.nextOf (.ref it)) Q E s := by
  cases kd with
  | true => exact wpAny_nextOf_list_item hit hl hx hQ
  | false => exact RZ.nextOf_tuple_item hit hl hx hQ
theorem next_end {it l : Addr} {i : Nat} {items : Array Value} {Q : Value → Shared → Prop} (hh : A.handled = none) (hit : RIt kd s.heap it l i) (hl : RSq kd s.heap l items) (hx : items[i]? = none)
    (hE : ∀ h' e, Heap.ExtBut it s.heap h' → (∃ o, h'.get? e = some o ∧ o.cls = .type "StopIteration") → E (.ref e) { s with heap := h' }) : wpAny (model prog w) A (Builtin.SmallTypes.nextOf (.ref it)) Q E s := by
  cases kd with
  | true => exact wpAny_nextOf_list_end hh hit hl hx hE
  | false => exact RZ.nextOf_tuple_end hh hit hl hx hE
abbrev zObj (f0 : Value) (f1 : Bool) (TI TO : Addr) : Obj := { cls := .type "zip", dict := none, data := .fields #[f0, .bool f1, .bool false, .ref TI, .ref TO], slots := #[] }
abbrev tObj (vs : Array Value) : Obj := { cls := .type "tuple", data := .seq vs }
def ZF (f0 : Value) : Prop := f0 = .none ∨ ∃ T : Nat, f0 = rawInt T
theorem owned_free {z TI TO : Addr} {f0 : Value} {f1 : Bool} {Q : Bool → Shared → Prop} (hz : s.heap.get? z = some (zObj f0 f1 TI TO)) (hf : ZF f0)
    (h : ∀ (b : Bool) (h' : Heap) (f1' : Bool), h'.get? z = some (zObj f0 f1' TI TO) → Heap.SameBut z s.heap h' → Q b { s with heap := h' }) : wpAny (model prog w) A (Builtin.SmallTypes.ownedTupleIsFree (.ref z)) Q E s := by
  unfold Builtin.SmallTypes.ownedTupleIsFree
  rcases hf with rfl | ⟨T, rfl⟩
  · exact wpAny_bind (wpAny_field hz rfl (x := .none) rfl (wpAny_pure (h true s.heap f1 hz (Heap.SameBut.refl _ _))))
  · refine wpAny_bind (wpAny_field hz rfl (x := rawInt T) rfl ?_)
    show wpAny _ _ (loadIfAlive ((T : Int).toNat) >>= _) _ _ _
    rw [Int.toNat_natCast]
    cases ho : s.heap.get? T with
    | some o =>
      refine wpAny_bind (PySem.W.kdx_alive ho ?_)
      simp only [Option.isNone_some, Bool.false_eq_true, if_false]
      refine wpAny_bind (wpAny_field hz rfl (x := .bool f1) rfl ?_)
      cases f1 with
      | true =>
        rw [if_neg (show ¬ ((Value.bool true != Value.bool true) = true) from Bool.false_ne_true)]
        exact wpAny_pure (h false s.heap true hz (Heap.SameBut.refl _ _))
      | false =>
        rw [if_pos (show (Value.bool false != Value.bool true) = true from rfl)]
        exact wpAny_bind (wpAny_setField_rec hz (by simp) fun h1 hz1 hs1 => wpAny_pure (h false h1 true hz1 hs1))
    | none =>
      have dead : ∀ {Q : Option Obj → Shared → Prop}, Q none s → wpAny (model prog w) A (loadIfAlive T) Q E s := fun hq _ _ _ => by
        have hq' := hq
        rw [← ho] at hq'
        exact hq'
      refine wpAny_bind (dead ?_)
      simp only [Option.isNone_none, if_true]
      exact wpAny_pure (h true s.heap f1 hz (Heap.SameBut.refl _ _))
theorem upd_seq {T : Addr} {ws : Array Value} {k : Nat} {x : Value} {Q : Unit → Shared → Prop} (hT : s.heap.get? T = some (tObj ws)) (hz : ws.size ≤ 1000)
    (h : ∀ h', h'.get? T = some (tObj (ws.setIfInBounds k x)) → Heap.SameBut T s.heap h' → Q () { s with heap := h' }) : wpAny (model prog w) A (updateSeq T (·.setIfInBounds k x)) Q E s := by
  refine wpAny_updateSeq hT rfl (h _ ?_ (Heap.SameBut.update ..)) (hz := Nat.le_trans hz (by decide)) (_hz' := by rw [Array.size_setIfInBounds]; exact Nat.le_trans hz (by decide))
  rw [Heap.get?_update_self _ hT rfl]
  simp [Obj.mapSeq]
/-- the iterators, what they walk, what they give next -/
abbrev Src := Addr × Addr × Value
def Gives (kd : Bool) (h : Heap) (i : Nat) (t : Src) : Prop := RIt kd h t.1 t.2.1 i ∧ ∃ items, RSq kd h t.2.1 items ∧ items[i]? = some t.2.2
structure ZApart (z TI TO : Addr) (L : List Src) : Prop where
  nd : (z :: TI :: TO :: L.map (·.1)).Nodup
  src : ∀ t ∈ L, t.2.1 ≠ z ∧ t.2.1 ≠ TO ∧ t.2.1 ∉ L.map (·.1)
theorem zipN_item {z TI TO : Addr} {L : List Src} {i : Nat} {f0 : Value} {f1 : Bool} {vs : Array Value} {Q : Value → Shared → Prop} (D : ZApart z TI TO L) (hz : s.heap.get? z = some (zObj f0 f1 TI TO)) (hf : ZF f0)
    (hTI : s.heap.get? TI = some (tObj (L.map fun t => Value.ref t.1).toArray)) (hTO : s.heap.get? TO = some (tObj vs)) (hv : vs.size = L.length) (hne : L ≠ []) (hlen : L.length ≤ 1000) (hg : ∀ t ∈ L, Gives kd s.heap i t)
    (hQ : ∀ h' f0' f1' vs', h'.get? z = some (zObj f0' f1' TI TO) → ZF f0' → h'.get? TI = some (tObj (L.map fun t => Value.ref t.1).toArray) → h'.get? TO = some (tObj vs') → vs'.size = L.length →
      (∀ t ∈ L, RIt kd h' t.1 t.2.1 (i + 1)) → h'.get? s.heap.objs.size = some (tObj (L.map (·.2.2)).toArray) → (∀ c o, c ≠ z → c ≠ TO → c ∉ L.map (·.1) → s.heap.get? c = some o → h'.get? c = some o) → Q (.ref s.heap.objs.size) { s with heap := h' }) :
    wpAny (model prog w) A (Builtin.«zip.__next__» ⟨[.ref z], []⟩) (fun fin s' => ∃ v, fin = .done (.ret v) ∧ Q v s') E s := by
  show wpAny _ _ (field (.ref z) 2 >>= _) _ _ _
  refine wpAny_bind (wpAny_field hz rfl (x := .bool false) rfl ?_)
  show wpAny _ _ (field (.ref z) 3 >>= _) _ _ _
  refine wpAny_bind (wpAny_field hz rfl (x := .ref TI) rfl ?_)
  refine wpAny_bind (wpAny_seqItems hTI rfl ?_)
  have he : (L.map fun t => Value.ref t.1).toArray.isEmpty = false := by
    cases L with
    | nil => exact absurd rfl hne
    | cons x r => rfl
  simp only [he, Bool.false_eq_true, if_false]
  refine wpAny_bind (owned_free hz hf fun b h1 f1' hz1 hs1 => ?_)
  have nd := D.nd
  rw [List.nodup_cons, List.nodup_cons, List.nodup_cons] at nd
  obtain ⟨nz, nTI, nTO, nL⟩ := nd
  have hTIz : TI ≠ z := fun e => nz (by rw [e]; exact List.mem_cons_self ..)
  have hTOz : TO ≠ z := fun e => nz (by rw [e]; exact List.mem_cons_of_mem _ (List.mem_cons_self ..))
  have hTITO : TI ≠ TO := fun e => nTI (by rw [e]; exact List.mem_cons_self ..)
  have hzL : z ∉ L.map (·.1) := fun e => nz (List.mem_cons_of_mem _ (List.mem_cons_of_mem _ e))
  have hTIL : TI ∉ L.map (·.1) := fun e => nTI (List.mem_cons_of_mem _ e)
  have itz : ∀ {t : Src}, t ∈ L → t.1 ≠ z := fun ht e => hzL (by rw [← e]; exact List.mem_map_of_mem ht)
  have itTO : ∀ {t : Src}, t ∈ L → t.1 ≠ TO := fun ht e => nTO (by rw [← e]; exact List.mem_map_of_mem ht)
  have apart : ∀ {dn td : List Src} {t : Src}, L = dn ++ t :: td → t.1 ∉ dn.map (·.1) := fun {dn td t} e hm => by
    rw [e, List.map_append, List.nodup_append] at nL
    exact nL.2.2 _ hm _ (by rw [List.map_cons]; exact List.mem_cons_self ..) rfl
  have sub : ∀ {dn td : List Src} {c : Addr}, L = dn ++ td → c ∉ L.map (·.1) → c ∉ dn.map (·.1) := fun e hc hm => hc (by rw [e, List.map_append]; exact List.mem_append_left _ hm)
  have k1 : ∀ c o, c ≠ z → s.heap.get? c = some o → h1.get? c = some o := fun c o hc e => hs1.extBut _ _ hc e
  cases b with
  | false =>
    simp only [Bool.false_eq_true, if_false]
    refine wpAny_bind ?_
    rw [← Array.forIn_toList]
    refine wpAny_forIn_list _ (fun rest b s' => ∃ (dn td : List Src) (h2 : Heap), L = dn ++ td ∧ rest = td.map (fun t => Value.ref t.1) ∧ b = (none, (dn.map (·.2.2)).toArray) ∧ s' = { s with heap := h2 } ∧ h2.objs.size = s.heap.objs.size ∧ (∀ t ∈ dn, RIt kd h2 t.1 t.2.1 (i + 1)) ∧ ∀ c o, c ∉ dn.map (·.1) → h1.get? c = some o → h2.get? c = some o) _ ?_ ?_ _ _
      ⟨[], L, h1, rfl, by simp, rfl, rfl, hs1.1, (fun _ z => nomatch z), fun _ _ _ e => e⟩
    · rintro x rest b s' ⟨dn, td, h2, eL, er, rfl, rfl, sz, hd, kp⟩
      cases td with
      | nil => cases er
      | cons t td =>
        rw [List.map_cons, List.cons.injEq] at er
        obtain ⟨rfl, rfl⟩ := er
        have ht : t ∈ L := by rw [eL]; exact List.mem_append_right _ (List.mem_cons_self ..)
        obtain ⟨g1, items, g2, g3⟩ := hg t ht
        obtain ⟨s1, s2, s3⟩ := D.src t ht
        have a1 := apart eL
        refine wpAny_bind (wpAny_holding ?_)
        show wpAny _ _ (Builtin.SmallTypes.nextOf (.ref t.1) >>= _) _ _ _
        refine wpAny_bind (next_item (s := { s with heap := h2 }) (g1.keep fun o e => kp _ _ a1 (k1 _ _ (itz ht) e)) (g2.keep fun o e => kp _ _ (sub eL s3) (k1 _ _ s1 e)) g3 fun h3 r3 sb3 => wpAny_pure ?_)
        refine wpAny_pure ⟨dn ++ [t], td, h3, by rw [eL, List.append_assoc]; rfl, rfl, by simp, rfl, sb3.1.trans sz, fun y hy => ?_, fun c o hc e => ?_⟩
        · rcases List.mem_append.mp hy with hy | hy
          · exact (hd y hy).keep fun o e => sb3.extBut _ _ (fun z => a1 (by rw [← z]; exact List.mem_map_of_mem hy)) e
          · rw [List.mem_singleton.mp hy]; exact r3
        · rw [List.map_append, List.mem_append] at hc
          exact sb3.extBut _ _ (fun z => hc (.inr (by rw [z]; exact List.mem_singleton.mpr rfl))) (kp c o (fun z => hc (.inl z)) e)
    · rintro b s' ⟨dn, td, h2, eL, er, rfl, rfl, sz, hd, kp⟩
      obtain rfl : td = [] := by
        cases td with
        | nil => rfl
        | cons _ _ => cases er
      rw [List.append_nil] at eL
      subst eL
      show wpAny _ _ (newTuple (L.map (·.2.2)) >>= _) _ _ _
      refine wpAny_bind (wpAny_newTuple ?_ (by rw [List.length_map]; exact Nat.le_trans hlen (by decide)))
      refine wpAny_pure ⟨_, rfl, ?_⟩
      show Q (.ref h2.objs.size) _
      have up : ∀ c o, c ∉ L.map (·.1) → h1.get? c = some o → (h2.push (tObj (L.map (·.2.2)).toArray)).get? c = some o := fun c o hc e => Heap.get?_push_of_some _ (kp c o hc e)
      have hT : (h2.push (tObj (L.map (·.2.2)).toArray)).get? h2.objs.size = some (tObj (L.map (·.2.2)).toArray) := Heap.get?_push_size _ rfl
      rw [sz] at hT ⊢
      exact hQ _ f0 f1' vs (up _ _ hzL hz1) hf (up _ _ hTIL (k1 _ _ hTIz hTI)) (up _ _ nTO (k1 _ _ hTOz hTO)) hv (fun t ht => (hd t ht).keep fun o e => Heap.get?_push_of_some _ e) hT fun c o c1 c2 c3 e => up c o c3 (k1 c o c1 e)
  | true =>
    simp only [if_true]
    refine wpAny_bind (wpAny_rule ?_)
    refine wpAny_bind (wpAny_field (s := { s with heap := h1 }) hz1 rfl (x := .ref TO) rfl ?_)
    refine wpAny_bind (wpAny_setField_rec (s := { s with heap := h1 }) hz1 (by simp) fun h1b hz1b hs1b => ?_)
    replace hz1b : h1b.get? z = some (zObj .ellipsis f1' TI TO) := hz1b
    have k2 : ∀ c o, c ≠ z → s.heap.get? c = some o → h1b.get? c = some o := fun c o hc e => hs1b.extBut _ _ hc (k1 c o hc e)
    refine wpAny_bind ?_
    refine wpAny_forIn_list _ (fun rest b s' => ∃ (dn td : List Src) (h2 : Heap) (ws : Array Value), L = dn ++ td ∧ rest = (td.map (fun t => Value.ref t.1)).zipIdx dn.length ∧ b = (none, ()) ∧ s' = { s with heap := h2 } ∧ h2.objs.size = s.heap.objs.size ∧ (∀ t ∈ dn, RIt kd h2 t.1 t.2.1 (i + 1)) ∧
        h2.get? TO = some (tObj ws) ∧ ws.toList = dn.map (·.2.2) ++ vs.toList.drop dn.length ∧ ∀ c o, c ≠ TO → c ∉ dn.map (·.1) → h1b.get? c = some o → h2.get? c = some o) _ ?_ ?_ _ _
      ⟨[], L, h1b, vs, rfl, rfl, rfl, rfl, hs1b.1.trans hs1.1, (fun _ z => nomatch z), k2 _ _ hTOz hTO, rfl, fun _ _ _ _ e => e⟩
    · rintro ⟨x, j⟩ rest b s' ⟨dn, td, h2, ws, eL, er, rfl, rfl, sz, hd, hw, ew, kp⟩
      cases td with
      | nil => cases er
      | cons t td =>
        rw [List.map_cons, List.zipIdx_cons, List.cons.injEq, Prod.mk.injEq] at er
        obtain ⟨⟨rfl, rfl⟩, rfl⟩ := er
        have ht : t ∈ L := by rw [eL]; exact List.mem_append_right _ (List.mem_cons_self ..)
        obtain ⟨g1, items, g2, g3⟩ := hg t ht
        obtain ⟨s1, s2, s3⟩ := D.src t ht
        have a1 := apart eL
        refine wpAny_bind (wpAny_onRaise ?_)
        show wpAny _ _ (Builtin.SmallTypes.nextOf (.ref t.1) >>= _) _ _ _
        refine wpAny_bind (next_item (s := { s with heap := h2 }) (g1.keep fun o e => kp _ _ (itTO ht) a1 (k2 _ _ (itz ht) e)) (g2.keep fun o e => kp _ _ s2 (sub eL s3) (k2 _ _ s1 e)) g3 fun h3 r3 sb3 => wpAny_pure ?_)
        have hw3 : h3.get? TO = some (tObj ws) := sb3.extBut _ _ (itTO ht).symm hw
        refine wpAny_bind (wpAny_seqItems (s := { s with heap := h3 }) hw3 rfl ?_)
        have wsz : ws.size = L.length := by
          have hvl : vs.toList.length = L.length := by rw [Array.length_toList, hv]
          rw [← Array.length_toList, ew, List.length_append, List.length_map, List.length_drop, hvl]
          have e2 := congrArg List.length eL
          rw [List.length_append, List.length_cons] at e2
          omega
        refine wpAny_bind (upd_seq (s := { s with heap := h3 }) hw3 (by rw [wsz]; exact hlen) fun h4 hw4 up => ?_)
        refine wpAny_bind (wpAny_letGo (wpAny_pure ?_))
        refine ⟨dn ++ [t], td, h4, ws.setIfInBounds dn.length t.2.2, by rw [eL, List.append_assoc]; rfl, by rw [List.length_append]; rfl, rfl, rfl, up.1.trans (sb3.1.trans sz), fun y hy => ?_, ?_, ?_, fun c o c1 hc e => ?_⟩
        · have hyL : y ∈ L := by
            rw [eL]
            rcases List.mem_append.mp hy with hy | hy
            · exact List.mem_append_left _ hy
            · rw [List.mem_singleton.mp hy]; exact List.mem_append_right _ (List.mem_cons_self ..)
          refine RIt.keep (h := h3) ?_ fun o e => up.extBut _ _ (itTO hyL) e
          rcases List.mem_append.mp hy with hy | hy
          · exact (hd y hy).keep fun o e => sb3.extBut _ _ (fun z => a1 (by rw [← z]; exact List.mem_map_of_mem hy)) e
          · rw [List.mem_singleton.mp hy]; exact r3
        · exact hw4
        · have hl1 : dn.length < vs.toList.length := by
            have hvl : vs.toList.length = L.length := by rw [Array.length_toList, hv]
            have e2 := congrArg List.length eL
            rw [List.length_append, List.length_cons] at e2
            omega
          rw [Array.toList_setIfInBounds, ew, List.set_append, if_neg (show ¬ dn.length < (dn.map (·.2.2)).length by rw [List.length_map]; omega)]
          rw [List.length_map, Nat.sub_self, List.drop_eq_getElem_cons hl1, List.set_cons_zero, List.map_append, List.length_append, List.append_assoc]
          rfl
        · rw [List.map_append, List.mem_append] at hc
          exact up.extBut _ _ c1 (sb3.extBut _ _ (fun z => hc (.inr (by rw [z]; exact List.mem_singleton.mpr rfl))) (kp c o c1 (fun z => hc (.inl z)) e))
    · rintro b s' ⟨dn, td, h2, ws, eL, er, rfl, rfl, sz, hd, hw, ew, kp⟩
      obtain rfl : td = [] := by
        cases td with
        | nil => rfl
        | cons _ _ => cases er
      rw [List.append_nil] at eL
      subst eL
      have ew' : ws = (L.map (·.2.2)).toArray := by
        have : vs.toList.drop L.length = [] := List.drop_of_length_le (by rw [Array.length_toList, hv]; exact Nat.le_refl _)
        rw [this, List.append_nil] at ew
        rw [← ew, Array.toArray_toList]
      subst ew'
      show wpAny _ _ (seqItems? (.ref TO) >>= _) _ _ _
      refine wpAny_bind (wpAny_seqItems (s := { s with heap := h2 }) hw rfl ?_)
      show wpAny _ _ (newTuple (L.map (·.2.2)).toArray.toList >>= _) _ _ _
      refine wpAny_bind (wpAny_newTuple ?_ (by simp; exact Nat.le_trans hlen (by decide)))
      show wpAny _ _ (Builtin.SmallTypes.ownedTupleHandOut (.ref z) (.ref h2.objs.size) >>= _) _ _ _
      refine wpAny_bind ?_
      unfold Builtin.SmallTypes.ownedTupleHandOut
      have hz2 : h2.get? z = some (zObj .ellipsis f1' TI TO) := kp _ _ hTOz.symm hzL hz1b
      have hz3 : (h2.push (tObj (L.map (·.2.2)).toArray)).get? z = some (zObj .ellipsis f1' TI TO) := Heap.get?_push_of_some _ hz2
      have hzlt : z < h2.objs.size := Heap.lt_size hz2
      refine wpAny_bind (wpAny_setField_rec (s := { s with heap := h2.push (tObj (L.map (·.2.2)).toArray) }) hz3 (by simp) fun h4 hz4 hs4 => ?_)
      replace hz4 : h4.get? z = some (zObj (rawInt h2.objs.size) f1' TI TO) := hz4
      refine wpAny_setField_rec (s := { s with heap := h4 }) hz4 (by simp) fun h5 hz5 hs5 => ?_
      replace hz5 : h5.get? z = some (zObj (rawInt h2.objs.size) false TI TO) := hz5
      have up : ∀ c o, c ≠ z → h2.get? c = some o → h5.get? c = some o := fun c o hc e => hs5.extBut _ _ hc (hs4.extBut _ _ hc (Heap.get?_push_of_some _ e))
      have hT : h5.get? h2.objs.size = some (tObj (L.map (·.2.2)).toArray) := hs5.extBut _ _ (Nat.ne_of_gt hzlt) (hs4.extBut _ _ (Nat.ne_of_gt hzlt) (Heap.get?_push_size _ rfl))
      refine wpAny_pure ⟨_, rfl, ?_⟩
      show Q (.ref h2.objs.size) _
      have hzf : ZF (rawInt h2.objs.size) := .inr ⟨_, rfl⟩
      rw [sz] at hT hz5 hzf ⊢
      exact hQ h5 _ false _ hz5 hzf (up _ _ hTIz (kp _ _ hTITO hTIL (k2 _ _ hTIz hTI))) (up _ _ hTOz hw) (by simp) (fun t ht => (hd t ht).keep fun o e => up _ _ (itz ht) e) hT fun c o c1 c2 c3 e => up c o c1 (kp c o c2 c3 (k2 c o c1 e))
theorem zipN_end {z TI TO it a : Addr} {its : List Addr} {i : Nat} {f0 : Value} {f1 : Bool} {items : Array Value} {Q : Fin → Shared → Prop} (hh : A.handled = none) (hz : s.heap.get? z = some (zObj f0 f1 TI TO)) (hf : ZF f0) (hTIz : TI ≠ z) (hiz : it ≠ z) (haz : a ≠ z)
    (hTI : s.heap.get? TI = some (tObj ((it :: its).map Value.ref).toArray)) (hr : RIt kd s.heap it a i) (hq : RSq kd s.heap a items) (hx : items[i]? = none)
    (hE : ∀ h' e, (∀ c o, c ≠ z → c ≠ it → s.heap.get? c = some o → h'.get? c = some o) → (∃ o, h'.get? e = some o ∧ o.cls = .type "StopIteration") → E (.ref e) { s with heap := h' }) :
    wpAny (model prog w) A (Builtin.«zip.__next__» ⟨[.ref z], []⟩) Q E s := by
  show wpAny _ _ (field (.ref z) 2 >>= _) _ _ _
  refine wpAny_bind (wpAny_field hz rfl (x := .bool false) rfl ?_)
  show wpAny _ _ (field (.ref z) 3 >>= _) _ _ _
  refine wpAny_bind (wpAny_field hz rfl (x := .ref TI) rfl ?_)
  refine wpAny_bind (wpAny_seqItems hTI rfl ?_)
  have he : ((it :: its).map Value.ref).toArray.isEmpty = false := rfl
  simp only [he, Bool.false_eq_true, if_false]
  refine wpAny_bind (owned_free hz hf fun b h1 f1' hz1 hs1 => ?_)
  cases b with
  | false =>
    simp only [Bool.false_eq_true, if_false]
    refine wpAny_bind ?_
    rw [← Array.forIn_toList]
    simp only [List.map_cons, List.forIn_cons]
    refine wpAny_bind (wpAny_bind (wpAny_holding ?_))
    show wpAny _ _ (Builtin.SmallTypes.nextOf (.ref it) >>= _) _ _ _
    refine wpAny_bind (next_end (s := { s with heap := h1 }) hh (hr.keep fun o e => hs1.extBut _ _ hiz e) (hq.keep fun o e => hs1.extBut _ _ haz e) hx fun h2 e hs2 he => ?_)
    exact hE h2 e (fun c o c1 c2 x => hs2 _ _ c2 (hs1.extBut _ _ c1 x)) he
  | true =>
    simp only [if_true]
    refine wpAny_bind (wpAny_rule ?_)
    refine wpAny_bind (wpAny_field (s := { s with heap := h1 }) hz1 rfl (x := .ref TO) rfl ?_)
    refine wpAny_bind (wpAny_setField_rec (s := { s with heap := h1 }) hz1 (by simp) fun h1b hz1b hs1b => ?_)
    replace hz1b : h1b.get? z = some (zObj .ellipsis f1' TI TO) := hz1b
    refine wpAny_bind ?_
    simp only [List.map_cons, List.zipIdx_cons, List.forIn_cons]
    refine wpAny_bind (wpAny_bind (wpAny_onRaise ?_))
    show wpAny _ _ (Builtin.SmallTypes.nextOf (.ref it) >>= _) _ _ _
    refine wpAny_bind (next_end (s := { s with heap := h1b }) hh (hr.keep fun o e => hs1b.extBut _ _ hiz (hs1.extBut _ _ hiz e)) (hq.keep fun o e => hs1b.extBut _ _ haz (hs1.extBut _ _ haz e)) hx fun h2 e hs2 he => ?_)
    obtain ⟨oe, hoe, hce⟩ := he
    have hz2 : h2.get? z = some (zObj .ellipsis f1' TI TO) := hs2 _ _ hiz.symm hz1b
    have hez : e ≠ z := fun x => by subst x; rw [hz2] at hoe; cases hoe; simp at hce
    refine wpAny_setField_rec (s := { s with heap := h2 }) hz2 (by simp) fun h3 _ hs3 => hE h3 e (fun c o c1 c2 x => hs3.extBut _ _ c1 (hs2 _ _ c2 (hs1b.extBut _ _ c1 (hs1.extBut _ _ c1 x)))) ⟨oe, hs3.extBut _ _ hez hoe, hce⟩
theorem zipN_next {z : Addr} {f0 : Value} {f1 : Bool} {TI TO : Addr} {Q : Option Value → Shared → Prop} (hz : s.heap.get? z = some (zObj f0 f1 TI TO))
    (h : wpAny (model prog w) A.in1 (Builtin.«zip.__next__» ⟨[.ref z], []⟩) (fun fin s' => ∃ v, fin = .done (.ret v) ∧ Q (some v) s') (fun e s' => (∃ a o, e = .ref a ∧ s'.heap.get? a = some o ∧ o.cls = .type "StopIteration") ∧ Q none s') s) : wpAny (model prog w) A (pyNext (.ref z)) Q E s := by
  have hT : s.TypeIs (.ref z) "zip" := ⟨_, hz, rfl⟩
  unfold pyNext
  refine wpAny_bind (wpAny_attempt (wpAny_callSpecial?_slot (name := Str.ofString "__next__") hT F.slot_zip_next (wpAny_call_entry F.slot_zip_next hT F.entry_zip_next (wpAny_mono h ?_ ?_) (F.args_zip_next_1 _))))
  · rintro fin s' ⟨v, rfl, q⟩
    exact ⟨v, rfl, wpAny_pure q⟩
  · rintro e s' ⟨⟨a, o, rfl, ho, hc⟩, q⟩
    exact wpAny_bind (wpAny_isInstance (T := "StopIteration") (b := true) ⟨o, ho, hc⟩ isSubtype_stop (wpAny_pure q))
theorem typeCall_zipN : ∀ {vs : List Value}, vs.length ≤ 12 → checkTypeCall "zip" ⟨vs, []⟩ = pure ()
  | [], _ => by kernel_rfl
  | [_], _ => by kernel_rfl
  | [_, _], _ => by kernel_rfl
  | [_, _, _], _ => by kernel_rfl
  | [_, _, _, _], _ => by kernel_rfl
  | [_, _, _, _, _], _ => by kernel_rfl
  | [_, _, _, _, _, _], _ => by kernel_rfl
  | [_, _, _, _, _, _, _], _ => by kernel_rfl
  | [_, _, _, _, _, _, _, _], _ => by kernel_rfl
  | [_, _, _, _, _, _, _, _, _], _ => by kernel_rfl
  | [_, _, _, _, _, _, _, _, _, _], _ => by kernel_rfl
  | [_, _, _, _, _, _, _, _, _, _, _], _ => by kernel_rfl
  | [_, _, _, _, _, _, _, _, _, _, _, _], _ => by kernel_rfl
  | _ :: _ :: _ :: _ :: _ :: _ :: _ :: _ :: _ :: _ :: _ :: _ :: _ :: r, h => by simp at h
theorem newCall_zipN : ∀ {vs : List Value}, vs.length ≤ 12 → checkBuiltinCall "zip.__new__" ⟨.type "zip" :: vs, []⟩ = pure ()
  | [], _ => by kernel_rfl
  | [_], _ => by kernel_rfl
  | [_, _], _ => by kernel_rfl
  | [_, _, _], _ => by kernel_rfl
  | [_, _, _, _], _ => by kernel_rfl
  | [_, _, _, _, _], _ => by kernel_rfl
  | [_, _, _, _, _, _], _ => by kernel_rfl
  | [_, _, _, _, _, _, _], _ => by kernel_rfl
  | [_, _, _, _, _, _, _, _], _ => by kernel_rfl
  | [_, _, _, _, _, _, _, _, _], _ => by kernel_rfl
  | [_, _, _, _, _, _, _, _, _, _], _ => by kernel_rfl
  | [_, _, _, _, _, _, _, _, _, _, _], _ => by kernel_rfl
  | [_, _, _, _, _, _, _, _, _, _, _, _], _ => by kernel_rfl
  | _ :: _ :: _ :: _ :: _ :: _ :: _ :: _ :: _ :: _ :: _ :: _ :: _ :: r, h => by simp at h
theorem args_init_zipN (obj : Value) : ∀ {vs : List Value}, vs.length ≤ 12 → argsOk "object.__init__" ⟨obj :: vs, []⟩
  | vs, h => by
    unfold argsOk
    rw [signature?_of (id := "object.__init__") (n := ['_', '_', 't', 'i', 'n', 'i', '_', '_']) (o := ['t', 'c', 'e', 'j', 'b', 'o']) (by kernel_rfl) F.owner_object]
    match vs, h with
    | [], _ => kernel_rfl
    | [_], _ => kernel_rfl
    | [_, _], _ => kernel_rfl
    | [_, _, _], _ => kernel_rfl
    | [_, _, _, _], _ => kernel_rfl
    | [_, _, _, _, _], _ => kernel_rfl
    | [_, _, _, _, _, _], _ => kernel_rfl
    | [_, _, _, _, _, _, _], _ => kernel_rfl
    | [_, _, _, _, _, _, _, _], _ => kernel_rfl
    | [_, _, _, _, _, _, _, _, _], _ => kernel_rfl
    | [_, _, _, _, _, _, _, _, _, _], _ => kernel_rfl
    | [_, _, _, _, _, _, _, _, _, _, _], _ => kernel_rfl
    | [_, _, _, _, _, _, _, _, _, _, _, _], _ => kernel_rfl
    | _ :: _ :: _ :: _ :: _ :: _ :: _ :: _ :: _ :: _ :: _ :: _ :: _ :: r, h => simp at h
/-- the iterators' records -/
def itObj (kd : Bool) (a : Addr) : Obj := match kd with
  | true => { cls := .type "list_iterator", data := .fields #[.ref a, .int 0 0] }
  | false => { cls := .type "tuple_iterator", data := .fields #[.ref a, .int 0 0] }
theorem iter_row {a : Addr} {items : Array Value} {Q : Value → Shared → Prop} (h : RSq kd s.heap a items) (hQ : Q (.ref s.heap.objs.size) { s with heap := s.heap.push (itObj kd a) }) : wpAny (model prog w) A (pyIter (.ref a)) Q E s := by
  cases kd with
  | true => exact wpAny_pyIter_list h hQ
  | false => exact wpAny_pyIter_tuple h hQ
theorem rit_new {a : Addr} {h : Heap} : RIt kd (h.push (itObj kd a)) h.objs.size a 0 := by
  cases kd with
  | true => exact ⟨_, Heap.get?_push_size _ rfl, rfl, rfl⟩
  | false => exact ⟨_, Heap.get?_push_size _ rfl, rfl, rfl⟩
theorem iter_all {as : List Addr} {Q : List Value → Shared → Prop} (hs : ∀ a ∈ as, ∃ items, RSq kd s.heap a items)
    (hQ : ∀ (ps : List (Addr × Addr)) (h' : Heap), ps.map (·.2) = as → (ps.map (·.1)).Nodup → (∀ p ∈ ps, s.heap.objs.size ≤ p.1 ∧ p.1 < h'.objs.size) → (∀ p ∈ ps, RIt kd h' p.1 p.2 0) → s.heap.objs.size ≤ h'.objs.size → (∀ c o, s.heap.get? c = some o → h'.get? c = some o) → Q (ps.map fun p => Value.ref p.1) { s with heap := h' }) :
    wpAny (model prog w) A (Builtin.SmallTypes.iterAll (as.map Value.ref)) Q E s := by
  unfold Builtin.SmallTypes.iterAll
  refine wpAny_bind ?_
  refine wpAny_forIn_list _ (fun rest b s' => ∃ (ps : List (Addr × Addr)) (td : List Addr) (h2 : Heap), as = ps.map (·.2) ++ td ∧ rest = td.map Value.ref ∧ b = (ps.map fun p => Value.ref p.1).toArray ∧ s' = { s with heap := h2 } ∧ (ps.map (·.1)).Nodup ∧ (∀ p ∈ ps, s.heap.objs.size ≤ p.1 ∧ p.1 < h2.objs.size) ∧ (∀ p ∈ ps, RIt kd h2 p.1 p.2 0) ∧
      s.heap.objs.size ≤ h2.objs.size ∧ ∀ c o, s.heap.get? c = some o → h2.get? c = some o) _ ?_ ?_ _ _ ⟨[], as, s.heap, rfl, rfl, rfl, rfl, List.nodup_nil, (fun _ z => nomatch z), (fun _ z => nomatch z), Nat.le_refl _, fun _ _ e => e⟩
  · rintro x rest b s' ⟨ps, td, h2, ea, er, rfl, rfl, nd, lo, ri, sz, kp⟩
    cases td with
    | nil => cases er
    | cons a td =>
      rw [List.map_cons, List.cons.injEq] at er
      obtain ⟨rfl, rfl⟩ := er
      obtain ⟨items, hq⟩ := hs a (by rw [ea]; exact List.mem_append_right _ (List.mem_cons_self ..))
      refine wpAny_bind (wpAny_holding (iter_row (s := { s with heap := h2 }) (hq.keep fun o e => kp _ _ e) ?_))
      refine wpAny_pure ⟨ps ++ [(h2.objs.size, a)], td, h2.push (itObj kd a), by rw [ea, List.map_append, List.append_assoc]; rfl, rfl, by simp, rfl, ?_, fun p hp => ?_, fun p hp => ?_, by rw [Heap.size_push]; omega, fun c o e => Heap.get?_push_of_some _ (kp c o e)⟩
      · rw [List.map_append, List.nodup_append]
        refine ⟨nd, List.nodup_cons.mpr ⟨(fun z => nomatch z), List.nodup_nil⟩, fun x hx y hy => ?_⟩
        obtain ⟨p, hp, rfl⟩ := List.mem_map.mp hx
        have e : y = h2.objs.size := by simpa using hy
        rw [e]
        exact Nat.ne_of_lt (lo p hp).2
      · rw [Heap.size_push]
        rcases List.mem_append.mp hp with hp | hp
        · exact ⟨(lo p hp).1, Nat.lt_succ_of_lt (lo p hp).2⟩
        · rw [List.mem_singleton.mp hp]
          exact ⟨sz, by show h2.objs.size < _; omega⟩
      · rcases List.mem_append.mp hp with hp | hp
        · exact (ri p hp).keep fun o e => Heap.get?_push_of_some _ e
        · rw [List.mem_singleton.mp hp]
          exact rit_new
  · rintro b s' ⟨ps, td, h2, ea, er, rfl, rfl, nd, lo, ri, sz, kp⟩
    obtain rfl : td = [] := by
      cases td with
      | nil => rfl
      | cons _ _ => cases er
    rw [List.append_nil] at ea
    exact wpAny_pure (hQ ps h2 ea.symm nd lo ri sz kp)
/-- what zip(..) has made -/
def ZMade (kd : Bool) (h h' : Heap) (as : List Addr) (z : Addr) : Prop := ∃ (ps : List (Addr × Addr)) (TI TO : Addr) (vs : Array Value), ps.map (·.2) = as ∧ (z :: TI :: TO :: ps.map (·.1)).Nodup ∧ h.objs.size ≤ z ∧ h.objs.size ≤ TI ∧ h.objs.size ≤ TO ∧ (∀ p ∈ ps, h.objs.size ≤ p.1) ∧
  h'.get? z = some (zObj .none false TI TO) ∧ h'.get? TI = some (tObj (ps.map fun p => Value.ref p.1).toArray) ∧ h'.get? TO = some (tObj vs) ∧ vs.size = ps.length ∧ (∀ p ∈ ps, RIt kd h' p.1 p.2 0)
theorem zipN_new (as : List Addr) : Meets (Builtin.«zip.__new__» ⟨.type "zip" :: as.map Value.ref, []⟩) (fun _ R s => (∀ a ∈ as, ∃ items, RSq kd s.heap a items) ∧ as.length ≤ 1000 ∧
      ∀ h' z, ZMade kd s.heap h' as z → (∀ c o, s.heap.get? c = some o → h'.get? c = some o) → R (.ok (.ret (.ref z))) { s with heap := h' }) :=
  .of_wp fun prog w A R s h => by
    obtain ⟨hs, hl, h⟩ := h
    have hsub := sub_zip
    unfold Builtin.«zip.__new__»
    repeat ((fail_if_success (with_reducible show wpAny _ _ (Builtin.SmallTypes.iterAll _) _ _ _)); (any_goals (first | assumption | wp_step)))
    refine iter_all hs fun ps h1 e1 nd lo ri hsz kp => ?_
    have pl : ps.length ≤ 1000 := by
      rw [← e1, List.length_map] at hl
      exact hl
    refine wpAny_bind (wpAny_newTuple ?_ (by rw [List.length_map]; exact Nat.le_trans pl (by decide)))
    refine wpAny_bind (wpAny_newTuple ?_ (by rw [List.length_map, List.length_map]; exact Nat.le_trans pl (by decide)))
    refine wpAny_bind ?_
    unfold Builtin.SmallTypes.newRecord
    refine wpAny_newObj_type ?_ (by first | exact True.intro | (show (5 : Nat) ≤ sizeLine; decide) | (simp [sizeOk, Builtin.SmallTypes.ownedTupleFields]; decide))
    refine wpAny_pure ⟨_, rfl, ?_⟩
    let t1 : Obj := tObj (ps.map fun p => Value.ref p.1).toArray
    let t2 : Obj := tObj ((ps.map fun p => Value.ref p.1).map fun _ => Value.none).toArray
    have s1 : (h1.push t1).objs.size = h1.objs.size + 1 := Heap.size_push ..
    have s2 : ((h1.push t1).push t2).objs.size = h1.objs.size + 2 := by rw [Heap.size_push, s1]
    refine h _ _ ⟨ps, h1.objs.size, (h1.push t1).objs.size, ((ps.map fun p => Value.ref p.1).map fun _ => Value.none).toArray, e1, ?_, ?_, hsz, ?_, fun p hp => (lo p hp).1, ?_, ?_, ?_, ?_, fun p hp => ?_⟩ fun c o e => Heap.get?_push_of_some _ (Heap.get?_push_of_some _ (Heap.get?_push_of_some _ (kp c o e)))
    · show (((h1.push t1).push t2).objs.size :: h1.objs.size :: (h1.push t1).objs.size :: ps.map (·.1)).Nodup
      have hp : ∀ x ∈ ps.map (·.1), x < h1.objs.size := fun x hx => by
        obtain ⟨p, hp, rfl⟩ := List.mem_map.mp hx
        exact (lo p hp).2
      rw [s1, s2, List.nodup_cons, List.nodup_cons, List.nodup_cons]
      refine ⟨fun hm => ?_, fun hm => ?_, fun hm => ?_, nd⟩
      · rcases List.mem_cons.mp hm with hm | hm
        · omega
        · rcases List.mem_cons.mp hm with hm | hm
          · omega
          · have := hp _ hm
            omega
      · rcases List.mem_cons.mp hm with hm | hm
        · omega
        · have := hp _ hm
          omega
      · have := hp _ hm
        omega
    · show s.heap.objs.size ≤ ((h1.push t1).push t2).objs.size
      rw [s2]; omega
    · rw [s1]; omega
    · exact Heap.get?_push_size _ rfl
    · exact Heap.get?_push_of_some _ (Heap.get?_push_of_some _ (Heap.get?_push_size _ rfl))
    · exact Heap.get?_push_of_some _ (Heap.get?_push_size _ rfl)
    · simp
    · exact (ri p hp).keep fun o e => Heap.get?_push_of_some _ (Heap.get?_push_of_some _ (Heap.get?_push_of_some _ e))
theorem call_zipN {as : List Addr} {Q : Value → Shared → Prop} (hs : ∀ a ∈ as, ∃ items, RSq kd s.heap a items) (hl : as.length ≤ 12)
    (h : ∀ h' z, ZMade kd s.heap h' as z → (∀ c o, s.heap.get? c = some o → h'.get? c = some o) → Q (.ref z) { s with heap := h' }) : wpAny (model prog w) A (call (.type "zip") (as.map Value.ref)) Q E s := by
  have hl' : (as.map Value.ref).length ≤ 12 := by rw [List.length_map]; exact hl
  refine callType_new F.called_zip (by decide) (typeCall_zipN hl') (newCall_zipN hl') (fun obj => args_init_zipN obj hl') F.entry_zip_new (zipN_new (kd := kd) as) ⟨hs, by omega, fun h' z hz hk => ?_⟩
  obtain ⟨ps, TI, TO, vs, h1, h2, h3, h4, h5, h6, g, r⟩ := id hz
  exact ⟨⟨_, g, rfl⟩, h h' z hz hk⟩
end
/-! ### for column in zip(*rows), as a comprehension walks it -/
def SqK (kd : Bool) (K : PySem.W.Frag) (H : Hp) (a : Addr) (xs : List V) : Prop := match kd with
  | true => SqL K H a xs
  | false => SqT K H a xs
theorem SqK.get {X : Cx} {pins : List (Addr × Obj)} {σ : L2.St} {H : Hp} {s : Shared} {kd : Bool} {a : Addr} {xs : List V} (I : Inv X pins σ H s) (h : SqK kd X.K H a xs) : ∃ its : List Value, Vals xs its ∧ RSq kd s.heap a its.toArray := by
  cases kd with
  | true =>
    obtain ⟨its, r, p, _⟩ := I.list h
    exact ⟨its, r, p.isList⟩
  | false =>
    obtain ⟨its, r, p, _⟩ := I.tuple h
    exact ⟨its, r, p⟩
def ItZ (K : PySem.W.Frag) (kd : Bool) (rs : List (Addr × List V)) : It :=
  ⟨fun i H => ∀ r ∈ rs, SqK kd K H r.1 r.2 ∧ i < r.2.length, fun i H v H' => ∃ T, v = .ref T ∧ H T = none ∧ H' = upd H T (.tup (rs.map fun r => r.2.getD i .non)), fun i H => ∀ r ∈ rs, SqK kd K H r.1 r.2 ∧ r.2.length ≤ i⟩
theorem RSq.lt {kd : Bool} {h : Heap} {a : Addr} {items : Array Value} (x : RSq kd h a items) : a < h.objs.size := by
  cases kd with
  | true =>
    obtain ⟨o, ho, _⟩ := x
    exact Heap.lt_size ho
  | false =>
    obtain ⟨o, ho, _⟩ := x
    exact Heap.lt_size ho
/-- what the rows give at a turn -/
theorem rows_give {X : Cx} {pins : List (Addr × Obj)} {σ : L2.St} {H : Hp} {s : Shared} {kd : Bool} {i : Nat} (I : Inv X pins σ H s) : ∀ {ps : List (Addr × Addr)} {rs : List (Addr × List V)}, ps.map (·.2) = rs.map (·.1) → (∀ p ∈ ps, RIt kd s.heap p.1 p.2 i) → (∀ r ∈ rs, SqK kd X.K H r.1 r.2 ∧ i < r.2.length) →
    ∃ L : List Src, L.map (fun t => (t.1, t.2.1)) = ps ∧ Vals (rs.map fun r => r.2.getD i .non) (L.map (·.2.2)) ∧ ∀ t ∈ L, Gives kd s.heap i t
  | [], [], _, _, _ => ⟨[], rfl, .nil, fun _ z => nomatch z⟩
  | p :: ps, r :: rs, e, h1, h2 => by
    rw [List.map_cons, List.map_cons, List.cons.injEq] at e
    obtain ⟨L, l1, l2, l3⟩ := rows_give I e.2 (fun q hq => h1 q (List.mem_cons_of_mem _ hq)) fun q hq => h2 q (List.mem_cons_of_mem _ hq)
    obtain ⟨sq, hi⟩ := h2 r (List.mem_cons_self ..)
    obtain ⟨its, rv, rs1⟩ := SqK.get I sq
    obtain ⟨u, hu, ru⟩ := rv.get (List.getElem?_eq_getElem hi)
    refine ⟨(p.1, p.2, u) :: L, by rw [List.map_cons, l1], ?_, fun t ht => ?_⟩
    · refine .cons ?_ l2
      show L2.RelV (r.2.getD i .non) u
      rw [List.getD_eq_getElem?_getD, List.getElem?_eq_getElem hi]
      exact ru
    · rcases List.mem_cons.mp ht with rfl | ht
      · exact ⟨h1 p (List.mem_cons_self ..), its.toArray, by show RSq kd s.heap p.2 _; rw [e.1]; exact rs1, by simpa using hu⟩
      · exact l3 t ht
  | [], _ :: _, e, _, _ => by cases e
  | _ :: _, [], e, _, _ => by cases e
theorem turn_zipN {P : Program} {w : World} {K : PySem.W.Frag} {x : Str} {px : Pos} {kd : Bool} {rs : List (Addr × List V)} {ps : List (Addr × Addr)} {z TI TO : Addr} (e : ps.map (·.2) = rs.map (·.1)) (hne : rs ≠ []) (hlen : rs.length ≤ 12) (nd : (z :: TI :: TO :: ps.map (·.1)).Nodup)
    (src : ∀ p ∈ ps, p.2 ≠ z ∧ p.2 ≠ TO ∧ p.2 ∉ ps.map (·.1)) :
    Turn P w K (.Name x px) (ItZ K kd rs) (z :: TI :: TO :: ps.map (·.1)) z (fun i h => ∃ f0 f1 vs, h.get? z = some (zObj f0 f1 TI TO) ∧ ZF f0 ∧ h.get? TI = some (tObj (ps.map fun p => Value.ref p.1).toArray) ∧ h.get? TO = some (tObj vs) ∧ vs.size = ps.length ∧ ∀ p ∈ ps, RIt kd h p.1 p.2 i) where
  mem := List.mem_cons_self ..
  obj := fun i h st b hb => by
    obtain ⟨f0, f1, vs, g1, g2, g3, g4, g5, g6⟩ := st
    rcases List.mem_cons.mp hb with rfl | hb
    · exact ⟨_, g1, fun v q => nomatch q⟩
    · rcases List.mem_cons.mp hb with rfl | hb
      · exact ⟨_, g3, fun v q => nomatch q⟩
      · rcases List.mem_cons.mp hb with rfl | hb
        · exact ⟨_, g4, fun v q => nomatch q⟩
        · obtain ⟨p, hp, rfl⟩ := List.mem_map.mp hb
          exact (g6 p hp).obj
  keep := fun i h h' st k => by
    obtain ⟨f0, f1, vs, g1, g2, g3, g4, g5, g6⟩ := st
    refine ⟨f0, f1, vs, k z (List.mem_cons_self ..) _ g1, g2, k TI (List.mem_cons_of_mem _ (List.mem_cons_self ..)) _ g3, k TO (List.mem_cons_of_mem _ (List.mem_cons_of_mem _ (List.mem_cons_self ..))) _ g4, g5, fun p hp => (g6 p hp).keep fun o q => k p.1 (List.mem_cons_of_mem _ (List.mem_cons_of_mem _ (List.mem_cons_of_mem _ (List.mem_map_of_mem hp)))) o q⟩
  item := by
    intro X hP hw hK hc i pins s σ H E I hf st hg
    subst hP hw hK
    obtain ⟨f0, f1, vs, g1, g2, g3, g4, g5, g6⟩ := st
    obtain ⟨L, l1, l2, l3⟩ := rows_give I e g6 hg
    have lm : L.map (·.1) = ps.map (·.1) := by rw [← l1, List.map_map]; rfl
    have ll : L.length = ps.length := by rw [← l1, List.length_map]
    have lv : L.map (fun t => Value.ref t.1) = ps.map (fun p => Value.ref p.1) := by rw [← l1, List.map_map]; rfl
    have pr : ps.length = rs.length := by
      have := congrArg List.length e
      rw [List.length_map, List.length_map] at this
      exact this
    have D : ZApart z TI TO L := ⟨by rw [lm]; exact nd, fun t ht => by
      rw [lm]
      exact src (t.1, t.2.1) (by rw [← l1]; exact List.mem_map_of_mem (f := fun t : Src => (t.1, t.2.1)) ht)⟩
    refine zipN_next g1 ?_
    refine zipN_item (kd := kd) (Q := fun v s1 => ∃ u, some v = some u ∧ wpAny (model X.prog X.w) X.A (letOwnedTupleGo (.Name x px) (.ref z) u) (fun _ s2 => ∃ x H', Inv X pins σ H' s2 ∧ RelV x u ∧ (ItZ X.K kd rs).yld i H x H' ∧ (∃ f0 f1 vs, s2.heap.get? z = some (zObj f0 f1 TI TO) ∧ ZF f0 ∧ s2.heap.get? TI = some (tObj (ps.map fun p => Value.ref p.1).toArray) ∧ s2.heap.get? TO = some (tObj vs) ∧ vs.size = ps.length ∧ ∀ p ∈ ps, RIt kd s2.heap p.1 p.2 (i + 1)) ∧ ∀ b ∈ z :: TI :: TO :: ps.map (·.1), H' b = none) E s1)
      D g1 g2 (by rw [lv]; exact g3) g4 (by rw [ll]; exact g5) (fun q => hne ?_) (by omega) l3 fun h' f0' f1' vs' a1 a2 a3 a4 a5 a6 a7 a8 => ?_
    · have l0 : L.length = 0 := by rw [q]; rfl
      exact List.length_eq_zero_iff.mp (by omega)
    · rw [lv] at a3
      rw [lm] at a8
      have new : ObjOk X.prog X.w (upd H s.heap.objs.size (.tup (rs.map fun r => r.2.getD i .non))) h' s.heap.objs.size (.tup (rs.map fun r => r.2.getD i .non)) :=
        ⟨by rw [List.length_map]; exact Nat.le_trans hlen (by decide), _, l2, ⟨_, a7, rfl, _, rfl⟩⟩
      have I1 : Inv X pins σ (upd H s.heap.objs.size (.tup (rs.map fun r => r.2.getD i .non))) { s with heap := h' } :=
        I.turnedNew (t' := s.toks) (ch := z :: TI :: TO :: ps.map (·.1)) (fun c o hb q => a8 c o (fun q' => hb (by rw [q']; exact List.mem_cons_self ..)) (fun q' => hb (by rw [q']; exact List.mem_cons_of_mem _ (List.mem_cons_of_mem _ (List.mem_cons_self ..)))) (fun q' => hb (List.mem_cons_of_mem _ (List.mem_cons_of_mem _ (List.mem_cons_of_mem _ q')))) q) hf (Nat.le_refl _) new
      have lts : ∀ b ∈ z :: TI :: TO :: ps.map (·.1), b < s.heap.objs.size := fun b hb => by
        rcases List.mem_cons.mp hb with rfl | hb
        · exact Heap.lt_size g1
        · rcases List.mem_cons.mp hb with rfl | hb
          · exact Heap.lt_size g3
          · rcases List.mem_cons.mp hb with rfl | hb
            · exact Heap.lt_size g4
            · obtain ⟨p, hp, rfl⟩ := List.mem_map.mp hb
              obtain ⟨o, ho, _⟩ := (g6 p hp).obj
              exact Heap.lt_size ho
      refine ⟨_, rfl, ?_⟩
      refine wpAny_pure ⟨.ref s.heap.objs.size, _, I1, rfl, ⟨_, rfl, I.hok.fresh (Nat.le_refl _), rfl⟩, ⟨f0', f1', vs', a1, a2, a3, a4, by rw [a5, ll], fun p hp => ?_⟩, fun b hb => ?_⟩
      · obtain ⟨t, ht, et⟩ := List.mem_map.mp (by rw [l1]; exact hp : p ∈ L.map fun t => (t.1, t.2.1))
        rw [← et]
        exact a6 t ht
      · rw [upd_ne (Nat.ne_of_lt (lts b hb))]
        exact (hf b hb).1
  done := by
    intro X hP hw hK hc i pins s σ H E I hf st hg
    subst hP hw hK
    obtain ⟨f0, f1, vs, g1, g2, g3, g4, g5, g6⟩ := st
    cases rs with
    | nil => exact absurd rfl hne
    | cons r rs =>
      cases ps with
      | nil => cases e
      | cons p ps =>
        rw [List.map_cons, List.map_cons, List.cons.injEq] at e
        obtain ⟨sq, hi⟩ := hg r (List.mem_cons_self ..)
        obtain ⟨its, rv, rq⟩ := SqK.get I sq
        rw [← e.1] at rq
        have hl := rv.length
        have nz : p.1 ≠ z := fun q => by
          rw [List.nodup_cons] at nd
          exact nd.1 (List.mem_cons_of_mem _ (List.mem_cons_of_mem _ (by rw [← q]; exact List.mem_cons_self ..)))
        have nt : TI ≠ z := fun q => by
          rw [List.nodup_cons] at nd
          exact nd.1 (by rw [← q]; exact List.mem_cons_self ..)
        obtain ⟨s1, s2, s3⟩ := src p (List.mem_cons_self ..)
        refine zipN_next g1 (zipN_end (kd := kd) (its := ps.map (·.1)) (I.ok.hd hc) g1 g2 nt nz s1 (by rw [g3, List.map_cons, List.map_cons, List.map_map]; rfl) (g6 p (List.mem_cons_self ..)) rq (by simp; omega) fun h' e' hk he => ?_)
        obtain ⟨o, ho, hcl⟩ := he
        exact ⟨⟨e', o, rfl, ho, hcl⟩, rfl, I.turnedL (t' := s.toks) (ch := z :: TI :: TO :: (p :: ps).map (·.1)) (fun c o hb q => hk c o (fun q' => hb (by rw [q']; exact List.mem_cons_self ..)) (fun q' => hb (List.mem_cons_of_mem _ (List.mem_cons_of_mem _ (List.mem_cons_of_mem _ (by rw [q']; exact List.mem_cons_self ..))))) q) hf⟩
  self := fun A i s Q E st h => by
    obtain ⟨f0, f1, vs, g1, _⟩ := st
    have hT : s.TypeIs (.ref z) "zip" := ⟨_, g1, rfl⟩
    refine wpAny_pyIter_slot hT F.slot_zip_iter (wpAny_call_entry F.slot_zip_iter hT F.entry_zip_iter ?_ (F.args_zip_iter_1 _))
    show wpAny _ _ (ret (.ref z)) _ _ s
    exact wpAny_pure ⟨_, rfl, "zip", _, hT, F.slot_zip_next.lookup, h⟩
def iZipN (K : PySem.W.Frag) (te : TE) : TI := fun σ H R => te σ H fun x H1 => ∃ (p : Addr) (kd : Bool) (rs : List (Addr × List V)), x = .ref p ∧ (SqT K H1 p (rs.map fun r => V.ref r.1) ∨ SqL K H1 p (rs.map fun r => V.ref r.1)) ∧ rs ≠ [] ∧ rs.length ≤ 12 ∧ (∀ r ∈ rs, SqK kd K H1 r.1 r.2) ∧ R (ItZ K kd rs) H1
theorem vals_refs : ∀ {as : List Addr} {us : List Value}, Vals (as.map V.ref) us → us = as.map Value.ref
  | [], _, .nil => rfl
  | a :: as, _, .cons r t => by
    have e : _ = Value.ref a := r
    rw [e, vals_refs t]; rfl
theorem keeps_zip {M : Model} {h : Heap} : ∃ k, (k = Keeper.frame ∨ k = Keeper.machine ∨ k = Keeper.boundFrame) ∧ PySem.W.Looks M h (keeperOf (.type "zip")) k := by
  refine ⟨.machine, .inr (.inl rfl), ?_⟩
  exact PySem.W.Looks.of_pure rfl
theorem pi_zipN (K : PySem.W.Frag) {X : Cx} {e : Expr} {te : TE} {x : Str} {px p sp pos : Pos} (hg : Gl X "zip") (hm : X.mg "zip" = none) (he : PE X e te) (hK : X.K = K := by rfl) (hst : starEach [.Starred e sp] X.env = [(true, eval e X.env)] := by rfl) :
    PI X (.Name x px) (.Call (.Name "zip" p) [.Starred e sp] [] pos) (iZipN K te) := by
  subst hK
  refine ⟨fun pins s σ H R I h => ?_⟩
  refine Call_ (ld_blt I hg hm PyProof.Rows.boot_zip ?_)
  rw [hst]
  refine PySem.W.ks_call (P := fun _ => True) rfl (fun h _ => keeps_zip) (PySem.W.ks_lone (thn (he.run pins s σ H _ I h) fun v s1 ⟨y, H1, I1, ry, a, kd, rs, ey, hxs, hne, hlen, hsq, q⟩ => ?_))
  subst ey
  obtain rfl : v = Value.ref a := ry
  have hxs' : SqT X.K H1 a ((rs.map (·.1)).map V.ref) ∨ SqL X.K H1 a ((rs.map (·.1)).map V.ref) := by rw [List.map_map]; exact hxs
  refine StX.star_any I1 hxs' fun us s2 I2 rv => ⟨trivial, ?_⟩
  rw [vals_refs rv, List.nil_append]
  refine call_zipN (kd := kd) (fun b hb => ?_) (by rw [List.length_map]; exact hlen) fun h' z hz hk => ?_
  · obtain ⟨r, hr, rfl⟩ := List.mem_map.mp hb
    obtain ⟨its, _, w2⟩ := SqK.get I2 (hsq r hr)
    exact ⟨_, w2⟩
  · obtain ⟨ps, TI, TO, vs, e1, nd, lz, lTI, lTO, lp, g1, g3, g4, g5, g6⟩ := hz
    have old : ∀ q ∈ ps, q.2 < s2.heap.objs.size := fun q hq => by
      have hm2 : q.2 ∈ rs.map (·.1) := by rw [← e1]; exact List.mem_map_of_mem hq
      obtain ⟨r, hr, er⟩ := List.mem_map.mp hm2
      obtain ⟨its, _, w2⟩ := SqK.get I2 (hsq r hr)
      rw [← er]
      exact w2.lt
    have I3 : Inv X pins σ H1 { s2 with heap := h' } := I2.kept (t' := s2.toks) hk
    have T := turn_zipN (P := X.prog) (w := X.w) (K := X.K) (x := x) (px := px) (kd := kd) e1 hne hlen nd fun q hq => ⟨Nat.ne_of_lt (Nat.lt_of_lt_of_le (old q hq) lz), Nat.ne_of_lt (Nat.lt_of_lt_of_le (old q hq) lTO), fun z' => by
      obtain ⟨q', hq', e'⟩ := List.mem_map.mp z'
      exact Nat.ne_of_lt (Nat.lt_of_lt_of_le (old q hq) (lp q' hq')) e'.symm⟩
    refine T.self X.A 0 { s2 with heap := h' } _ _ ⟨.none, false, vs, g1, .inl rfl, g3, g4, g5, g6⟩ ?_
    refine ⟨z, _, _, _, H1, rfl, I3, T, ⟨.none, false, vs, g1, .inl rfl, g3, g4, g5, g6⟩, fun b hb => ?_, q⟩
    have lb : s2.heap.objs.size ≤ b := by
      rcases List.mem_cons.mp hb with rfl | hb
      · exact lz
      · rcases List.mem_cons.mp hb with rfl | hb
        · exact lTI
        · rcases List.mem_cons.mp hb with rfl | hb
          · exact lTO
          · obtain ⟨q', hq', rfl⟩ := List.mem_map.mp hb
            exact lp q' hq'
    exact I2.fpOk lb (I2.hok.fresh lb)
end Cg

set_option Elab.async false
set_option linter.all false
set_option maxRecDepth 100000
set_option maxHeartbeats 1000000
namespace Cg
open PySem PySem.Spec PyProof.Rows L2 Evl
/-! ### enumerate of a list or a tuple that stands still -/
theorem draws_row {prog : Program} {w : World} {A : Around} {kd : Bool} (hh : A.handled = none) (it a : Addr) (hne : a ≠ it) (items : Array Value) : Draws prog w A it [it, a] items.size (fun i v => items[i]? = some v) (fun i h => RIt kd h it a i ∧ RSq kd h a items) := by
  cases kd with
  | true => exact Draws.list hh it a hne items
  | false => exact Draws.tuple hh it a hne items
section
variable {prog : Program} {w : World} {A : Around} {E : Value → Shared → Prop} {s : Shared} {kd : Bool}
theorem enum_tup (l : Addr) (items : Array Value) : Meets (Builtin.«enumerate.__new__» ⟨[.type "enumerate", .ref l], []⟩) (fun _ R s => s.heap.IsTuple l items ∧
      R (.ok (.ret (.ref (s.heap.push (itObj false l)).objs.size))) { s with heap := (s.heap.push (itObj false l)).push { cls := .type "enumerate", data := .fields #[.none, .bool false, .ref s.heap.objs.size, rawInt 0, .none, .none] } }) :=
  .of_wp fun prog w A R s h => by
    obtain ⟨hp, g, d, tk, os⟩ := s
    obtain ⟨hl, h⟩ := h
    have hsub := sub_enumerate
    obtain ⟨o, ho, r⟩ := id hl
    have hL : Heap.IsTuple (Shared.heap ⟨hp, g, d, tk, os⟩) l items := hl
    wp_walk using AutoSeq1.wpAny_loadPart' ho
    refine wpAny_stack_any fun _ => wpAny_pure ?_
    split
    · rename_i c _ _ _ _ _
      cases (c == Value.type "enumerate") <;> (wp_walk using AutoSeq1.wpAny_loadPart' ho, wpAny_pyIter_tuple hL; exact ⟨_, rfl, h⟩)
    · wp_walk using AutoSeq1.wpAny_loadPart' ho, wpAny_pyIter_tuple hL
      exact ⟨_, rfl, h⟩
theorem call_enum {l : Addr} {items : Array Value} {Q : Value → Shared → Prop} (hL : RSq kd s.heap l items)
    (h : ∀ h', IsEnum h' (s.heap.objs.size + 1) s.heap.objs.size 0 .none → RIt kd h' s.heap.objs.size l 0 → (∀ b o, s.heap.get? b = some o → h'.get? b = some o) → Q (.ref (s.heap.objs.size + 1)) { s with heap := h' }) :
    wpAny (model prog w) A (call (.type "enumerate") [.ref l]) Q E s := by
  cases kd with
  | true => exact call_enumerate_list hL fun h' a1 a2 _ a4 => h h' a1 a2 a4
  | false =>
    refine callType_new F.called_enumerate (by decide) (F.typeCall_enumerate_1 _) (F.newCall_enumerate_1 _) (fun obj => F.args_object_init_2 obj _) F.entry_enumerate_new (enum_tup l items) ⟨hL, ?_⟩
    have hz : (s.heap.push (itObj false l)).objs.size = s.heap.objs.size + 1 := Heap.size_push ..
    have he : ((s.heap.push (itObj false l)).push { cls := .type "enumerate", data := .fields #[.none, .bool false, .ref s.heap.objs.size, rawInt 0, .none, .none] }).get? (s.heap.push (itObj false l)).objs.size = some { cls := .type "enumerate", data := .fields #[.none, .bool false, .ref s.heap.objs.size, rawInt 0, .none, .none] } := Heap.get?_push_size _ rfl
    show _ ∧ _
    rw [hz] at he ⊢
    exact ⟨⟨_, he, rfl⟩, h _ he ((rit_new (kd := false)).keep fun o e => Heap.get?_push_of_some _ e) fun b o x => Heap.get?_push_of_some _ (Heap.get?_push_of_some _ x)⟩
end
def ItE (K : PySem.W.Frag) (kd : Bool) (a : Addr) (xs : List V) : It :=
  ⟨fun i H => SqK kd K H a xs ∧ i < xs.length, fun i H v H' => ∃ T, v = .ref T ∧ H T = none ∧ H' = upd H T (.tup [.int (i : Nat), xs.getD i .non]), fun i H => SqK kd K H a xs ∧ xs.length ≤ i⟩
theorem turn_enumK {P : Program} {w : World} {K : PySem.W.Frag} {elts : List Expr} {kk : Nat} {tpos : Pos} {kd : Bool} {xs : List V} {a e it : Addr} (hei : e ≠ it) (hai : a ≠ it) (hae : a ≠ e) :
    Turn P w K (.Tuple elts kk tpos) (ItE K kd a xs) [e, it] e (fun i h => (∃ old, IsEnum h e it ((i : Nat) : Int) old) ∧ RIt kd h it a i ∧ i ≤ xs.length) where
  mem := List.mem_cons_self ..
  obj := fun i h st b hb => by
    obtain ⟨⟨old, he⟩, hi, _⟩ := st
    rcases List.mem_cons.mp hb with rfl | hb
    · exact ⟨_, he, fun v q => nomatch q⟩
    · rw [List.mem_singleton.mp hb]
      exact hi.obj
  keep := fun i h h' st k => by
    obtain ⟨⟨old, he⟩, hi, hl⟩ := st
    exact ⟨⟨old, k e (List.mem_cons_self ..) _ he⟩, hi.keep fun o q => k it (List.mem_cons_of_mem _ (List.mem_cons_self ..)) o q, hl⟩
  item := by
    intro X hP hw hK hc i pins s σ H E I hf st hg
    subst hP hw hK
    obtain ⟨⟨old, he⟩, hi, _⟩ := st
    obtain ⟨sq, hlt⟩ := hg
    obtain ⟨its, rv, rq⟩ := SqK.get I sq
    have hlen := rv.length
    obtain ⟨u, hu, ru⟩ := rv.get (List.getElem?_eq_getElem hlt)
    have hel : e < s.heap.objs.size := Heap.lt_size he
    have hil : it < s.heap.objs.size := by
      obtain ⟨o, ho, _⟩ := hi.obj
      exact Heap.lt_size ho
    refine wpAny_pyNext_enum_itemD (draws_row (kd := kd) (A := X.A.in1) (I.ok.hd hc) it a hai its.toArray) he ⟨hi, rq⟩ (by simp; omega) hei (by simp; exact ⟨hei, hae.symm⟩) fun x h' tk hP ho hst hT hsz hk => ?_
    have ex : x = u := by
      have h1 : its[i]? = some x := by simpa using hP
      rw [hu] at h1
      exact (Option.some.inj h1).symm
    subst ex
    refine ⟨_, rfl, wpAny_letOwnedTupleGo_enum (s := { s with heap := h', toks := tk + 1 }) ho fun h2 he2 sb => ?_⟩
    have hT2 : h2.get? s.heap.objs.size = some (tObj #[.int i tk, x]) := (sb.2 _ (Nat.ne_of_gt hel)).trans hT
    have eg : xs.getD i .non = xs[i] := by rw [List.getD_eq_getElem?_getD, List.getElem?_eq_getElem hlt]; rfl
    have new : ObjOk X.prog X.w (upd H s.heap.objs.size (.tup [.int (i : Nat), xs.getD i .non])) h2 s.heap.objs.size (.tup [.int (i : Nat), xs.getD i .non]) :=
      ⟨by show 2 ≤ sizeLine; decide, [.int i tk, x], .cons ⟨_, rfl⟩ (.cons (by rw [eg]; exact ru) .nil), ⟨_, hT2, rfl, _, rfl⟩⟩
    have I1 : Inv X pins σ (upd H s.heap.objs.size (.tup [.int (i : Nat), xs.getD i .non])) { s with heap := h2, toks := tk + 1 } :=
      I.turnedNew (ch := [e, it]) (fun b ob hb q => (sb.2 b (fun z => hb (by rw [z]; exact List.mem_cons_self ..))).trans (hk b ob (fun z => hb (by rw [z]; exact List.mem_cons_self ..)) (fun z => hb (by rw [z]; exact List.mem_cons_of_mem _ (List.mem_cons_self ..))) q)) hf (Nat.le_refl _) new
    refine ⟨.ref s.heap.objs.size, _, I1, rfl, ⟨_, rfl, I.hok.fresh (Nat.le_refl _), rfl⟩, ⟨⟨x, ?_⟩, hst.1.keep fun o q => (sb.2 it hei.symm).trans q, hlt⟩, fun b hb => ?_⟩
    · have e1 : ((i + 1 : Nat) : Int) = (i : Int) + 1 := by omega
      rw [e1]
      exact he2
    · have hb' : b < s.heap.objs.size := by
        rcases List.mem_cons.mp hb with rfl | hb
        · exact hel
        · rw [List.mem_singleton.mp hb]; exact hil
      rw [upd_ne (Nat.ne_of_lt hb')]
      exact (hf b hb).1
  done := by
    intro X hP hw hK hc i pins s σ H E I hf st hg
    subst hP hw hK
    obtain ⟨⟨old, he⟩, hi, hl⟩ := st
    obtain ⟨sq, hle⟩ := hg
    obtain ⟨its, rv, rq⟩ := SqK.get I sq
    have hlen := rv.length
    obtain rfl : i = xs.length := by omega
    obtain ⟨f0, f1, f2, f3, f4, f5⟩ := hf it (List.mem_cons_of_mem _ (List.mem_cons_self ..))
    have hsz : its.toArray.size = xs.length := by rw [List.size_toArray]; omega
    exact wpAny_pyNext_enum_endD (draws_row (kd := kd) (A := X.A.in1) (I.ok.hd hc) it a hai its.toArray) he ⟨by rw [hsz]; exact hi, rq⟩ fun h' eb => ⟨rfl, I.turned (t' := s.toks) (fun b o hb q => eb b o hb q) f0 f1 f3 f4 f5⟩
  self := fun A i s Q E st h => by
    obtain ⟨⟨_, he⟩, _⟩ := st
    exact wpAny_pyIter_enum he h
def iEnumK (K : PySem.W.Frag) (ta : TA) : TI := fun σ H R => ta σ H fun vs H1 => ∃ (kd : Bool) (a : Addr) (xs : List V), vs = [.ref a] ∧ SqK kd K H1 a xs ∧ R (ItE K kd a xs) H1
theorem pi_enumS (K : PySem.W.Frag) {X : Cx} {e : Expr} {ta : TA} {p pos tpos : Pos} {elts : List Expr} {kk : Nat} (hg : Gl X "enumerate") (hm : X.mg "enumerate" = none) (ha : PA X [e] ta) (hK : X.K = K := by rfl) (hs : starEach [e] X.env = [(false, eval e X.env)] := by rfl) :
    PI X (.Tuple elts kk tpos) (.Call (.Name "enumerate" p) [e] [] pos) (iEnumK K ta) := by
  subst hK
  constructor
  intro pins s σ H R I h
  refine Call_ (ld_blt I hg hm boot_enumerate (PyProof.Rows.callWith_type1 (thn (ha.run pos pins s σ H _ I h) ?_) hs rfl))
  rintro us s1 ⟨vs, H1, I1, r1, kd, a, xs, rfl, sq, q⟩
  obtain ⟨u, rfl, ru⟩ := vals1 r1
  obtain rfl : u = Value.ref a := ru
  obtain ⟨its, rv, rq⟩ := SqK.get I1 sq
  have hal := rq.lt
  refine call_enum rq fun h' he hit hk => wpAny_pyIter_enum he ?_
  have I2 : Inv X pins σ H1 { s1 with heap := h' } := I1.kept (t' := s1.toks) hk
  refine ⟨s1.heap.objs.size + 1, [s1.heap.objs.size + 1, s1.heap.objs.size], _, _, H1, rfl, I2, turn_enumK (kd := kd) (xs := xs) (Nat.succ_ne_self _) (Nat.ne_of_lt hal) (Nat.ne_of_lt (Nat.lt_succ_of_lt hal)), ⟨⟨.none, he⟩, hit, Nat.zero_le _⟩, fun b hb => ?_, q⟩
  have hle : s1.heap.objs.size ≤ b := by
    rcases List.mem_cons.mp hb with rfl | hb
    · exact Nat.le_succ _
    · rw [List.mem_singleton.mp hb]; exact Nat.le_refl _
  exact I1.fpOk hle (I1.hok.fresh hle)
end Cg

set_option Elab.async false
set_option linter.all false
set_option maxRecDepth 100000
set_option maxHeartbeats 1000000
namespace Cg
open PySem PySem.Spec PyProof.Rows L2 Evl
/-! ### a walk of n turns -/
theorem it_by {J : It} {n : Nat} {Body : V → Hp → (Hp → Prop) → Prop} {Fn : Hp → Prop} {H0 : Hp} (Pv : Nat → Hp → Prop) (h0 : Pv 0 H0) (hgo : ∀ i H, i < n → Pv i H → J.go i H) (hst : ∀ H, Pv n H → J.stop n H) (hs : ∀ i x H H', i < n → Pv i H → J.yld i H x H' → Body x H' (Pv (i + 1))) (hd : ∀ H, Pv n H → Fn H) :
    ∃ W : Nat → Nat → Hp → Prop, (∃ m, W 0 m H0) ∧ ∀ i m H, W i m H → (J.stop i H ∧ Fn H) ∨ (J.go i H ∧ ∃ Nx : Hp → Prop, (∀ H', Nx H' → ∃ m', m' < m ∧ W (i + 1) m' H') ∧ ∀ x H', J.yld i H x H' → Body x H' Nx) := by
  refine ⟨fun i m H => i + m = n ∧ Pv i H, ⟨n, by omega, h0⟩, fun i m H hw => ?_⟩
  obtain ⟨e, p⟩ := hw
  cases m with
  | zero =>
    obtain rfl : i = n := by omega
    exact .inl ⟨hst H p, hd H p⟩
  | succ m => exact .inr ⟨hgo i H (by omega) p, Pv (i + 1), fun H' p' => ⟨m, by omega, by omega, p'⟩, fun x H' y => hs i x H H' (by omega) p y⟩
/-- a list, or a tuple, of data -/
def seqD (kd : Bool) (ds : List PyData) : PyData := match kd with
  | true => .list ds
  | false => .tuple ds
theorem Dq.seq_inv {H : Hp} {v : V} {kd : Bool} {ds : List PyData} (h : Dq H v (seqD kd ds)) : ∃ a xs, v = .ref a ∧ (∀ {K : PySem.W.Frag} {H' : Hp}, Same H H' → SqK kd K H' a xs) ∧ DqAll H xs ds := by
  cases kd with
  | true =>
    obtain ⟨a, xs, e, hh, r⟩ := h.list_inv
    exact ⟨a, xs, e, fun s => SqL.of (s _ _ hh), r⟩
  | false =>
    obtain ⟨a, xs, e, hh, r⟩ := h.tup_inv
    exact ⟨a, xs, e, fun s => SqT.of (s _ _ hh), r⟩
theorem take_idx {α β : Type} (f : Nat → α → β) {xs : List α} {i : Nat} {x : α} (h : xs[i]? = some x) : (xs.take (i + 1)).mapIdx f = (xs.take i).mapIdx f ++ [f i x] := by
  have hl : (xs.take i).length = i := by
    rw [List.length_take]
    have := (List.getElem?_eq_some_iff.mp h).1
    omega
  rw [List.take_add_one, h]
  show (xs.take i ++ [x]).mapIdx f = _
  rw [List.mapIdx_append, hl]
  simp
section
variable {bs : List Addr} {K : PySem.W.Frag} {σ : L2.St} {H H' : Hp} {ta tb te tl : TE} {d e : PyData} {ds es : List PyData}
/-- [e for k, x in enumerate(xs)] -/
theorem en_lcE {kd : Bool} {i j : Nat} {vs : List Nat} (g : Nat → PyData → PyData) (l : Live bs H) (h : EvQ bs tl σ H (seqD kd ds)) (hz : ds.length ≤ 40000) (hw : ∀ x y, wipe (((wipe σ vs).set i (some x)).set j (some y)) vs = wipe σ vs)
    (he : ∀ (cs : List Addr) (x : V) (k : Nat) (d : PyData) (H1 : Hp), Same H H1 → (∀ y ∈ bs, y ∈ cs) → Live cs H1 → ds[k]? = some d → Dq (hid cs H1) x d → EvQ cs te (((wipe σ vs).set i (some (.int (k : Nat)))).set j (some x)) H1 (g k d)) :
    EvN bs (tLc (iEnumK K (tCons tl tNil)) (gTup K 2 (gCons (gName i) (gCons (gName j) gNil))) tYes te vs) σ H (ds.mapIdx g) := fun H0 a Q q => h H0 a _ fun v H1 e1 hd => by
  obtain ⟨p, xs, rfl, hp, hx⟩ := hd.seq_inv
  refine ⟨kd, p, xs, rfl, hp hid_same, fun D hD => ?_⟩
  have l1 : Live bs H1 := l.mono (a.trans e1)
  have hlen := hx.len
  refine it_by (J := ItE K kd p xs) (n := xs.length) (Body := fun x H' Nx => gTup K 2 (gCons (gName i) (gCons (gName j) gNil)) x (wipe σ vs) H' fun σ2 H2 => wipe σ2 vs = wipe σ vs ∧ tYes σ2 H2 fun b H3 => if b = true then te σ2 H3 fun y H4 => ∃ acc, H4 D = some (.lst acc) ∧ acc.length < sizeLine ∧ Nx (upd H4 D (.lst (acc ++ [y]))) else Nx H3)
    (fun k H' => ∃ acc : List V, H' D = some (.lst acc) ∧ DqAll (hid (D :: bs) H') acc ((ds.take k).mapIdx g) ∧ Same H1 H' ∧ DqAll (hid (D :: bs) H') xs ds) ⟨[], upd_same, .nil, Ex.new hD, hx.mono (hid_fresh hD)⟩ (fun k H' hk hP => ?_) (fun H' hP => ?_) (fun k x H' H2 hk hP hy => ?_) (fun H' hP => ?_)
  · obtain ⟨_, _, _, sm, _⟩ := hP
    exact ⟨hp (hid_same.trans sm), hk⟩
  · obtain ⟨_, _, _, sm, _⟩ := hP
    exact ⟨hp (hid_same.trans sm), Nat.le_refl _⟩
  · obtain ⟨acc, h1, h2, h3, h4⟩ := hP
    obtain ⟨T, rfl, hT, rfl⟩ := hy
    have hxk : xs[k]? = some (xs.getD k .non) := by rw [List.getD_eq_getElem?_getD, List.getElem?_eq_getElem hk]; rfl
    obtain ⟨d, gd, dd⟩ := h4.get hxk
    have sT : Same H' (upd H' T (.tup [.int (k : Nat), xs.getD k .non])) := Ex.new hT
    have lD : Live (D :: bs) H' := fun y hy => by
      rcases List.mem_cons.mp hy with rfl | hy
      · rw [h1]; exact fun z => nomatch z
      · exact (l1.mono h3) y hy
    refine ⟨T, _, rfl, SqT.of upd_same, rfl, _, _, rfl, _, _, rfl, rfl, hw _ _, ?_⟩
    show te _ (upd H' T (.tup [.int (k : Nat), xs.getD k .non])) fun y H4 => ∃ acc, H4 D = some (.lst acc) ∧ acc.length < sizeLine ∧ _
    refine he (D :: bs) (xs.getD k .non) k d _ (((a.trans e1).trans h3).trans sT) (fun y hy => List.mem_cons_of_mem _ hy) (lD.mono sT) gd (dd.mono (same_hid sT)) _ (Same.refl _) _ fun y H4 e4 dy => ⟨acc, e4 _ _ (sT _ _ h1), ?_, acc ++ [y], upd_same, ?_, ?_, ?_⟩
    · have := h2.len
      rw [List.length_mapIdx, List.length_take] at this
      exact Nat.lt_of_le_of_lt (show acc.length ≤ 40000 by omega) (by decide)
    · have kk : Keep (D :: bs) H4 (upd H4 D (.lst (acc ++ [y]))) := (Keep.refl _ _).put (List.mem_cons_self ..)
      rw [take_idx g gd]
      exact ((h2.mono (same_hid (sT.trans e4))).mono kk).append (.cons (dy.mono kk) .nil)
    · exact fun c o q => by
        rw [upd_ne (ne_of_none q hD)]
        exact e4 _ _ (sT _ _ (h3 _ _ q))
    · have kk : Keep (D :: bs) H4 (upd H4 D (.lst (acc ++ [y]))) := (Keep.refl _ _).put (List.mem_cons_self ..)
      exact (h4.mono (same_hid (sT.trans e4))).mono kk
  · obtain ⟨acc, h1, h2, h3, h4⟩ := hP
    rw [hlen, List.take_of_length_le (Nat.le_refl _)] at h2
    exact q D acc H' (fresh_back e1 hD) (e1.trans h3) h1 h2
/-- [e for k, row in enumerate(rows) for r, x in enumerate(row) if t] -/
theorem en_lc2E {k1 k2 : Bool} {i j i2 j2 : Nat} {vs vs1 : List Nat} {t : TT} {tl2 : TE} {rows : List (List PyData)} (c : PyData → Bool) (g : Nat → Nat → PyData → PyData) (l : Live bs H) (h : EvQ bs tl σ H (seqD k1 (rows.map (seqD k2)))) (hz : (rows.map List.length).sum ≤ 40000) (hlr : rows.length ≤ 40000)
    (hw : ∀ x y, wipe (((wipe σ vs).set i (some x)).set j (some y)) vs = wipe σ vs) (hw1 : ∀ x y z w, wipe (((wipe (((wipe σ vs).set i (some x)).set j (some y)) vs1).set i2 (some z)).set j2 (some w)) vs1 = wipe (((wipe σ vs).set i (some x)).set j (some y)) vs1)
    (h2 : ∀ (cs : List Addr) (x : V) (k : Nat) (row : List PyData) (H1 : Hp), Live cs H1 → Dq (hid cs H1) x (seqD k2 row) → EvQ cs tl2 (((wipe σ vs).set i (some (.int (k : Nat)))).set j (some x)) H1 (seqD k2 row))
    (ht : ∀ (cs : List Addr) (x y : V) (k r : Nat) (d : PyData) (H1 : Hp), (∃ row ∈ rows, d ∈ row) → Dq (hid cs H1) y d → EvT t (((wipe (((wipe σ vs).set i (some (.int (k : Nat)))).set j (some x)) vs1).set i2 (some (.int (r : Nat)))).set j2 (some y)) H1 (c d))
    (he : ∀ (cs : List Addr) (x y : V) (k r : Nat) (d : PyData) (H1 : Hp), Live cs H1 → c d = true → Dq (hid cs H1) y d → EvQ cs te (((wipe (((wipe σ vs).set i (some (.int (k : Nat)))).set j (some x)) vs1).set i2 (some (.int (r : Nat)))).set j2 (some y)) H1 (g k r d)) :
    EvN bs (tLc2 (iEnumK K (tCons tl tNil)) (gTup K 2 (gCons (gName i) (gCons (gName j) gNil))) tYes (iEnumK K (tCons tl2 tNil)) (gTup K 2 (gCons (gName i2) (gCons (gName j2) gNil))) t te vs vs1) σ H
      (rows.mapIdx fun k row => (row.mapIdx fun r d => if c d = true then [g k r d] else []).flatten).flatten := fun H0 a Q q => h H0 a _ fun v H1 e1 hd => by
  obtain ⟨p, xs, rfl, hp, hx⟩ := hd.seq_inv
  refine ⟨k1, p, xs, rfl, hp hid_same, fun D hD => ?_⟩
  have l1 : Live bs H1 := l.mono (a.trans e1)
  have hlen : xs.length = rows.length := by rw [hx.len, List.length_map]
  let f : Nat → List PyData → List PyData := fun k row => (row.mapIdx fun r d => if c d = true then [g k r d] else []).flatten
  have flen : ∀ (k : Nat) (row : List PyData), (f k row).length ≤ row.length := fun k row => by
    show ((row.mapIdx fun r d => if c d = true then [g k r d] else []).flatten).length ≤ _
    rw [List.length_flatten]
    have : ∀ (r0 : Nat) (row : List PyData), ((row.mapIdx fun r d => if c d = true then [g k (r + r0) d] else []).map List.length).sum ≤ row.length := fun r0 row => by
      induction row generalizing r0 with
      | nil => exact Nat.le_refl _
      | cons d row ih =>
        rw [List.mapIdx_cons, List.map_cons, List.sum_cons, List.length_cons]
        have h1 := ih (r0 + 1)
        have h2 : ∀ x y : PyData → PyData, True := fun _ _ => trivial
        have h3 : (if c d = true then [g k (0 + r0) d] else []).length ≤ 1 := by split <;> simp
        have e : (row.mapIdx fun r d => if c d = true then [g k (r + 1 + r0) d] else []) = (row.mapIdx fun r d => if c d = true then [g k (r + (r0 + 1)) d] else []) := by
          congr 1
          funext r d
          rw [show r + 1 + r0 = r + (r0 + 1) by omega]
        rw [e]
        omega
    exact this 0 row
  have alen : ∀ k, ((rows.take k).mapIdx f).flatten.length ≤ ((rows.take k).map List.length).sum := fun k => by
    induction k with
    | zero => simp
    | succ k ih =>
      cases hr : rows[k]? with
      | none =>
        have hle := List.getElem?_eq_none_iff.mp hr
        rw [List.take_of_length_le (by omega)]
        rw [List.take_of_length_le hle] at ih
        exact ih
      | some row =>
        rw [take_idx f hr, List.flatten_append, List.length_append, List.take_add_one, hr, List.map_append, List.sum_append]
        have := flen k row
        simp at ih ⊢
        omega
  have tlen : ∀ k, ((rows.take k).map List.length).sum ≤ 40000 := fun k => by
    have h1 : ((rows.take k).map List.length).sum + ((rows.drop k).map List.length).sum = (rows.map List.length).sum := by rw [← List.sum_append, ← List.map_append, List.take_append_drop]
    omega
  refine it_by (J := ItE K k1 p xs) (n := xs.length) (Body := fun x H' Nx => gTup K 2 (gCons (gName i) (gCons (gName j) gNil)) x (wipe σ vs) H' fun σ2 H2 => wipe σ2 vs = wipe σ vs ∧ tYes σ2 H2 fun b H3 =>
      if b = true then iEnumK K (tCons tl2 tNil) σ2 H3 fun J1 H4 => ∃ W1 : Nat → Nat → Hp → Prop, (∃ m, W1 0 m H4) ∧ ∀ j k H, W1 j k H →
        (J1.stop j H ∧ Nx H) ∨ (J1.go j H ∧ ∃ Nx1 : Hp → Prop, (∀ H', Nx1 H' → ∃ k', k' < k ∧ W1 (j + 1) k' H') ∧ ∀ x H', J1.yld j H x H' → gTup K 2 (gCons (gName i2) (gCons (gName j2) gNil)) x (wipe σ2 vs1) H' fun σ3 H5 => wipe σ3 vs1 = wipe σ2 vs1 ∧ t σ3 H5 fun b H6 =>
          if b = true then te σ3 H6 fun y H7 => ∃ acc, H7 D = some (.lst acc) ∧ acc.length < sizeLine ∧ Nx1 (upd H7 D (.lst (acc ++ [y]))) else Nx1 H6)
      else Nx H3)
    (fun k H' => ∃ acc : List V, H' D = some (.lst acc) ∧ DqAll (hid (D :: bs) H') acc ((rows.take k).mapIdx f).flatten ∧ Same H1 H' ∧ DqAll (hid (D :: bs) H') xs (rows.map (seqD k2))) ⟨[], upd_same, .nil, Ex.new hD, hx.mono (hid_fresh hD)⟩ (fun k H' hk hP => ?_) (fun H' hP => ?_) (fun k x H' H2 hk hP hy => ?_) (fun H' hP => ?_)
  · obtain ⟨_, _, _, sm, _⟩ := hP
    exact ⟨hp (hid_same.trans sm), hk⟩
  · obtain ⟨_, _, _, sm, _⟩ := hP
    exact ⟨hp (hid_same.trans sm), Nat.le_refl _⟩
  · obtain ⟨acc, g1, g2, g3, g4⟩ := hP
    obtain ⟨T, rfl, hT, rfl⟩ := hy
    have hxk : xs[k]? = some (xs.getD k .non) := by rw [List.getD_eq_getElem?_getD, List.getElem?_eq_getElem hk]; rfl
    obtain ⟨d, gd, dd⟩ := g4.get hxk
    rw [List.getElem?_map, Option.map_eq_some_iff] at gd
    obtain ⟨row, gr, rfl⟩ := gd
    have sT : Same H' (upd H' T (.tup [.int (k : Nat), xs.getD k .non])) := Ex.new hT
    have lD : Live (D :: bs) H' := fun y hy => by
      rcases List.mem_cons.mp hy with rfl | hy
      · rw [g1]; exact fun z => nomatch z
      · exact (l1.mono g3) y hy
    refine ⟨T, _, rfl, SqT.of upd_same, rfl, _, _, rfl, _, _, rfl, rfl, hw _ _, ?_⟩
    dsimp only [tYes]
    rw [if_pos rfl]
    refine h2 (D :: bs) (xs.getD k .non) k row _ (lD.mono sT) (dd.mono (same_hid sT)) _ (Same.refl _) _ fun v2 H3 e3 d3 => ?_
    obtain ⟨p2, ys, rfl, hp2, hy2⟩ := d3.seq_inv
    refine ⟨k2, p2, ys, rfl, hp2 hid_same, ?_⟩
    have ylen : ys.length = row.length := hy2.len
    refine it_by (J := ItE K k2 p2 ys) (n := ys.length) (Body := fun x H' Nx1 => gTup K 2 (gCons (gName i2) (gCons (gName j2) gNil)) x (wipe (((wipe σ vs).set i (some (.int (k : Nat)))).set j (some (xs.getD k .non))) vs1) H' fun σ3 H5 => wipe σ3 vs1 = wipe (((wipe σ vs).set i (some (.int (k : Nat)))).set j (some (xs.getD k .non))) vs1 ∧ t σ3 H5 fun b H6 =>
        if b = true then te σ3 H6 fun y H7 => ∃ acc, H7 D = some (.lst acc) ∧ acc.length < sizeLine ∧ Nx1 (upd H7 D (.lst (acc ++ [y]))) else Nx1 H6)
      (fun r H' => ∃ acc : List V, H' D = some (.lst acc) ∧ DqAll (hid (D :: bs) H') acc (((rows.take k).mapIdx f).flatten ++ ((row.take r).mapIdx fun r d => if c d = true then [g k r d] else []).flatten) ∧ Same H1 H' ∧ DqAll (hid (D :: bs) H') xs (rows.map (seqD k2)) ∧ DqAll (hid (D :: bs) H') ys row ∧ Same (hid (D :: bs) H3) (hid (D :: bs) H'))
      ⟨acc, e3 _ _ (sT _ _ g1), by simpa using g2.mono (same_hid (sT.trans e3)), (g3.trans sT).trans e3, g4.mono (same_hid (sT.trans e3)), hy2, Same.refl _⟩ (fun r H4 hr hP => ?_) (fun H4 hP => ?_) (fun r x H4 H5 hr hP hy => ?_) (fun H4 hP => ?_)
    · obtain ⟨_, _, _, _, _, _, sm⟩ := hP
      exact ⟨hp2 (sm.trans hid_same), hr⟩
    · obtain ⟨_, _, _, _, _, _, sm⟩ := hP
      exact ⟨hp2 (sm.trans hid_same), Nat.le_refl _⟩
    · obtain ⟨ac, b1, b2, b3, b4, b5, b6⟩ := hP
      obtain ⟨T2, rfl, hT2, rfl⟩ := hy
      have hyr : ys[r]? = some (ys.getD r .non) := by rw [List.getD_eq_getElem?_getD, List.getElem?_eq_getElem hr]; rfl
      obtain ⟨d, gd, dd2⟩ := b5.get hyr
      have sT2 : Same H4 (upd H4 T2 (.tup [.int (r : Nat), ys.getD r .non])) := Ex.new hT2
      have dmem : ∃ row ∈ rows, d ∈ row := ⟨row, List.mem_of_getElem? gr, List.mem_of_getElem? gd⟩
      have lD4 : Live (D :: bs) H4 := fun y hy => by
        rcases List.mem_cons.mp hy with rfl | hy
        · rw [b1]; exact fun z => nomatch z
        · exact (l1.mono b3) y hy
      refine ⟨T2, _, rfl, SqT.of upd_same, rfl, _, _, rfl, _, _, rfl, rfl, hw1 _ _ _ _, ?_⟩
      refine ht (D :: bs) _ (ys.getD r .non) k r d _ dmem (dd2.mono (same_hid sT2)) _ (Ex.refl _) _ fun H6 e6 => ?_
      have s46 := sT2.trans e6
      rw [take_idx (fun r d => if c d = true then [g k r d] else []) gd, List.flatten_append]
      cases hc : c d with
      | false =>
        refine iteF ⟨ac, s46 _ _ b1, by simpa [hc] using b2.mono (same_hid s46), b3.trans s46, b4.mono (same_hid s46), b5.mono (same_hid s46), b6.trans (same_hid s46)⟩
      | true =>
        refine iteT ?_
        refine he (D :: bs) _ (ys.getD r .non) k r d H6 (lD4.mono s46) hc (dd2.mono (same_hid s46)) H6 (Same.refl _) _ fun y H7 e7 dy => ⟨ac, e7 _ _ (s46 _ _ b1), ?_, ac ++ [y], upd_same, ?_, ?_, ?_, ?_, ?_⟩
        · have h1 := b2.len
          rw [List.length_append] at h1
          have h3 := alen k
          have h4 := tlen k
          have h5 : (((row.take r).mapIdx fun r d => if c d = true then [g k r d] else []).flatten).length ≤ (row.take r).length := flen k (row.take r)
          rw [List.length_take] at h5
          have h6 : row.length ≤ 40000 := by
            have h7 := tlen (k + 1)
            rw [List.take_add_one, gr, List.map_append, List.sum_append] at h7
            simp at h7
            omega
          exact Nat.lt_of_le_of_lt (show ac.length ≤ 80000 by omega) (by decide)
        · have kk : Keep (D :: bs) H7 (upd H7 D (.lst (ac ++ [y]))) := (Keep.refl _ _).put (List.mem_cons_self ..)
          have b2' := (b2.mono (same_hid (s46.trans e7))).mono kk
          have z := b2'.append (.cons (dy.mono kk) .nil)
          simpa [hc] using z
        · exact fun c' o q => by
            rw [upd_ne (ne_of_none q hD)]
            exact e7 _ _ (s46 _ _ (b3 _ _ q))
        · have kk : Keep (D :: bs) H7 (upd H7 D (.lst (ac ++ [y]))) := (Keep.refl _ _).put (List.mem_cons_self ..)
          exact (b4.mono (same_hid (s46.trans e7))).mono kk
        · have kk : Keep (D :: bs) H7 (upd H7 D (.lst (ac ++ [y]))) := (Keep.refl _ _).put (List.mem_cons_self ..)
          exact (b5.mono (same_hid (s46.trans e7))).mono kk
        · have kk : Keep (D :: bs) H7 (upd H7 D (.lst (ac ++ [y]))) := (Keep.refl _ _).put (List.mem_cons_self ..)
          exact (b6.trans (same_hid (s46.trans e7))).trans kk
    · obtain ⟨ac, b1, b2, b3, b4, b5, b6⟩ := hP
      rw [ylen, List.take_of_length_le (Nat.le_refl _)] at b2
      refine ⟨ac, b1, ?_, b3, b4⟩
      rw [take_idx f gr, List.flatten_append]
      simpa using b2
  · obtain ⟨acc, g1, g2, g3, g4⟩ := hP
    rw [hlen, List.take_of_length_le (Nat.le_refl _)] at g2
    exact q D acc H' (fresh_back e1 hD) (e1.trans g3) g1 g2
end
end Cg

set_option Elab.async false
set_option linter.all false
set_option maxRecDepth 100000
set_option maxHeartbeats 1000000
namespace Cg
open PySem PySem.Spec PyProof.Rows L2 Evl
theorem pi_zipS (K : PySem.W.Frag) {X : Cx} {e e2 : Expr} {ta : TA} {p pos tpos : Pos} {elts : List Expr} {kk : Nat} (hg : Gl X "zip") (hm : X.mg "zip" = none) (ha : PA X [e, e2] ta) (hK : X.K = K := by rfl)
    (hs : starEach [e, e2] X.env = (false, eval e X.env) :: starEach [e2] X.env := by rfl) (hpl : (backTo pos (starEach [e2] X.env)).any (·.1) = false := by rfl) : PI X (.Tuple elts kk tpos) (.Call (.Name "zip" p) [e, e2] [] pos) (RZ.iZipA K ta) := by
  subst hK
  exact RZ.pi_zipA hg hm ha hs hpl
/-- tables of numbers -/
abbrev Mat := List (List Int)
def rowD (kd : Bool) (r : List Int) : PyData := seqD kd (r.map PyData.int)
def tabD (k1 k2 : Bool) (M : Mat) : PyData := seqD k1 (M.map (rowD k2))
theorem ints_inv {H : Hp} : ∀ {xs : List V} {ns : List Int}, DqAll H xs (ns.map PyData.int) → xs = ns.map V.int
  | _, [], .nil => rfl
  | _, n :: r, .cons h t => by rw [h.int_inv, ints_inv t]; rfl
theorem hid_grow {bs cs : List Addr} {H H' : Hp} (hc : ∀ a ∈ cs, H a = none) (s : Same H H') : Same (hid bs H) (hid (cs ++ bs) H') := fun a o e => by
  obtain ⟨h1, h2⟩ := hid_some e
  have h3 : a ∉ cs ++ bs := fun z => by
    rcases List.mem_append.mp z with z | z
    · rw [hc a z] at h2; cases h2
    · exact h1 z
  rw [hid_out h3]
  exact s _ _ h2
/-- a new list of new lists of numbers -/
structure NewTab (H H' : Hp) (p : Addr) (as : List Addr) (M : Mat) : Prop where
  np : H p = none
  hp : H' p = some (.lst (as.map V.ref))
  len : as.length = M.length
  nd : as.Nodup
  row : ∀ (j : Nat) (a : Addr) (r : List Int), as[j]? = some a → M[j]? = some r → a ≠ p ∧ H a = none ∧ H' a = some (.lst (r.map V.int))
theorem rows_dq {H' : Hp} : ∀ {as : List Addr} {M : Mat}, as.length = M.length → (∀ (j : Nat) (a : Addr) (r : List Int), as[j]? = some a → M[j]? = some r → H' a = some (.lst (r.map V.int))) → DqAll H' (as.map V.ref) (M.map (rowD true))
  | [], [], _, _ => .nil
  | [], _ :: _, z, _ => nomatch z
  | _ :: _, [], z, _ => nomatch z
  | a :: as, r :: M, len, row => .cons (.lst (row 0 a r rfl rfl) (DqAll.ints r)) (rows_dq (by simpa using len) fun j b s h1 h2 => row (j + 1) b s h1 h2)
theorem NewTab.get {H H' : Hp} {p : Addr} {as : List Addr} {M : Mat} (t : NewTab H H' p as M) {a : Addr} (ha : a ∈ as) : a ≠ p ∧ H a = none ∧ ∃ r ∈ M, H' a = some (.lst (r.map V.int)) := by
  obtain ⟨j, hj, e⟩ := List.mem_iff_getElem.mp ha
  have h1 : as[j]? = some a := by rw [List.getElem?_eq_getElem hj, e]
  have hj2 : j < M.length := by rw [← t.len]; exact hj
  obtain ⟨q1, q2, q3⟩ := t.row j a M[j] h1 (List.getElem?_eq_getElem hj2)
  exact ⟨q1, q2, M[j], List.getElem_mem hj2, q3⟩
theorem NewTab.dq {H H' : Hp} {p : Addr} {as : List Addr} {M : Mat} (t : NewTab H H' p as M) {bs : List Addr} (l : Live bs H) : Dq (hid bs H') (.ref p) (tabD true true M) := by
  refine .lst (by rw [hid_out (l.out t.np)]; exact t.hp) (rows_dq t.len fun j a r h1 h2 => ?_)
  obtain ⟨_, q2, q3⟩ := t.row j a r h1 h2
  rw [hid_out (l.out q2)]
  exact q3
theorem NewTab.old {H0 H H' H2 : Hp} {p : Addr} {as : List Addr} {M : Mat} (t : NewTab H H' p as M) (s : Same H0 H) (s2 : Same H' H2) : NewTab H0 H2 p as M :=
  ⟨fresh_back s t.np, s2 _ _ t.hp, t.len, t.nd, fun j a r h1 h2 => by
    obtain ⟨q1, q2, q3⟩ := t.row j a r h1 h2
    exact ⟨q1, fresh_back s q2, s2 _ _ q3⟩⟩
section
variable {bs : List Addr} {K : PySem.W.Frag} {σ : L2.St} {H H1 : Hp} {te tl : TE} {ds : List PyData}
/-- a comprehension each of whose turns gives a new list of numbers -/
theorem lc_rows {J : It} {n : Nat} {g : TG} {vs : List Nat} {D : Addr} {Q : VK} (rowI : Nat → List Int) (hD : H1 D = none) (hn : n ≤ 40000) (hgo : ∀ i H', i < n → Same H1 H' → J.go i H') (hst : ∀ H', Same H1 H' → J.stop n H')
    (hs : ∀ (i : Nat) (x : V) (H' H2 : Hp) (Qk : VK), i < n → Same H1 H' → J.yld i H' x H2 → (∀ q H3, H' q = none → Same H' H3 → H3 q = some (.lst ((rowI i).map V.int)) → Qk (.ref q) H3) → g x (wipe σ vs) H2 fun σ2 H4 => wipe σ2 vs = wipe σ vs ∧ te σ2 H4 Qk)
    (hq : ∀ as H', Same H1 H' → NewTab H1 H' D as ((List.range n).map rowI) → Q (.ref D) H') :
    ∃ W : Nat → Nat → Hp → Prop, (∃ m, W 0 m (upd H1 D (.lst []))) ∧ ∀ i m H, W i m H → (J.stop i H ∧ Q (.ref D) H) ∨ (J.go i H ∧ ∃ Nx : Hp → Prop, (∀ H', Nx H' → ∃ m', m' < m ∧ W (i + 1) m' H') ∧ ∀ x H', J.yld i H x H' → g x (wipe σ vs) H' fun σ2 H2 => wipe σ2 vs = wipe σ vs ∧ tYes σ2 H2 fun b H3 =>
      if b = true then te σ2 H3 fun y H4 => ∃ acc, H4 D = some (.lst acc) ∧ acc.length < sizeLine ∧ Nx (upd H4 D (.lst (acc ++ [y]))) else Nx H3) := by
  refine it_by (J := J) (n := n) (Body := fun x H' Nx => g x (wipe σ vs) H' fun σ2 H2 => wipe σ2 vs = wipe σ vs ∧ tYes σ2 H2 fun b H3 => if b = true then te σ2 H3 fun y H4 => ∃ acc, H4 D = some (.lst acc) ∧ acc.length < sizeLine ∧ Nx (upd H4 D (.lst (acc ++ [y]))) else Nx H3)
    (fun k H' => ∃ as, Same H1 H' ∧ NewTab H1 H' D as ((List.range k).map rowI)) ⟨[], Ex.new hD, hD, upd_same, rfl, .nil, fun _ _ _ z => by simp at z⟩ (fun k H' hk hP => ?_) (fun H' hP => ?_) (fun k x H' H2 hk hP hy => ?_) (fun H' hP => ?_)
  · obtain ⟨_, sm, _⟩ := hP
    exact hgo k H' hk sm
  · obtain ⟨_, sm, _⟩ := hP
    exact hst H' sm
  · obtain ⟨as, sm, T⟩ := hP
    have base : ∀ q H3, H' q = none → Same H' H3 → H3 q = some (.lst ((rowI k).map V.int)) → ∃ acc, H3 D = some (.lst acc) ∧ acc.length < sizeLine ∧ ∃ as, Same H1 (upd H3 D (.lst (acc ++ [V.ref q]))) ∧ NewTab H1 (upd H3 D (.lst (acc ++ [V.ref q]))) D as ((List.range (k + 1)).map rowI) := fun q H3 nq s3 hq' => by
      have nqD : q ≠ D := fun z => by rw [z, T.hp] at nq; cases nq
      have hlen : as.length = k := by rw [T.len, List.length_map, List.length_range]
      refine ⟨_, s3 _ _ T.hp, ?_, as ++ [q], fun c o z => ?_, T.np, ?_, ?_, ?_, fun j a r h1 h2 => ?_⟩
      · rw [List.length_map, hlen]
        exact Nat.lt_of_le_of_lt (show k ≤ 40000 by omega) (by decide)
      · rw [upd_ne (ne_of_none z hD)]
        exact s3 _ _ (sm _ _ z)
      · rw [upd_same, List.map_append]; rfl
      · rw [List.length_append, hlen, List.length_map, List.length_range]; rfl
      · refine List.nodup_append.mpr ⟨T.nd, by simp, fun x hx y hy z => ?_⟩
        rw [List.mem_singleton.mp hy] at z
        obtain ⟨_, _, r, _, h9⟩ := T.get hx
        rw [z, nq] at h9
        cases h9
      · rw [List.range_succ, List.map_append] at h2
        by_cases hj : j < k
        · rw [List.getElem?_append_left (by omega)] at h1
          rw [List.getElem?_append_left (by rw [List.length_map, List.length_range]; omega)] at h2
          obtain ⟨q1, q2, q3⟩ := T.row j a r h1 h2
          exact ⟨q1, q2, by rw [upd_ne q1]; exact s3 _ _ q3⟩
        · have hjk : j = k := by
            have := (List.getElem?_eq_some_iff.mp h1).1
            rw [List.length_append, hlen] at this
            have h3 : j < k + 1 := this
            omega
          subst hjk
          rw [List.getElem?_append_right (by omega), hlen, Nat.sub_self] at h1
          rw [List.getElem?_append_right (by rw [List.length_map, List.length_range]; omega), List.length_map, List.length_range, Nat.sub_self] at h2
          have e1 : q = a := Option.some.inj h1
          have e2 : rowI j = r := Option.some.inj h2
          rw [← e1, ← e2]
          refine ⟨nqD, ?_, by rw [upd_ne nqD]; exact hq'⟩
          cases hh : H1 q with
          | none => rfl
          | some o => rw [sm _ _ hh] at nq; cases nq
    have st := hs k x H' H2 (fun y H4 => ∃ acc, H4 D = some (.lst acc) ∧ acc.length < sizeLine ∧ ∃ as, Same H1 (upd H4 D (.lst (acc ++ [y]))) ∧ NewTab H1 (upd H4 D (.lst (acc ++ [y]))) D as ((List.range (k + 1)).map rowI)) hk sm hy base
    simp only [tYes, if_true]
    exact st
  · obtain ⟨as, sm, T⟩ := hP
    exact hq as H' sm T
end
end Cg

set_option Elab.async false
set_option linter.all false
set_option maxRecDepth 100000
set_option maxHeartbeats 1000000
namespace Cg
open PySem PySem.Spec PyProof.Rows L2 Evl
section
variable {bs : List Addr} {K : PySem.W.Frag} {σ : L2.St} {H H1 : Hp} {ta tb te tl : TE} {v u : V} {d : PyData} {ds : List PyData}
theorem kit_two (d : PyData) : PySem.W.kitAny K (.type (tyN d)) [.type "list", .type "tuple"] = some (isList d || isTuple d) := by
  refine kitAny_cons (kit_ty (kit_list d)) (fun h => ?_) fun h => by rw [h]; rfl
  rw [h, Bool.false_or]
  refine kitAny_cons (kit_ty (kit_tuple d)) (fun h => ?_) fun h => h
  rw [h]
  exact kitAny_nil
/-- isinstance(x, (list, tuple)) -/
theorem ev_isi2 (ha : Ev ta σ H v) (hd : Dq H v d) : Ev (tCB (rIsiT K) (tCons ta (tCons (tTup (tCons (tC (.ty "list")) (tCons (tC (.ty "tuple")) tNil))) tNil))) σ H (.bl (isList d || isTuple d)) := fun H1 e Q q =>
  ha H1 e _ fun H2 e2 => ⟨by show 2 ≤ _; decide, fun p np => ⟨v, p, [.ty "list", .ty "tuple"], .type (tyN d), [.type "list", .type "tuple"], isList d || isTuple d, rfl, upd_same, .cons (.ty _) (.cons (.ty _) .nil), (hd.mono ((e.trans e2).trans (Ex.new np))).ty, kit_two d, q _ (e2.trans (Ex.new np))⟩⟩
/-- all([e for x, y in zip(a, b)]), a and b the same data, each e True -/
theorem ev_allZ {kd : Bool} {i j : Nat} {vs : List Nat} (ha : Ev ta σ H v) (hb : Ev tb σ H u) (hv : Dq H v (seqD kd ds)) (hu : Dq H u (seqD kd ds)) (hz : ds.length ≤ 40000) (hw : ∀ x y, wipe (((wipe σ vs).set i (some x)).set j (some y)) vs = wipe σ vs)
    (he : ∀ (x y : V) (d : PyData) (H1 : Hp), d ∈ ds → Dq H1 x d → Dq H1 y d → Ev te (((wipe σ vs).set i (some x)).set j (some y)) H1 (.bl true)) :
    Ev (tCB (rAll K) (tCons (tLc (RZ.iZipA K (tCons ta (tCons tb tNil))) (gTup K 2 (gCons (gName i) (gCons (gName j) gNil))) tYes te vs) tNil)) σ H (.bl true) := fun H0 e0 Q q => by
  refine ha H0 e0 _ fun H1 e1 => hb H1 (e0.trans e1) _ fun H2 e2 => ?_
  have s2 : Same H H2 := (e0.trans e1).trans e2
  obtain ⟨a, xs, rfl, hsx, hx⟩ := (hv.mono s2).seq_inv
  obtain ⟨b, ys, rfl, hsy, hy⟩ := (hu.mono s2).seq_inv
  have lx := hx.len
  have ly := hy.len
  have core : ∀ J : It, (∀ k H', k < ds.length → Same H2 H' → J.go k H') → (∀ H', Same H2 H' → J.stop ds.length H') → (∀ k H' w H'', k < ds.length → Same H2 H' → J.yld k H' w H'' → ∃ T x y, w = .ref T ∧ H' T = none ∧ H'' = upd H' T (.tup [x, y]) ∧ xs[k]? = some x ∧ ys[k]? = some y) →
      ∀ D, H2 D = none → ∃ W : Nat → Nat → Hp → Prop, (∃ m, W 0 m (upd H2 D (.lst []))) ∧ ∀ i' m H', W i' m H' → (J.stop i' H' ∧ rAll K [.ref D] H' Q) ∨ (J.go i' H' ∧ ∃ Nx : Hp → Prop, (∀ H'', Nx H'' → ∃ m', m' < m ∧ W (i' + 1) m' H'') ∧ ∀ x H'', J.yld i' H' x H'' → gTup K 2 (gCons (gName i) (gCons (gName j) gNil)) x (wipe σ vs) H'' fun σ2 H3 => wipe σ2 vs = wipe σ vs ∧ tYes σ2 H3 fun b H4 =>
        if b = true then te σ2 H4 fun y H5 => ∃ acc, H5 D = some (.lst acc) ∧ acc.length < sizeLine ∧ Nx (upd H5 D (.lst (acc ++ [y]))) else Nx H4) := fun J hgo hst hyl D hD => by
    refine it_by (J := J) (n := ds.length) (Body := fun x H' Nx => gTup K 2 (gCons (gName i) (gCons (gName j) gNil)) x (wipe σ vs) H' fun σ2 H2 => wipe σ2 vs = wipe σ vs ∧ tYes σ2 H2 fun b H3 => if b = true then te σ2 H3 fun y H4 => ∃ acc, H4 D = some (.lst acc) ∧ acc.length < sizeLine ∧ Nx (upd H4 D (.lst (acc ++ [y]))) else Nx H3)
      (fun k H' => H' D = some (.lst ((List.replicate k true).map V.bl)) ∧ Same H2 H') ⟨upd_same, Ex.new hD⟩ (fun k H' hk hP => hgo k H' hk hP.2) (fun H' hP => hst H' hP.2) (fun k x H' H3 hk hP hY => ?_) (fun H' hP => ?_)
    · obtain ⟨h1, h2⟩ := hP
      obtain ⟨T, x1, y1, rfl, hT, rfl, gx, gy⟩ := hyl k H' x H3 hk h2 hY
      obtain ⟨d, gd, dx⟩ := hx.get gx
      obtain ⟨d', gd', dy⟩ := hy.get gy
      have ed : d' = d := Option.some.inj (gd'.symm.trans gd)
      subst ed
      have sT : Same H2 (upd H' T (.tup [x1, y1])) := h2.trans (Ex.new hT)
      refine ⟨T, _, rfl, SqT.of upd_same, rfl, _, _, rfl, _, _, rfl, rfl, hw _ _, ?_⟩
      show te _ (upd H' T (.tup [x1, y1])) fun y H4 => ∃ acc, H4 D = some (.lst acc) ∧ acc.length < sizeLine ∧ _
      refine he x1 y1 d' _ (List.mem_of_getElem? gd) (dx.mono sT) (dy.mono sT) _ (Ex.refl _) _ fun H4 e4 => ⟨_, e4 _ _ (Ex.new hT _ _ h1), ?_, ?_, fun a o q => ?_⟩
      · rw [List.length_map, List.length_replicate]
        exact Nat.lt_of_le_of_lt (show k ≤ 40000 by omega) (by decide)
      · rw [upd_same, List.replicate_succ', List.map_append]; rfl
      · rw [upd_ne (ne_of_none q hD)]
        exact e4 _ _ (sT _ _ q)
    · obtain ⟨h1, h2⟩ := hP
      refine ⟨D, List.replicate ds.length true, rfl, SqL.of h1, ?_⟩
      have e : (List.replicate ds.length true).all id = true := List.all_eq_true.mpr fun x hx => by rw [List.eq_of_mem_replicate hx]; rfl
      rw [e]
      exact q H' ((e1.trans e2).trans h2)
  refine ⟨a, b, xs, ys, rfl, ?_⟩
  cases kd with
  | true =>
    refine .inl ⟨hsx (Same.refl _), hsy (Same.refl _), core (Itz K a b) (fun k H' hk s => ?_) (fun H' s => ⟨xs, ys, hsx s, hsy s, .inl (by omega)⟩) fun k H' w H'' hk s hY => ?_⟩
    · exact ⟨xs, ys, xs[k]'(by omega), ys[k]'(by omega), hsx s, hsy s, List.getElem?_eq_getElem _, List.getElem?_eq_getElem _⟩
    · obtain ⟨T, x, y, e1, e2, e3, e4, e5⟩ := hY
      exact ⟨T, x, y, e1, e2, e3, e4 xs (hsx s), e5 ys (hsy s)⟩
  | false =>
    refine .inr ⟨hsx (Same.refl _), hsy (Same.refl _), core (RZ.ItzT K a b) (fun k H' hk s => ?_) (fun H' s => ⟨xs, ys, hsx s, hsy s, .inl (by omega)⟩) fun k H' w H'' hk s hY => ?_⟩
    · exact ⟨xs, ys, xs[k]'(by omega), ys[k]'(by omega), hsx s, hsy s, List.getElem?_eq_getElem _, List.getElem?_eq_getElem _⟩
    · obtain ⟨T, x, y, e1, e2, e3, e4, e5⟩ := hY
      exact ⟨T, x, y, e1, e2, e3, e4 xs (hsx s), e5 ys (hsy s)⟩
/-- data of so few depths, of no great lists -/
def Okn : Nat → PyData → Prop
  | 0, _ => False
  | n + 1, .list xs => xs.length ≤ 40000 ∧ ∀ x ∈ xs, Okn n x
  | n + 1, .tuple xs => xs.length ≤ 40000 ∧ ∀ x ∈ xs, Okn n x
  | _ + 1, .dict _ => False
  | _ + 1, _ => True
/-- alike, kind by kind: what is promised of the same data -/
def spSame (n : Nat) : Sp := fun vs H Q _ => ∃ v u d, vs = [v, u] ∧ Dq H v d ∧ Dq H u d ∧ Okn n d ∧ RetV (.bl true) H Q
theorem spv_same {n : Nat} {d : PyData} (hv : Dq H v d) (hu : Dq H u d) (h : Okn n d) : SpV (spSame n) [v, u] H (.bl true) := fun H1 e Q q E => ⟨v, u, d, rfl, hv.mono e, hu.mono e, h, fun H2 e2 => q H2 e2⟩
/-- for k, x in enumerate(xs) -/
theorem s_forK {kd : Bool} {i j : Nat} {a : Addr} {xs : List V} {tu : TS} {D : Ends} (h : Ev tl σ H (.ref a)) (hs0 : ∀ H1, Same H H1 → SqK kd K H1 a xs) (Pv : Nat → L2.St → Hp → Prop) (h0 : ∀ H1, Same H H1 → Pv 0 σ H1) (hl : ∀ k σ' H', k ≤ xs.length → Pv k σ' H' → SqK kd K H' a xs)
    (hs : ∀ (k : Nat) x T σ' H', xs[k]? = some x → Pv k σ' H' → H' T = none → tu { D with nx := Pv (k + 1), ct := Pv (k + 1), bk := D.nx } ((σ'.set i (some (.int (k : Nat)))).set j (some x)) (upd H' T (.tup [.int (k : Nat), x])))
    (hd : ∀ σ' H', Pv xs.length σ' H' → D.nx σ' H') : tFor (iEnumK K (tCons tl tNil)) (gTup K 2 (gCons (gName i) (gCons (gName j) gNil))) tu D σ H := by
  refine h H (Ex.refl _) _ fun H1 e1 => ⟨kd, a, xs, rfl, hs0 H1 e1, ?_⟩
  refine ⟨fun k m σ' H' => k + m = xs.length ∧ Pv k σ' H', ⟨xs.length, by omega, h0 H1 e1⟩, fun k m σ' H' hw => ?_⟩
  obtain ⟨e, p⟩ := hw
  have sq := hl k σ' H' (by omega) p
  cases m with
  | zero =>
    obtain rfl : k = xs.length := by omega
    exact .inl ⟨⟨sq, Nat.le_refl _⟩, hd σ' H' p⟩
  | succ m =>
    have hk : k < xs.length := by omega
    refine .inr ⟨⟨sq, hk⟩, Pv (k + 1), fun σ2 H2 p' => ⟨m, by omega, by omega, p'⟩, fun w H2 y => ?_⟩
    obtain ⟨T, rfl, hT, rfl⟩ := y
    have hxk : xs[k]? = some (xs.getD k .non) := by rw [List.getD_eq_getElem?_getD, List.getElem?_eq_getElem hk]; rfl
    exact ⟨T, _, rfl, SqT.of upd_same, rfl, _, _, rfl, _, _, rfl, rfl, hs k _ T σ' H' hxk p hT⟩
theorem q_forK {kd : Bool} {i j : Nat} {a : Addr} {xs : List V} {tu tz : TS} {D : Ends} (h : Ev tl σ H (.ref a)) (hs0 : ∀ H1, Same H H1 → SqK kd K H1 a xs) (Pv : Nat → L2.St → Hp → Prop) (h0 : ∀ H1, Same H H1 → Pv 0 σ H1) (hl : ∀ k σ' H', k ≤ xs.length → Pv k σ' H' → SqK kd K H' a xs)
    (hs : ∀ (k : Nat) x T σ' H', xs[k]? = some x → Pv k σ' H' → H' T = none → tu { D with nx := Pv (k + 1), ct := Pv (k + 1), bk := tz D } ((σ'.set i (some (.int (k : Nat)))).set j (some x)) (upd H' T (.tup [.int (k : Nat), x])))
    (hd : ∀ σ' H', Pv xs.length σ' H' → tz D σ' H') : tSeq (tFor (iEnumK K (tCons tl tNil)) (gTup K 2 (gCons (gName i) (gCons (gName j) gNil))) tu) tz D σ H :=
  s_forK (D := { D with nx := tz D }) h hs0 Pv h0 hl hs hd
end
end Cg

set_option Elab.async false
set_option linter.all false
set_option maxRecDepth 100000
set_option maxHeartbeats 1000000
namespace Cg
open PySem PySem.Spec PyProof.Rows L2 Evl
section
variable {bs : List Addr} {K : PySem.W.Frag} {σ : L2.St} {H H1 : Hp} {ta tb te tl : TE} {v u : V} {d : PyData} {ds : List PyData}
/-- [e for k in range(n)], nothing changed -/
theorem en_lcR {j n : Nat} {vs : List Nat} (g : Nat → PyData) (l : Live bs H) (h : Ev tl σ H (.int (n : Int))) (hn : n ≤ 40000) (hw : ∀ x, wipe ((wipe σ vs).set j (some x)) vs = wipe σ vs)
    (he : ∀ (cs : List Addr) (k : Nat) (H1 : Hp), Same H H1 → (∀ y ∈ bs, y ∈ cs) → Live cs H1 → (∀ v d, Dq (hid bs H) v d → Dq (hid cs H1) v d) → k < n → EvQ cs te ((wipe σ vs).set j (some (.int (k : Nat)))) H1 (g k)) :
    EvN bs (tLc (iRng1 (tCons tl tNil)) (gName j) tYes te vs) σ H ((List.range n).map g) := fun H0 a Q q => h H0 a _ fun H1 e1 => by
  refine ⟨n, rfl, by omega, by omega, fun D hD => ?_⟩
  have toN : ((n : Int)).toNat = n := by omega
  rw [toN]
  have l1 : Live bs H1 := l.mono (a.trans e1)
  refine lc_range (lo := 0) (n := n) (fun i H' => ∃ acc : List V, H' D = some (.lst acc) ∧ DqAll (hid (D :: bs) H') acc ((List.range i).map g) ∧ Same H1 H' ∧ Same (hid bs H1) (hid (D :: bs) H')) ⟨[], upd_same, .nil, Ex.new hD, hid_fresh hD⟩ (fun i H' hi hP => ?_) (fun H' hP => ?_)
  · obtain ⟨acc, h1, h2, h3, h4⟩ := hP
    have e0 : (0 : Int) + (i : Int) = (i : Int) := Int.zero_add _
    have lD : Live (D :: bs) H' := fun y hy => by
      rcases List.mem_cons.mp hy with rfl | hy
      · rw [h1]; exact fun z => nomatch z
      · exact (l1.mono h3) y hy
    show wipe ((wipe σ vs).set j (some (.int ((0 : Int) + (i : Int))))) vs = wipe σ vs ∧ te ((wipe σ vs).set j (some (.int ((0 : Int) + (i : Int))))) H' _
    rw [e0]
    refine ⟨hw _, he (D :: bs) i H' ((a.trans e1).trans h3) (fun y hy => List.mem_cons_of_mem _ hy) lD (fun v d hv => (hv.mono (same_hid (a.trans e1))).mono h4) hi H' (Same.refl _) _ fun y H4 e4 dy => ⟨acc, e4 _ _ h1, ?_, acc ++ [y], upd_same, ?_, ?_, ?_⟩⟩
    · have := h2.len
      rw [List.length_map, List.length_range] at this
      exact Nat.lt_of_le_of_lt (show acc.length ≤ 40000 by omega) (by decide)
    · have kk : Keep (D :: bs) H4 (upd H4 D (.lst (acc ++ [y]))) := (Keep.refl _ _).put (List.mem_cons_self ..)
      rw [List.range_succ, List.map_append]
      exact ((h2.mono (same_hid e4)).mono kk).append (.cons (dy.mono kk) .nil)
    · exact fun c o q => by
        rw [upd_ne (ne_of_none q hD)]
        exact e4 _ _ (h3 _ _ q)
    · have kk : Keep (D :: bs) H4 (upd H4 D (.lst (acc ++ [y]))) := (Keep.refl _ _).put (List.mem_cons_self ..)
      exact (h4.trans (same_hid e4)).trans kk
  · obtain ⟨acc, h1, h2, h3, h4⟩ := hP
    exact q D acc H' (fresh_back e1 hD) (e1.trans h3) h1 h2
theorem eq_lcR {j n : Nat} {vs : List Nat} (g : Nat → PyData) (l : Live bs H) (h : Ev tl σ H (.int (n : Int))) (hn : n ≤ 40000) (hw : ∀ x, wipe ((wipe σ vs).set j (some x)) vs = wipe σ vs)
    (he : ∀ (cs : List Addr) (k : Nat) (H1 : Hp), Same H H1 → (∀ y ∈ bs, y ∈ cs) → Live cs H1 → (∀ v d, Dq (hid bs H) v d → Dq (hid cs H1) v d) → k < n → EvQ cs te ((wipe σ vs).set j (some (.int (k : Nat)))) H1 (g k)) :
    EvQ bs (tLc (iRng1 (tCons tl tNil)) (gName j) tYes te vs) σ H (.list ((List.range n).map g)) := en_eq l (en_lcR g l h hn hw he)
/-- alike, asked of two readings of the same data -/
theorem ev_same {n : Nat} (ha : EvQ bs ta σ H d) (hb : EvQ bs tb σ H d) (hk : Okn n d) : Ev (tCall (spSame n) [] E0 (tCons ta (tCons tb tNil))) σ H (.bl true) := fun H1 e Q q =>
  ha H1 e _ fun v H2 e2 hv => hb H2 (e.trans e2) _ fun u H3 e3 hu => ⟨v, u, d, rfl, (dq_vis hv).mono e3, dq_vis hu, hk, fun H4 e4 => q H4 ((e2.trans e3).trans e4)⟩
theorem Live.cons {p : Addr} {o : HO} (l : Live bs H) (h : H p = some o) : Live (p :: bs) H := fun y hy => by
  rcases List.mem_cons.mp hy with rfl | hy
  · rw [h]; exact fun z => nomatch z
  · exact l y hy
end
end Cg

set_option Elab.async false
set_option linter.all false
set_option maxRecDepth 100000
set_option maxHeartbeats 1000000
namespace Cg
open PySem PySem.Spec PyProof.Rows L2 Evl
/-! ### what the three tell -/
def isOne : PyData → Bool
  | .int i => decide (V.int i = V.int 1)
  | _ => false
def datR (M : Mat) : List (List PyData) := M.map fun r => r.map PyData.int
def askL (M : Mat) : List PyData := ((datR M).mapIdx fun k row => (row.mapIdx fun r d => if isOne d = true then [PyData.tuple [.int (k : Nat), .int (r : Nat)]] else []).flatten).flatten
theorem tab_eq (k1 k2 : Bool) (M : Mat) : tabD k1 k2 M = seqD k1 ((datR M).map (seqD k2)) := by
  unfold tabD datR
  rw [List.map_map]
  rfl
def turnM (m : Nat) (M : Mat) : Mat := (List.range m).map fun j => M.map fun r => r.getD j 0
def outB (I O : List Int) (i j : Nat) : Bool := inV (.int (i : Nat)) (I.map V.int) || inV (.int (j : Nat)) (O.map V.int)
def leftR (I O : List Int) (i : Nat) (r : List Int) : List Int := r.mapIdx fun j x => if outB I O i j = true then 0 else x
def leftM (I O : List Int) (M : Mat) : Mat := M.mapIdx (leftR I O)
def Small (M : Mat) : Prop := M.length ≤ 12 ∧ ∀ r ∈ M, r.length ≤ 12
theorem sum_small {M : Mat} (h : Small M) : ((datR M).map List.length).sum ≤ 40000 := by
  have go : ∀ M : Mat, (∀ r ∈ M, r.length ≤ 12) → ((datR M).map List.length).sum ≤ 12 * M.length := fun M => by
    induction M with
    | nil => intro _; exact Nat.le_refl _
    | cons r M ih =>
      intro h
      have h1 := ih fun s hs => h s (List.mem_cons_of_mem _ hs)
      have h2 := h r (List.mem_cons_self ..)
      show ((r.map PyData.int).length :: (datR M).map List.length).sum ≤ 12 * (M.length + 1)
      rw [List.sum_cons, List.length_map]
      omega
  have h1 := go M h.2
  have h2 := h.1
  omega
theorem rows_inv {H : Hp} {kd : Bool} : ∀ {xs : List V} {M : Mat}, DqAll H xs (M.map (rowD kd)) → ∃ rs : List (Addr × List V), xs = (rs.map fun r => V.ref r.1) ∧ rs.map (·.2) = M.map (fun r => r.map V.int) ∧ ∀ r ∈ rs, ∀ (K : PySem.W.Frag) (H' : Hp), Same H H' → SqK kd K H' r.1 r.2
  | _, [], .nil => ⟨[], rfl, rfl, fun _ z => nomatch z⟩
  | _, r :: M, .cons h t => by
    obtain ⟨rs, e1, e2, e3⟩ := rows_inv t
    obtain ⟨a, ys, e, hs, hy⟩ := Dq.seq_inv h
    refine ⟨(a, ys) :: rs, by rw [e, e1]; rfl, ?_, fun q hq K H' s => ?_⟩
    · rw [List.map_cons, List.map_cons, e2, ints_inv hy]
    · rcases List.mem_cons.mp hq with rfl | hq
      · exact hs s
      · exact e3 q hq K H' s
section
variable {P : Program} {w : World} {K : PySem.W.Frag} {mg : Str → Option Value} {base : Heap} {f f1 f2 f3 f4 : Addr} {fd fd1 fd2 fd3 fd4 : FuncData}
def spAsk : Sp := fun vs H Q _ => ∃ (bs : List Addr) (v : V) (k1 k2 : Bool) (M : Mat), vs = [v] ∧ Live bs H ∧ Dq (hid bs H) v (tabD k1 k2 M) ∧ Small M ∧ ∀ p xs H', H p = none → Same H H' → H' p = some (.lst xs) → DqAll (hid (p :: bs) H') xs (askL M) → Q (.ref p) H'
def spTurn : Sp := fun vs H Q _ => ∃ (bs : List Addr) (v : V) (k1 k2 : Bool) (m : Nat) (M : Mat), vs = [v] ∧ Dq (hid bs H) v (tabD k1 k2 M) ∧ M ≠ [] ∧ M.length ≤ 12 ∧ m ≤ 12 ∧ (∀ r ∈ M, r.length = m) ∧ ∀ p as H', Same H H' → NewTab H H' p as (turnM m M) → Q (.ref p) H'
theorem getD_ints {r : List Int} {j : Nat} (h : j < r.length) : (r.map V.int).getD j .non = V.int (r.getD j 0) := by
  rw [List.getD_eq_getElem?_getD, List.getD_eq_getElem?_getD, List.getElem?_map, List.getElem?_eq_getElem h]
  rfl
def spLeft : Sp := fun vs H Q _ => ∃ (bs : List Addr) (v vi vo : V) (k1 k2 k3 k4 : Bool) (M : Mat) (I O : List Int), vs = [v, vi, vo] ∧ Live bs H ∧ Dq (hid bs H) v (tabD k1 k2 M) ∧ Dq (hid bs H) vi (rowD k3 I) ∧ Dq (hid bs H) vo (rowD k4 O) ∧ Small M ∧ ∀ p as H', Same H H' → NewTab H H' p as (leftM I O M) → Q (.ref p) H'
theorem ev_inQ {bs : List Addr} {σ : L2.St} {H : Hp} {ta tb : TE} {kd : Bool} {I : List Int} {i : Int} (neg : Bool) (ha : Ev ta σ H (.int i)) (hb : EvQ bs tb σ H (rowD kd I)) : Ev (tOp (rIn K neg) ta tb) σ H (.bl (if neg then !inV (.int i) (I.map V.int) else inV (.int i) (I.map V.int))) := fun H1 e Q q => ha H1 e _ fun H2 e2 => hb H2 (e.trans e2) _ fun v H3 e3 hd => by
  obtain ⟨p, xs, rfl, hs, hx⟩ := Dq.seq_inv (show Dq (hid bs H3) v (seqD kd (I.map PyData.int)) from hd)
  have e4 := ints_inv hx
  subst e4
  refine ⟨p, I.map V.int, rfl, ?_, rfl, ?_, q H3 (e2.trans e3)⟩
  · have h1 : SqK kd K H3 p _ := hs hid_same
    cases kd with
    | true => exact .inl h1
    | false => exact .inr h1
  · rw [List.all_map]
    exact List.all_eq_true.mpr fun _ _ => rfl
theorem range_idx {f : Nat → List Int → List Int} (M : Mat) : (List.range M.length).map (fun i => f i (M.getD i [])) = M.mapIdx f := by
  apply List.ext_getElem
  · simp
  · intro i h1 h2
    rw [List.length_map, List.length_range] at h1
    rw [List.getElem_map, List.getElem_range, List.getElem_mapIdx, List.getD_eq_getElem?_getD, List.getElem?_eq_getElem h1]
    rfl
end
section
variable {P : Program} {w : World} {K : PySem.W.Frag} {mg : Str → Option Value} {base : Heap} {f f1 f2 f3 f4 : Addr} {fd fd1 fd2 fd3 fd4 : FuncData}
def spBox (K : PySem.W.Frag) : Sp := fun vs H Q _ => ∃ (a : Addr) (ns : List Int) (k : Nat), vs = [.ref a, .int (k : Int)] ∧ SqL K H a (ns.map V.int) ∧ k ≤ 1000 ∧ ∀ (b : Addr) (H' : Hp), Same H H' → H b = none → Box H' b 0 → Q (.ref b) H'
theorem cut_hi (xs : List V) (n : Nat) : cutV xs none (some (n : Int)) = xs.take n := by
  unfold cutV
  rw [HT.sIx_none, HT.sIx_nat, Nat.sub_zero, List.drop_zero]
  by_cases h : n ≤ xs.length
  · rw [Nat.min_eq_left h]
  · rw [Nat.min_eq_right (by omega), List.take_of_length_le (Nat.le_refl _), List.take_of_length_le (by omega)]
theorem cut_both (xs : List V) (n m : Nat) : cutV xs (some (n : Int)) (some (m : Int)) = (xs.drop n).take (m - n) := by
  unfold cutV
  rw [HT.sIx_nat, HT.sIx_nat]
  by_cases h : n ≤ xs.length
  · rw [Nat.min_eq_left h]
    by_cases h2 : m ≤ xs.length
    · rw [Nat.min_eq_left h2]
    · rw [Nat.min_eq_right (by omega), List.take_of_length_le (by rw [List.length_drop]; omega), List.take_of_length_le (by rw [List.length_drop]; omega)]
  · rw [Nat.min_eq_right (show xs.length ≤ n by omega), List.drop_of_length_le (Nat.le_refl _), List.drop_of_length_le (show xs.length ≤ n by omega), List.take_nil, List.take_nil]
def spFold (K : PySem.W.Frag) : Sp := fun vs H Q _ => ∃ (a : Addr) (ns : List Int) (z : Nat), vs = [.ref a, .int (z : Int)] ∧ SqL K H a (ns.map V.int) ∧ 1 ≤ z ∧ z ≤ 1000 ∧ ns.length ≤ 1000 ∧
  ∀ (l : Addr) (ms : List Int) (H' : Hp), Same H H' → H l = none → H' l = some (.lst (ms.map V.int)) → ms.length = min z ns.length → Q (.ref l) H'
end
section
variable {P : Program} {w : World} {K : PySem.W.Frag} {mg : Str → Option Value} {base : Heap} {f f1 f2 f3 f4 : Addr} {fd fd1 fd2 fd3 fd4 : FuncData}
def spSizes : Sp := fun vs H Q _ => ∃ (b : Addr) (M N : Nat), vs = [.ref b, .int (M : Int)] ∧ Box H b N ∧ N ≤ 900000000 ∧ 1 ≤ M ∧ M ≤ 1000 ∧
  ∀ (t : Addr) (n m : Nat) (H' : Hp), 1 ≤ n → n ≤ M → 1 ≤ m → m ≤ M → H t = none → H' t = some (.tup [.int (n : Int), .int (m : Int)]) → Box H' b (N + 5) → Keep [b] H H' → Q (.ref t) H'
end
section
variable {P : Program} {w : World} {K : PySem.W.Frag} {mg : Str → Option Value} {base : Heap} {f f1 f2 f3 f4 : Addr} {fd fd1 fd2 fd3 fd4 : FuncData}
def spTable : Sp := fun vs H Q _ => ∃ (b : Addr) (n m N : Nat) (bs : List Addr), vs = [.ref b, .int (n : Int), .int (m : Int)] ∧ Box H b N ∧ N ≤ 900000000 ∧ n ≤ 100 ∧ m ≤ 100 ∧ b ∈ bs ∧ (∀ x ∈ bs, H x ≠ none) ∧
  ∀ (T : Addr) (d : PyData) (H' : Hp), TblD n m d → H T = none → Dq (hid bs H') (.ref T) d → Box H' b (N + 1 + m * n) → Keep [b] H H' → Q (.ref T) H'
theorem flat_rep (n : Nat) (x : V) : (List.replicate n [x]).flatten = List.replicate n x := by
  induction n with
  | zero => rfl
  | succ n ih => rw [List.replicate_succ, List.flatten_cons, ih]; rfl
end
section
variable {P : Program} {w : World} {K : PySem.W.Frag} {mg : Str → Option Value} {base : Heap} {f f1 f2 f3 f4 : Addr} {fd fd1 fd2 fd3 fd4 : FuncData}
theorem ev_lenSq {σ : L2.St} {H : Hp} {ta : TE} {v : V} {kd : Bool} {ds : List PyData} (ha : Ev ta σ H v) (hd : Dq H v (seqD kd ds)) : Ev (tCB (rLenS K) (tCons ta tNil)) σ H (.int (ds.length : Int)) := fun H1 e Q q => ha H1 e _ fun H2 e2 => by
  obtain ⟨p, xs, rfl, hs, hx⟩ := (hd.mono (e.trans e2)).seq_inv
  have h1 : SqK kd K H2 p xs := hs (Same.refl _)
  refine ⟨p, xs, rfl, ?_, ?_⟩
  · cases kd with
    | true => exact .inl h1
    | false => exact .inr h1
  · rw [hx.len]
    exact q H2 e2
theorem ne_self {b : Bool} : (!decide (V.bl b = V.bl b)) = false := by rw [decide_eq_true rfl]; rfl
end
def rowAs (j : Nat) : PyData → PyData
  | .list xs => if decide (V.int (j : Int) = V.int 2) = true then .tuple xs else .list xs
  | d => d
theorem rows_as (j : Nat) (M : Mat) : (M.map (rowD true)).map (rowAs j) = M.map (rowD (!decide (V.int (j : Int) = V.int 2))) := by
  rw [List.map_map]
  refine List.map_congr_left fun r _ => ?_
  show (if decide (V.int (j : Int) = V.int 2) = true then PyData.tuple _ else PyData.list _) = _
  cases decide (V.int (j : Int) = V.int 2) <;> rfl
section
variable {P : Program} {w : World} {K : PySem.W.Frag} {mg : Str → Option Value} {base : Heap} {f f1 f2 f3 f4 : Addr} {fd fd1 fd2 fd3 fd4 : FuncData}
def spHand : Sp := fun vs H Q _ => ∃ (b : Addr) (bs : List Addr) (N : Nat) (v : V) (M : Mat), vs = [.ref b, v] ∧ Box H b N ∧ N ≤ 900000000 ∧ b ∈ bs ∧ Live bs H ∧ Dq (hid bs H) v (tabD true true M) ∧ Small M ∧
  ∀ (v' : V) (k1 k2 : Bool) (H' : Hp), Dq (hid bs H') v' (tabD k1 k2 M) → Box H' b (N + 1) → Keep [b] H H' → Q v' H'
def askR (k : Nat) (row : List PyData) : List PyData := (row.mapIdx fun r d => if isOne d = true then [PyData.tuple [.int (k : Nat), .int (r : Nat)]] else []).flatten
def Bits (M : Mat) : Prop := ∀ r ∈ M, ∀ x ∈ r, x = 0 ∨ x = 1
def spLAsk : Sp := fun vs H Q _ => ∃ (bs : List Addr) (v : V) (M : Mat), vs = [v] ∧ Live bs H ∧ Dq (hid bs H) v (tabD true true M) ∧ Small M ∧ Bits M ∧ ∀ v' H', Same H H' → Dq (hid bs H') v' (.list (askL M)) → Q v' H'
end
section
variable {P : Program} {w : World} {K : PySem.W.Frag} {mg : Str → Option Value} {base : Heap} {f f1 f2 f3 f4 : Addr} {fd fd1 fd2 fd3 fd4 : FuncData}
def Few (ns : List Int) : Prop := ∀ x ∈ ns, 0 ≤ x ∧ x < 12
def spSome : Sp := fun vs H Q _ => ∃ (b : Addr) (N sz : Nat), vs = [.ref b, .int (sz : Int)] ∧ Box H b N ∧ N ≤ 900000000 ∧ 1 ≤ sz ∧ sz ≤ 12 ∧
  ∀ (p : Addr) (ns : List Int) (H' : Hp), H p = none → H' p = some (.lst (ns.map V.int)) → ns.length ≤ 24 → Few ns → Box H' b (N + 16) → Keep [b] H H' → Q (.ref p) H'
theorem dqI {H : Hp} {L : Addr} {ls : List Int} (h : H L = some (.lst (ls.map V.int))) : Dq (hid [] H) (.ref L) (.list (ls.map PyData.int)) := .lst (by rw [hid_out (List.not_mem_nil)]; exact h) (DqAll.ints ls)
theorem ok_small {x : Int} (h : 0 ≤ x ∧ x < 12) : okD (.int x) = true := by
  obtain ⟨n, rfl⟩ : ∃ n : Nat, x = (n : Int) := ⟨x.toNat, by omega⟩
  have hn : n < 12 := by omega
  have go : ∀ n : Nat, n < 12 → okD (.int (n : Int)) = true := by decide +kernel
  exact go n hn
theorem shaped_ints {ls : List Int} (h : Few ls) : SeqAt.shaped (.list (ls.map PyData.int)) = true := by
  refine shaped_ok (okAll_iff.mpr fun x hx => ?_) ?_
  · obtain ⟨i, hi, rfl⟩ := List.mem_map.mp hx
    exact ok_small (h i hi)
  · have : PyData.depthAll (ls.map PyData.int) ≤ 0 := depthAll_iff.mpr fun x hx => by
      obtain ⟨i, _, rfl⟩ := List.mem_map.mp hx
      exact Nat.le_refl _
    show PyData.depthAll (ls.map PyData.int) + 1 ≤ 64
    omega
theorem erase_map {α β : Type} (f : α → β) : ∀ (xs : List α) (i : Nat), (xs.map f).eraseIdx i = (xs.eraseIdx i).map f
  | [], _ => rfl
  | _ :: _, 0 => rfl
  | x :: xs, i + 1 => by
    show f x :: (xs.map f).eraseIdx i = f x :: (xs.eraseIdx i).map f
    rw [erase_map f xs i]
theorem seqIx {j n : Nat} (h : j < n) : seqIndex? (j : Int) n = some j := by
  unfold seqIndex?
  have h1 : ¬ (j : Int) < 0 := by omega
  simp only [h1, if_false]
  rw [if_pos (by simp; omega)]
  simp
end
/-- n rows of m numbers 0 or 1 -/
structure Tab (n m : Nat) (M : Mat) : Prop where
  len : M.length = n
  row : ∀ r ∈ M, r.length = m
  bit : Bits M
theorem tab_of {n m : Nat} {d : PyData} (h : TblD n m d) : ∃ M, d = tabD true true M ∧ Tab n m M := by
  obtain ⟨rows, rfl, hn, hr⟩ := h
  have row : ∀ xs : List PyData, (∀ x ∈ xs, x = .int 0 ∨ x = .int 1) → ∃ r : List Int, xs = r.map PyData.int ∧ ∀ x ∈ r, x = 0 ∨ x = 1 := fun xs => by
    induction xs with
    | nil => exact fun _ => ⟨[], rfl, fun _ z => nomatch z⟩
    | cons x xs ih =>
      intro h
      obtain ⟨r, e, hb⟩ := ih fun y hy => h y (List.mem_cons_of_mem _ hy)
      rcases h x (List.mem_cons_self ..) with hx | hx
      · exact ⟨0 :: r, by rw [hx, e]; rfl, fun y hy => (List.mem_cons.mp hy).elim (fun z => .inl z) (hb y)⟩
      · exact ⟨1 :: r, by rw [hx, e]; rfl, fun y hy => (List.mem_cons.mp hy).elim (fun z => .inr z) (hb y)⟩
  have all : ∀ rows : List PyData, (∀ r ∈ rows, ∃ xs : List PyData, r = .list xs ∧ xs.length = m ∧ ∀ x ∈ xs, x = .int 0 ∨ x = .int 1) → ∃ M : Mat, rows = M.map (rowD true) ∧ (∀ r ∈ M, r.length = m) ∧ Bits M := fun rows => by
    induction rows with
    | nil => exact fun _ => ⟨[], rfl, (fun _ z => nomatch z), fun _ z => nomatch z⟩
    | cons r rows ih =>
      intro h
      obtain ⟨M, e, h1, h2⟩ := ih fun y hy => h y (List.mem_cons_of_mem _ hy)
      obtain ⟨xs, rfl, hm, hx⟩ := h r (List.mem_cons_self ..)
      obtain ⟨s, rfl, hs⟩ := row xs hx
      rw [List.length_map] at hm
      refine ⟨s :: M, by rw [e]; rfl, fun y hy => ?_, fun y hy => ?_⟩
      · rcases List.mem_cons.mp hy with rfl | hy
        · exact hm
        · exact h1 y hy
      · rcases List.mem_cons.mp hy with rfl | hy
        · exact hs
        · exact h2 y hy
  obtain ⟨M, e, h1, h2⟩ := all rows hr
  refine ⟨M, by rw [e]; rfl, ?_, h1, h2⟩
  rw [← hn, e, List.length_map]
section
variable {n m : Nat} {M : Mat}
theorem Tab.small (t : Tab n m M) (hn : n ≤ 12) (hm : m ≤ 12) : Small M := ⟨by rw [t.len]; exact hn, fun r hr => by rw [t.row r hr]; exact hm⟩
theorem Tab.ne (t : Tab n m M) (hn : 1 ≤ n) : M ≠ [] := fun z => by
  have := t.len
  rw [z] at this
  simp at this
  omega
theorem map_range {β : Type} (f : List Int → β) (M : Mat) : M.map f = (List.range M.length).map fun i => f (M.getD i []) := by
  apply List.ext_getElem
  · simp
  · intro i h1 h2
    rw [List.length_map] at h1
    rw [List.getElem_map, List.getElem_map, List.getElem_range, List.getD_eq_getElem?_getD, List.getElem?_eq_getElem h1]
    rfl
theorem row_range (r : List Int) : (List.range r.length).map (fun j => r.getD j 0) = r := by
  apply List.ext_getElem
  · simp
  · intro i h1 h2
    rw [List.getElem_map, List.getElem_range, List.getD_eq_getElem?_getD, List.getElem?_eq_getElem h2]
    rfl
theorem getD_map {α β : Type} (f : α → β) (xs : List α) (i : Nat) (a : α) (b : β) (h : i < xs.length) : (xs.map f).getD i b = f (xs.getD i a) := by
  rw [List.getD_eq_getElem?_getD, List.getD_eq_getElem?_getD, List.getElem?_map, List.getElem?_eq_getElem h]
  rfl
theorem Tab.turn_row (t : Tab n m M) : ∀ r ∈ turnM m M, r.length = n := fun r hr => by
  obtain ⟨j, _, rfl⟩ := List.mem_map.mp hr
  rw [List.length_map, t.len]
theorem turn_len : (turnM m M).length = m := by unfold turnM; rw [List.length_map, List.length_range]
theorem Tab.twice (t : Tab n m M) : turnM n (turnM m M) = M := by
  have e := map_range (fun r : List Int => r) M
  rw [List.map_id'] at e
  conv => rhs; rw [e]
  unfold turnM
  rw [t.len]
  refine List.map_congr_left fun i hi => ?_
  have hi' := List.mem_range.mp hi
  rw [List.map_map]
  have hr : (M.getD i []).length = m := by
    rw [List.getD_eq_getElem?_getD, List.getElem?_eq_getElem (by rw [t.len]; exact hi')]
    exact t.row _ (List.getElem_mem _)
  rw [← row_range (M.getD i []), hr]
  refine List.map_congr_left fun j _ => ?_
  show (M.map fun r => r.getD j 0).getD i 0 = _
  exact getD_map (fun r : List Int => r.getD j 0) M i [] 0 (by rw [t.len]; exact hi')
theorem Tab.turn_data (t : Tab n m M) : (List.range m).map (fun j => PyData.list ((List.range n).map fun i => PyData.int ((M.getD i []).getD j 0))) = (turnM m M).map (rowD true) := by
  unfold turnM
  rw [List.map_map]
  refine List.map_congr_left fun j _ => ?_
  show _ = PyData.list ((M.map fun r => r.getD j 0).map PyData.int)
  rw [List.map_map, map_range, t.len]
  rfl
theorem left_nil : leftM [] [] M = M := by
  unfold leftM
  have e : ∀ (i : Nat) (r : List Int), leftR [] [] i r = r := fun i r => by
    unfold leftR
    apply List.ext_getElem
    · simp
    · intro j h1 h2
      rw [List.getElem_mapIdx]
      rfl
  apply List.ext_getElem
  · simp
  · intro j h1 h2
    rw [List.getElem_mapIdx, e]
theorem okn_row (kd : Bool) {r : List Int} (h : r.length ≤ 40000) (n : Nat) : Okn (n + 2) (rowD kd r) := by
  have h1 : (r.map PyData.int).length ≤ 40000 ∧ ∀ x ∈ r.map PyData.int, Okn (n + 1) x := ⟨by rw [List.length_map]; exact h, fun x hx => by
    obtain ⟨i, _, rfl⟩ := List.mem_map.mp hx
    exact True.intro⟩
  cases kd <;> exact h1
theorem okn_tab (k1 k2 : Bool) (h1 : M.length ≤ 40000) (h2 : ∀ r ∈ M, r.length ≤ 40000) : Okn 3 (tabD k1 k2 M) := by
  have h : (M.map (rowD k2)).length ≤ 40000 ∧ ∀ x ∈ M.map (rowD k2), Okn 2 x := ⟨by rw [List.length_map]; exact h1, fun x hx => by
    obtain ⟨r, hr, rfl⟩ := List.mem_map.mp hx
    exact okn_row k2 (h2 r hr) 0⟩
  cases k1 <;> exact h
theorem ask_len (M : Mat) : (askL M).length ≤ ((datR M).map List.length).sum := by
  unfold askL
  have one : ∀ (k : Nat) (row : List PyData), (askR k row).length ≤ row.length := fun k row => by
    have go : ∀ (row : List PyData) (r0 : Nat), ((row.mapIdx fun r d => if isOne d = true then [PyData.tuple [.int (k : Nat), .int ((r + r0 : Nat) : Int)]] else []).flatten).length ≤ row.length := fun row => by
      induction row with
      | nil => exact fun _ => Nat.le_refl _
      | cons d row ih =>
        intro r0
        rw [List.mapIdx_cons, List.flatten_cons, List.length_append, List.length_cons]
        have h1 := ih (r0 + 1)
        have e : (row.mapIdx fun r d => if isOne d = true then [PyData.tuple [.int (k : Nat), .int ((r + 1 + r0 : Nat) : Int)]] else []) = (row.mapIdx fun r d => if isOne d = true then [PyData.tuple [.int (k : Nat), .int ((r + (r0 + 1) : Nat) : Int)]] else []) := by
          congr 1
          funext r d
          rw [show r + 1 + r0 = r + (r0 + 1) by omega]
        rw [e]
        have h3 : (if isOne d = true then [PyData.tuple [.int (k : Nat), .int ((0 + r0 : Nat) : Int)]] else []).length ≤ 1 := by split <;> simp
        omega
    exact go row 0
  have go : ∀ (rows : List (List PyData)) (k0 : Nat), ((rows.mapIdx fun k row => askR (k + k0) row).flatten).length ≤ (rows.map List.length).sum := fun rows => by
    induction rows with
    | nil => exact fun _ => Nat.le_refl _
    | cons row rows ih =>
      intro k0
      rw [List.mapIdx_cons, List.flatten_cons, List.length_append, List.map_cons, List.sum_cons]
      have h1 := ih (k0 + 1)
      have e : (rows.mapIdx fun k row => askR (k + 1 + k0) row) = (rows.mapIdx fun k row => askR (k + (k0 + 1)) row) := by
        congr 1
        funext r d
        rw [show r + 1 + k0 = r + (k0 + 1) by omega]
      rw [e]
      have h3 := one (0 + k0) row
      omega
  exact go (datR M) 0
theorem okn_ask (h : Small M) : Okn 3 (.list (askL M)) := by
  refine ⟨Nat.le_trans (ask_len M) (sum_small h), fun x hx => ?_⟩
  unfold askL at hx
  obtain ⟨l, hl, hx⟩ := List.mem_flatten.mp hx
  obtain ⟨k, hk, rfl⟩ := List.mem_mapIdx.mp hl
  obtain ⟨l2, hl2, hx⟩ := List.mem_flatten.mp hx
  obtain ⟨j, hj, rfl⟩ := List.mem_mapIdx.mp hl2
  split at hx
  · rw [List.mem_singleton.mp hx]
    refine ⟨by show 2 ≤ _; decide, fun y hy => ?_⟩
    rcases List.mem_cons.mp hy with rfl | hy
    · exact True.intro
    · rw [List.mem_singleton.mp hy]
      exact True.intro
  · cases hx
theorem wz_small {x : Int} (h : 0 ≤ x ∧ x < 12) : wz (.int x) ≤ 5 := by
  obtain ⟨n, rfl⟩ : ∃ n : Nat, x = (n : Int) := ⟨x.toNat, by omega⟩
  have hn : n < 12 := by omega
  have go : ∀ n : Nat, n < 12 → wz (.int (n : Int)) ≤ 5 := by decide +kernel
  exact go n hn
/-- data that repr may be asked of -/
def Shn (R : Nat) (k : Nat) (d : PyData) : Prop := okD d = true ∧ d.depth ≤ k ∧ wz d ≤ R
theorem shn_seq {kd : Bool} {ds : List PyData} {R k L : Nat} (h : ∀ d ∈ ds, Shn R k d) (hl : ds.length ≤ L) : Shn ((R + 2) * L + 3) (k + 1) (seqD kd ds) := by
  have h1 : okAll ds = true := okAll_iff.mpr fun d hd => (h d hd).1
  have h2 : PyData.depthAll ds ≤ k := depthAll_iff.mpr fun d hd => (h d hd).2.1
  have h3 := wzAll_le fun d hd => (h d hd).2.2
  have h4 : (R + 2) * ds.length ≤ (R + 2) * L := Nat.mul_le_mul (Nat.le_refl _) hl
  have h5 : wzAll ds + 3 ≤ (R + 2) * L + 3 := by omega
  cases kd
  · exact ⟨h1, Nat.succ_le_succ h2, h5⟩
  · exact ⟨h1, Nat.succ_le_succ h2, h5⟩
theorem shn_row {kd : Bool} {r : List Int} {L : Nat} (h : Few r) (hl : r.length ≤ L) : Shn (7 * L + 3) 1 (rowD kd r) := shn_seq (R := 5) (k := 0) (fun d hd => by
  obtain ⟨x, hx, rfl⟩ := List.mem_map.mp hd
  exact ⟨ok_small (h x hx), Nat.le_refl _, wz_small (h x hx)⟩) (by rw [List.length_map]; exact hl)
theorem few_bits {r : List Int} (h : ∀ x ∈ r, x = 0 ∨ x = 1) : Few r := fun x hx => by rcases h x hx with rfl | rfl <;> omega
theorem shn_tab {k1 k2 : Bool} (h : Bits M) (hs : Small M) : Shn 1100 2 (tabD k1 k2 M) := by
  have := shn_seq (kd := k1) (ds := M.map (rowD k2)) (R := 87) (k := 1) (L := 12) (fun d hd => by
    obtain ⟨r, hr, rfl⟩ := List.mem_map.mp hd
    exact shn_row (L := 12) (few_bits (h r hr)) (hs.2 r hr)) (by rw [List.length_map]; exact hs.1)
  exact ⟨this.1, this.2.1, Nat.le_trans this.2.2 (by decide)⟩
end
section
variable {bs : List Addr} {K : PySem.W.Frag} {σ : L2.St} {H : Hp} {ta tb tc : TE} {M : Mat}
theorem eq_lask (l : Live bs H) (h : EvQ bs ta σ H (tabD true true M)) (hs : Small M) (hb : Bits M) : EvQ bs (tCall spLAsk [] E0 (tCons ta tNil)) σ H (.list (askL M)) := fun H1 e Q q =>
  h H1 e _ fun v H2 e2 hv => ⟨bs, v, M, rfl, l.mono (e.trans e2), hv, hs, hb, fun u H3 e3 hu => q u H3 (e2.trans e3) hu⟩
theorem eq_asks {k1 k2 : Bool} (l : Live bs H) (h : EvQ bs ta σ H (tabD k1 k2 M)) (hs : Small M) : EvQ bs (tCall spAsk [] E0 (tCons ta tNil)) σ H (.list (askL M)) := fun H1 e Q q =>
  h H1 e _ fun v H2 e2 hv => ⟨bs, v, k1, k2, M, rfl, l.mono (e.trans e2), hv, hs, fun p xs H3 np e3 hp hx => q _ H3 (e2.trans e3) (.lst (by rw [hid_out ((l.mono (e.trans e2)).out np)]; exact hp) (hx.mono (hid_less fun y hy => List.mem_cons_of_mem _ hy)))⟩
theorem eq_turn {k1 k2 : Bool} {m : Nat} (l : Live bs H) (h : EvQ bs ta σ H (tabD k1 k2 M)) (hne : M ≠ []) (h1 : M.length ≤ 12) (h2 : m ≤ 12) (h3 : ∀ r ∈ M, r.length = m) : EvQ bs (tCall spTurn [] E0 (tCons ta tNil)) σ H (tabD true true (turnM m M)) := fun H1 e Q q =>
  h H1 e _ fun v H2 e2 hv => ⟨bs, v, k1, k2, m, M, rfl, hv, hne, h1, h2, h3, fun p as H3 e3 T => q _ H3 (e2.trans e3) (T.dq (l.mono (e.trans e2)))⟩
theorem eq_left {k1 k2 k3 k4 : Bool} {I O : List Int} (l : Live bs H) (h : EvQ bs ta σ H (tabD k1 k2 M)) (hi : EvQ bs tb σ H (rowD k3 I)) (ho : EvQ bs tc σ H (rowD k4 O)) (hs : Small M) : EvQ bs (tCall spLeft [] E0 (tCons ta (tCons tb (tCons tc tNil)))) σ H (tabD true true (leftM I O M)) := fun H1 e Q q =>
  h H1 e _ fun v H2 e2 hv => hi H2 (e.trans e2) _ fun vi H3 e3 hi' => ho H3 ((e.trans e2).trans e3) _ fun vo H4 e4 ho' => ⟨bs, v, vi, vo, k1, k2, k3, k4, M, I, O, rfl, l.mono (((e.trans e2).trans e3).trans e4), hv.mono (same_hid (e3.trans e4)), hi'.mono (same_hid e4), ho', hs,
    fun p as H5 e5 T => q _ H5 (((e2.trans e3).trans e4).trans e5) (T.dq (l.mono (((e.trans e2).trans e3).trans e4)))⟩
end
theorem int_at {r : List Int} {j : Nat} (h : j < r.length) : (r.map PyData.int)[j]? = some (.int (r.getD j 0)) := by
  rw [List.getElem?_map, List.getD_eq_getElem?_getD, List.getElem?_eq_getElem h]
  rfl
def dueD (c : Bool) : PyData → PyData
  | .int x => .int (if c = true then 0 else x)
  | d => d
theorem due_row (I O : List Int) (k : Nat) (r : List Int) : ((r.map PyData.int).mapIdx fun j d => dueD (outB I O k j) d) = (leftR I O k r).map PyData.int := by
  apply List.ext_getElem
  · simp [leftR]
  · intro j h1 h2
    simp [leftR, dueD]
theorem not_and (a c : Bool) (x : Int) : x * (if (!a && !c) = true then 1 else 0) = if (a || c) = true then 0 else x := by
  cases a <;> cases c <;> simp
theorem eq_turn2 {bs : List Addr} {σ : L2.St} {H : Hp} {ta : TE} {k1 k2 : Bool} {n m : Nat} {M : Mat} (t : Tab n m M) (n1 : 1 ≤ n) (n2 : n ≤ 12) (m1 : 1 ≤ m) (m2 : m ≤ 12) (l : Live bs H) (h : EvQ bs ta σ H (tabD k1 k2 (turnM m M))) : EvQ bs (tCall spTurn [] E0 (tCons ta tNil)) σ H (tabD true true M) := by
  have h1 := eq_turn (m := n) l h (fun z => by
    have h2 := congrArg List.length z
    rw [turn_len] at h2
    simp at h2
    omega) (by rw [turn_len]; exact m2) n2 t.turn_row
  rw [t.twice] at h1
  exact h1
theorem eq_left0 {bs : List Addr} {σ : L2.St} {H : Hp} {ta : TE} {k1 k2 : Bool} {M : Mat} (l : Live bs H) (h : EvQ bs ta σ H (tabD k1 k2 M)) (hs : Small M) : EvQ bs (tCall spLeft [] E0 (tCons ta (tCons (tLst tNil) (tCons (tTup tNil) tNil)))) σ H (tabD true true M) := by
  have h1 := eq_left (k3 := true) (k4 := false) (I := []) (O := []) l h (eq_lst l qa_nil (Nat.zero_le _)) (eq_tup l qa_nil (Nat.zero_le _)) hs
  rw [left_nil] at h1
  exact h1
theorem last_at {α : Type} {xs : List α} {x : α} (h : xs[xs.length - 1]? = some x) : atI xs (-1) = some x := by
  have hp : 0 < xs.length := by
    have := (List.getElem?_eq_some_iff.mp h).1
    omega
  have e : ixN xs.length (-1) = some (xs.length - 1) := by
    unfold ixN
    rw [if_neg (by decide), if_pos (by omega)]
    congr 1
    omega
  unfold atI
  rw [e]
  exact h
/-- one number of one row set -/
theorem new_put {H H1 H2 : Hp} {p : Addr} {as : List Addr} {M : Mat} (t : NewTab H H1 p as M) (s : Same H1 H2) {k : Nat} {a : Addr} {r : List Int} (ha : as[k]? = some a) (hr : M[k]? = some r) (x : Int) : NewTab H (upd H2 a (.lst ((r.map V.int).set 0 (.int x)))) p as (M.set k (r.set 0 x)) := by
  have hk := (List.getElem?_eq_some_iff.mp hr).1
  obtain ⟨q1, q2, q3⟩ := t.row k a r ha hr
  refine ⟨t.np, by rw [upd_ne q1.symm]; exact s _ _ t.hp, by rw [List.length_set]; exact t.len, t.nd, fun j c u hc hu => ?_⟩
  by_cases hj : k = j
  · subst hj
    have e : c = a := Option.some.inj (hc.symm.trans ha)
    subst e
    rw [List.getElem?_set_self hk] at hu
    have e2 : r.set 0 x = u := Option.some.inj hu
    rw [← e2, List.map_set]
    exact ⟨q1, q2, upd_same⟩
  · rw [List.getElem?_set_ne hj] at hu
    obtain ⟨z1, z2, z3⟩ := t.row j c u hc hu
    have hne : c ≠ a := fun z => by
      have h1 := (List.getElem?_eq_some_iff.mp ha)
      have h2 := (List.getElem?_eq_some_iff.mp hc)
      obtain ⟨h1, h1'⟩ := h1
      obtain ⟨h2, h2'⟩ := h2
      have pw := List.pairwise_iff_getElem.mp t.nd
      rcases Nat.lt_or_gt_of_ne hj with h | h
      · exact pw k j h1 h2 h (by rw [h1', h2', z])
      · exact pw j k h2 h1 h (by rw [h1', h2', z])
    exact ⟨z1, z2, by rw [upd_ne hne]; exact s _ _ z3⟩
theorem Tab.put {n m : Nat} {M : Mat} (t : Tab n m M) {k : Nat} {r : List Int} (hr : M[k]? = some r) {x : Int} (hx : x = 0 ∨ x = 1) : Tab n m (M.set k (r.set 0 x)) := by
  have hm := List.mem_of_getElem? hr
  refine ⟨by rw [List.length_set]; exact t.len, fun u hu => ?_, fun u hu => ?_⟩
  · rcases List.mem_or_eq_of_mem_set hu with hu | rfl
    · exact t.row u hu
    · rw [List.length_set]; exact t.row r hm
  · rcases List.mem_or_eq_of_mem_set hu with hu | rfl
    · exact t.bit u hu
    · intro y hy
      rcases List.mem_or_eq_of_mem_set hy with hy | rfl
      · exact t.bit r hm y hy
      · exact hx
/-- x = [list(row) for row in table] -/
theorem q_copy {bs : List Addr} {K : PySem.W.Frag} {σ : L2.St} {H : Hp} {tl : TE} {i j : Nat} {vs : List Nat} {T : Addr} {M : Mat} {tz : TS} {D : Ends} (h : Ev tl σ H (.ref T)) (hd : Dq (hid bs H) (.ref T) (tabD true true M)) (hM : Small M) (hw : ∀ x, wipe ((wipe σ vs).set j (some x)) vs = wipe σ vs)
    (hj : ∀ x, ((wipe σ vs).set j (some x))[j]? = some (some x)) (k : ∀ p as H', Same H H' → NewTab H H' p as M → tz D (σ.set i (some (.ref p))) H') : tSeq (tAsg (tLc (iList K tl) (gName j) tYes (tCB (rListS K) (tCons (tVar j) tNil)) vs) (gName i)) tz D σ H := by
  have go : ∀ Q : VK, (∀ p as H', Same H H' → NewTab H H' p as M → Q (.ref p) H') → tLc (iList K tl) (gName j) tYes (tCB (rListS K) (tCons (tVar j) tNil)) vs σ H Q := fun Q kq => by
    refine h H (Ex.refl _) _ fun H1 e1 => ?_
    obtain ⟨aT, xT, eT, hsT, hxT⟩ := Dq.seq_inv (show Dq (hid bs H1) (.ref T) (seqD true (M.map (rowD true))) from hd.mono (same_hid e1))
    have eT' : T = aT := V.ref.inj eT
    subst eT'
    have lenT : xT.length = M.length := by rw [hxT.len, List.length_map]
    refine ⟨T, rfl, ⟨xT, hsT hid_same⟩, fun pv npv => ?_⟩
    refine lc_rows (J := Itl K T) (n := M.length) (fun i => M.getD i []) npv (by have := hM.1; omega) (fun i H2 hi s1 => ⟨xT, xT[i]'(by omega), hsT (hid_same.trans s1), List.getElem?_eq_getElem _⟩) (fun H2 s1 => ⟨xT, hsT (hid_same.trans s1), by omega⟩) (fun i x H2 H3 Qk hi s1 hy k => ?_) fun asv H3 e3 TV => ?_
    · obtain ⟨rfl, hx⟩ := hy
      obtain ⟨d, gd, dd⟩ := hxT.get (hx xT (hsT (hid_same.trans s1)))
      rw [List.getElem?_map, Option.map_eq_some_iff] at gd
      obtain ⟨r, gr, rfl⟩ := gd
      have er : M.getD i [] = r := by rw [List.getD_eq_getElem?_getD, gr]; rfl
      obtain ⟨a, ys, rfl, hs2, hy2⟩ := Dq.seq_inv (show Dq (hid bs H1) x (seqD true (r.map PyData.int)) from dd)
      have ey := ints_inv hy2
      subst ey
      have hs3 : SqL K H3 a (r.map V.int) := hs2 (hid_same.trans s1)
      refine ⟨hw _, .ref a, hj _, a, _, rfl, .inl hs3, fun z nz => k z _ nz (Ex.new nz) ?_⟩
      rw [upd_same, er]
    · have eM : (List.range M.length).map (fun i => M.getD i []) = M := by
        have h1 := map_range (fun r : List Int => r) M
        rw [List.map_id'] at h1
        exact h1.symm
      rw [eM] at TV
      exact kq pv asv H3 (e1.trans e3) (TV.old e1 (Same.refl _))
  exact go (fun v H1 => tz D (σ.set i (some v)) H1) k
section
variable {P : Program} {w : World} {K : PySem.W.Frag} {mg : Str → Option Value} {base : Heap} {f f1 f2 f3 f4 f5 f6 f7 f8 f9 : Addr} {fd fd1 fd2 fd3 fd4 fd5 fd6 fd7 fd8 fd9 : FuncData}
end
end Cg

set_option Elab.async false
set_option linter.all false
set_option maxRecDepth 100000
set_option maxHeartbeats 1000000
namespace Cg
open PySem PySem.Spec PyProof.Rows L2 Evl
/-! ### what a name holds, by value: shared data, or what is its own -/
inductive T where
  | sh (d : PyData) : T
  | lst (ts : List T) : T
  | tup (ts : List T) : T
  /-- a dict of its own, of ints to ints -/
  | dic (kvs : List (Int × Int)) : T
mutual
def T.data : T → PyData
  | .sh d => d
  | .lst ts => .list (T.datas ts)
  | .tup ts => .tuple (T.datas ts)
  | .dic kvs => .dict (kvs.map kdI)
def T.datas : List T → List PyData
  | [] => []
  | t :: ts => t.data :: T.datas ts
end
theorem datas_map : ∀ ts : List T, T.datas ts = ts.map T.data
  | [] => rfl
  | t :: ts => by
    show t.data :: T.datas ts = t.data :: ts.map T.data
    rw [datas_map ts]
theorem datas_append (a b : List T) : T.datas (a ++ b) = T.datas a ++ T.datas b := by rw [datas_map, datas_map, datas_map, List.map_append]
theorem datas_sh (ds : List PyData) : T.datas (ds.map T.sh) = ds := by
  rw [datas_map, List.map_map]
  exact List.map_id _
mutual
/-- no list in it -/
def imm : PyData → Bool
  | .list _ => false
  | .dict _ => false
  | .tuple xs => immAll xs
  | _ => true
def immAll : List PyData → Bool
  | [] => true
  | x :: xs => imm x && immAll xs
end
mutual
/-- what is shared in it has no list -/
def T.clean : T → Bool
  | .sh d => imm d
  | .lst ts => T.cleans ts
  | .tup ts => T.cleans ts
  | .dic _ => true
def T.cleans : List T → Bool
  | [] => true
  | t :: ts => t.clean && T.cleans ts
end
/-- a slot -/
inductive Sl where
  | no : Sl
  | box : Sl
  | is (t : T) : Sl
  /-- a dict of its own, of ints to what never changes -/
  | dic (kvs : List (Key × V)) : Sl
  /-- a dict that is walked -/
  | dcF (kvs : List (Int × Int)) : Sl
abbrev Env := List Sl
/-- nothing that is hidden is a tuple -/
def NoTup (bs : List Addr) (H : Hp) : Prop := ∀ a ∈ bs, ∀ xs, H a ≠ some (.tup xs)
section
variable {b bs cs hs : List Addr} {H H' : Hp} {v : V} {t : T} {d : PyData}
mutual
theorem dq_imm (hn : NoTup bs H) : ∀ {v : V} {d : PyData}, Dq H v d → imm d = true → Dq (hid bs H) v d
  | _, _, .non, _ => .non
  | _, _, .bl b, _ => .bl b
  | _, _, .int i, _ => .int i
  | _, _, .str x, _ => .str x
  | _, _, .lst _ _, h => by cases h
  | _, _, .dic _, h => by cases h
  | _, _, .tup e h, hi => .tup (by rw [hid_out (fun z => hn _ z _ e)]; exact e) (dqAll_imm hn h hi)
theorem dqAll_imm (hn : NoTup bs H) : ∀ {vs : List V} {ds : List PyData}, DqAll H vs ds → immAll ds = true → DqAll (hid bs H) vs ds
  | _, _, .nil, _ => .nil
  | _, _, .cons h t, hi => by
    have hi' := Bool.and_eq_true _ _ ▸ hi
    exact .cons (dq_imm hn h hi'.1) (dqAll_imm hn t hi'.2)
end
mutual
inductive Rep (bs : List Addr) (H : Hp) : V → T → List Addr → Prop
  | sh {v : V} {d : PyData} (h : Dq (hid bs H) v d) : Rep bs H v (.sh d) []
  | lst {a : Addr} {vs : List V} {ts : List T} {A : List Addr} (e : H a = some (.lst vs)) (h : RepL bs H vs ts A) : Rep bs H (.ref a) (.lst ts) (a :: A)
  | tup {a : Addr} {vs : List V} {ts : List T} {A : List Addr} (e : H a = some (.tup vs)) (h : RepL bs H vs ts A) : Rep bs H (.ref a) (.tup ts) A
  | dic {a : Addr} {kvs : List (Int × Int)} (e : H a = some (.dK (kvs.map kvI))) : Rep bs H (.ref a) (.dic kvs) [a]
inductive RepL (bs : List Addr) (H : Hp) : List V → List T → List Addr → Prop
  | nil : RepL bs H [] [] []
  | cons {v : V} {vs : List V} {t : T} {ts : List T} {A B : List Addr} (h : Rep bs H v t A) (k : RepL bs H vs ts B) : RepL bs H (v :: vs) (t :: ts) (A ++ B)
end
mutual
theorem Rep.chg (hn : NoTup bs H) (k : Same (hid bs H) (hid cs H')) : ∀ {v : V} {t : T} {A : List Addr}, (∀ a ∈ A, ∀ o, H a = some o → H' a = some o) → Rep bs H v t A → Rep cs H' v t A
  | _, _, _, _, .sh h => .sh (h.mono k)
  | _, _, _, hA, .lst e h => .lst (hA _ (List.mem_cons_self ..) _ e) (RepL.chg hn k (fun a ha => hA a (List.mem_cons_of_mem _ ha)) h)
  | _, _, _, hA, .tup e h => .tup ((hid_some (k _ _ (by rw [hid_out (fun z => hn _ z _ e)]; exact e))).2) (RepL.chg hn k hA h)
  | _, _, _, hA, .dic e => .dic (hA _ (List.mem_singleton.mpr rfl) _ e)
theorem RepL.chg (hn : NoTup bs H) (k : Same (hid bs H) (hid cs H')) : ∀ {vs : List V} {ts : List T} {A : List Addr}, (∀ a ∈ A, ∀ o, H a = some o → H' a = some o) → RepL bs H vs ts A → RepL cs H' vs ts A
  | _, _, _, _, .nil => .nil
  | _, _, _, hA, .cons h t => .cons (Rep.chg hn k (fun a ha => hA a (List.mem_append_left _ ha)) h) (RepL.chg hn k (fun a ha => hA a (List.mem_append_right _ ha)) t)
end
mutual
theorem Rep.data (hn : NoTup hs H) (hh : ∀ a ∈ hs, a ∈ bs) : ∀ {v : V} {t : T} {A : List Addr}, (∀ a ∈ A, a ∉ hs) → Rep bs H v t A → Dq (hid hs H) v t.data
  | _, _, _, _, .sh h => h.mono (hid_less hh)
  | _, _, _, hA, .lst e h => .lst (by rw [hid_out (hA _ (List.mem_cons_self ..))]; exact e) (RepL.datas hn hh (fun a ha => hA a (List.mem_cons_of_mem _ ha)) h)
  | _, _, _, hA, .tup e h => .tup (by rw [hid_out (fun z => hn _ z _ e)]; exact e) (RepL.datas hn hh hA h)
  | _, _, _, hA, .dic e => .dic (by rw [hid_out (hA _ (List.mem_singleton.mpr rfl))]; exact e)
theorem RepL.datas (hn : NoTup hs H) (hh : ∀ a ∈ hs, a ∈ bs) : ∀ {vs : List V} {ts : List T} {A : List Addr}, (∀ a ∈ A, a ∉ hs) → RepL bs H vs ts A → DqAll (hid hs H) vs (T.datas ts)
  | _, _, _, _, .nil => .nil
  | _, _, _, hA, .cons h t => .cons (Rep.data hn hh (fun a ha => hA a (List.mem_append_left _ ha)) h) (RepL.datas hn hh (fun a ha => hA a (List.mem_append_right _ ha)) t)
end
/-- something stands there, no tuple -/
def Own (H : Hp) (a : Addr) : Prop := ∃ o, H a = some o ∧ ∀ xs, o ≠ .tup xs
theorem own_lst {a : Addr} {xs : List V} (e : H a = some (.lst xs)) : Own H a := ⟨_, e, fun _ z => nomatch z⟩
theorem own_dic {a : Addr} {kvs : List (Key × V)} (e : H a = some (.dK kvs)) : Own H a := ⟨_, e, fun _ z => nomatch z⟩
mutual
theorem Rep.own : ∀ {v : V} {t : T} {A : List Addr}, Rep bs H v t A → ∀ a ∈ A, Own H a
  | _, _, _, .sh h => fun _ z => nomatch z
  | _, _, _, .lst e h => fun a ha => by
    rcases List.mem_cons.mp ha with rfl | ha
    · exact own_lst e
    · exact RepL.own h a ha
  | _, _, _, .tup e h => fun a ha => RepL.own h a ha
  | _, _, _, .dic e => fun a ha => by rw [List.mem_singleton.mp ha]; exact own_dic e
theorem RepL.own : ∀ {vs : List V} {ts : List T} {A : List Addr}, RepL bs H vs ts A → ∀ a ∈ A, Own H a
  | _, _, _, .nil => fun _ z => nomatch z
  | _, _, _, .cons h t => fun a ha => by
    rcases List.mem_append.mp ha with ha | ha
    · exact Rep.own h a ha
    · exact RepL.own t a ha
end
mutual
theorem Rep.clean (hn : NoTup cs H) : ∀ {v : V} {t : T} {A : List Addr}, Rep bs H v t A → t.clean = true → Rep cs H v t A
  | _, _, _, .sh h, hc => .sh (dq_imm hn (dq_vis h) hc)
  | _, _, _, .lst e h, hc => .lst e (RepL.clean hn h hc)
  | _, _, _, .tup e h, hc => .tup e (RepL.clean hn h hc)
  | _, _, _, .dic e, _ => .dic e
theorem RepL.clean (hn : NoTup cs H) : ∀ {vs : List V} {ts : List T} {A : List Addr}, RepL bs H vs ts A → T.cleans ts = true → RepL cs H vs ts A
  | _, _, _, .nil, _ => .nil
  | _, _, _, .cons h t, hc => by
    have hc' := Bool.and_eq_true _ _ ▸ hc
    exact .cons (Rep.clean hn h hc'.1) (RepL.clean hn t hc'.2)
end
theorem RepL.len : ∀ {vs : List V} {ts : List T} {A : List Addr}, RepL bs H vs ts A → vs.length = ts.length
  | _, _, _, .nil => rfl
  | _, _, _, .cons _ t => by rw [List.length_cons, List.length_cons, t.len]
theorem RepL.append : ∀ {vs us : List V} {ts ss : List T} {A B : List Addr}, RepL bs H vs ts A → RepL bs H us ss B → RepL bs H (vs ++ us) (ts ++ ss) (A ++ B)
  | _, _, _, _, _, _, .nil, q => q
  | _, _, _, _, _, _, .cons h t, q => by
    rw [List.append_assoc]
    exact .cons h (t.append q)
theorem RepL.one {A : List Addr} (h : Rep bs H v t A) : RepL bs H [v] [t] A := by
  have := RepL.cons h RepL.nil
  rw [List.append_nil] at this
  exact this
theorem RepL.shs : ∀ {vs : List V} {ds : List PyData}, DqAll (hid bs H) vs ds → RepL bs H vs (ds.map T.sh) []
  | _, _, .nil => .nil
  | _, _, .cons h t => .cons (A := []) (B := []) (.sh h) (RepL.shs t)
/-! slots -/
inductive RelE (b bs : List Addr) (H : Hp) : L2.St → Env → List Addr → Prop
  | nil : RelE b bs H [] [] []
  | no {x : Option V} {σ : L2.St} {ε : Env} {F : List Addr} (h : RelE b bs H σ ε F) : RelE b bs H (x :: σ) (.no :: ε) F
  | box {a : Addr} {σ : L2.St} {ε : Env} {F : List Addr} (e : b = [a]) (h : RelE b bs H σ ε F) : RelE b bs H (some (.ref a) :: σ) (.box :: ε) F
  | is {v : V} {t : T} {A : List Addr} {σ : L2.St} {ε : Env} {F : List Addr} (r : Rep bs H v t A) (h : RelE b bs H σ ε F) : RelE b bs H (some v :: σ) (.is t :: ε) (A ++ F)
  | dic {a : Addr} {kvs : List (Key × V)} {σ : L2.St} {ε : Env} {F : List Addr} (e : H a = some (.dK kvs)) (h : RelE b bs H σ ε F) : RelE b bs H (some (.ref a) :: σ) (.dic kvs :: ε) ([a] ++ F)
  | dcF {a : Addr} {o : Obj} {kvs : List (Int × Int)} {σ : L2.St} {ε : Env} {F : List Addr} (e : hid bs H a = some (.frz o (.dK (kvs.map kvI)))) (h : RelE b bs H σ ε F) : RelE b bs H (some (.ref a) :: σ) (.dcF kvs :: ε) F
theorem RelE.chg (hn : NoTup bs H) (k : Same (hid bs H) (hid cs H')) : ∀ {σ : L2.St} {ε : Env} {F : List Addr}, (∀ a ∈ F, ∀ o, H a = some o → H' a = some o) → RelE b bs H σ ε F → RelE b cs H' σ ε F
  | _, _, _, _, .nil => .nil
  | _, _, _, hF, .no h => .no (RelE.chg hn k hF h)
  | _, _, _, hF, .box e h => .box e (RelE.chg hn k hF h)
  | _, _, _, hF, .is r h => .is (Rep.chg hn k (fun a ha => hF a (List.mem_append_left _ ha)) r) (RelE.chg hn k (fun a ha => hF a (List.mem_append_right _ ha)) h)
  | _, _, _, hF, .dic e h => .dic (hF _ (List.mem_append_left _ (List.mem_singleton.mpr rfl)) _ e) (RelE.chg hn k (fun a ha => hF a (List.mem_append_right _ ha)) h)
  | _, _, _, hF, .dcF e h => .dcF (k _ _ e) (RelE.chg hn k hF h)
theorem RelE.own : ∀ {σ : L2.St} {ε : Env} {F : List Addr}, RelE b bs H σ ε F → ∀ a ∈ F, Own H a
  | _, _, _, .nil => fun _ z => nomatch z
  | _, _, _, .no h => h.own
  | _, _, _, .box e h => h.own
  | _, _, _, .is r h => fun a ha => by
    rcases List.mem_append.mp ha with ha | ha
    · exact r.own a ha
    · exact h.own a ha
  | _, _, _, .dic e h => fun a ha => by
    rcases List.mem_append.mp ha with ha | ha
    · rw [List.mem_singleton.mp ha]; exact own_dic e
    · exact h.own a ha
  | _, _, _, .dcF _ h => h.own
/-- what stands in a slot -/
inductive RepS (b bs : List Addr) (H : Hp) : Option V → Sl → List Addr → Prop
  | no {x : Option V} : RepS b bs H x .no []
  | box {a : Addr} (e : b = [a]) : RepS b bs H (some (.ref a)) .box []
  | is {v : V} {t : T} {A : List Addr} (r : Rep bs H v t A) : RepS b bs H (some v) (.is t) A
  | dic {a : Addr} {kvs : List (Key × V)} (e : H a = some (.dK kvs)) : RepS b bs H (some (.ref a)) (.dic kvs) [a]
  | dcF {a : Addr} {o : Obj} {kvs : List (Int × Int)} (e : hid bs H a = some (.frz o (.dK (kvs.map kvI)))) : RepS b bs H (some (.ref a)) (.dcF kvs) []
theorem RelE.cons {x : Option V} {l : Sl} {A F : List Addr} {σ : L2.St} {ε : Env} (r : RepS b bs H x l A) (h : RelE b bs H σ ε F) : RelE b bs H (x :: σ) (l :: ε) (A ++ F) := by
  cases r with
  | no => exact .no h
  | box e => exact .box e h
  | is r => exact .is r h
  | dic e => exact .dic e h
  | dcF e => exact .dcF e h
/-- one slot taken out, another put in -/
theorem RelE.at : ∀ {σ : L2.St} {ε : Env} {F : List Addr}, RelE b bs H σ ε F → ∀ {i : Nat} {l : Sl}, ε[i]? = some l → ∃ x A F1 F2, σ[i]? = some x ∧ RepS b bs H x l A ∧ F = F1 ++ (A ++ F2) ∧
    ∀ {cs : List Addr} {H' : Hp} {y : Option V} {m : Sl} {B : List Addr}, NoTup bs H → Same (hid bs H) (hid cs H') → (∀ a ∈ F1 ++ F2, ∀ o, H a = some o → H' a = some o) → RepS b cs H' y m B → RelE b cs H' (σ.set i y) (ε.set i m) (F1 ++ (B ++ F2))
  | _, _, _, .nil, i, l, e => by simp at e
  | x :: σ, l' :: ε, F, h, 0, l, e => by
    have e' : l' = l := Option.some.inj e
    subst e'
    have go : ∀ {A F' : List Addr}, RepS b bs H x l' A → RelE b bs H σ ε F' → F = A ++ F' → ∃ x' A F1 F2, (x :: σ)[0]? = some x' ∧ RepS b bs H x' l' A ∧ F = F1 ++ (A ++ F2) ∧
        ∀ {cs : List Addr} {H' : Hp} {y : Option V} {m : Sl} {B : List Addr}, NoTup bs H → Same (hid bs H) (hid cs H') → (∀ a ∈ F1 ++ F2, ∀ o, H a = some o → H' a = some o) → RepS b cs H' y m B → RelE b cs H' ((x :: σ).set 0 y) ((l' :: ε).set 0 m) (F1 ++ (B ++ F2)) := fun {A F'} r h' eF =>
      ⟨x, A, [], F', rfl, r, eF, fun {cs H' y m B} hn k hF rB => by
        show RelE b cs H' (y :: σ) (m :: ε) (B ++ F')
        exact RelE.cons rB (RelE.chg hn k hF h')⟩
    cases h with
    | no h => exact go .no h rfl
    | box e2 h => exact go (.box e2) h rfl
    | is r h => exact go (.is r) h rfl
    | dic e2 h => exact go (.dic e2) h rfl
    | dcF e2 h => exact go (.dcF e2) h rfl
  | x :: σ, l' :: ε, F, h, i + 1, l, e => by
    have go : ∀ {A F' : List Addr}, RepS b bs H x l' A → RelE b bs H σ ε F' → F = A ++ F' → ∃ x' A F1 F2, (x :: σ)[i + 1]? = some x' ∧ RepS b bs H x' l A ∧ F = F1 ++ (A ++ F2) ∧
        ∀ {cs : List Addr} {H' : Hp} {y : Option V} {m : Sl} {B : List Addr}, NoTup bs H → Same (hid bs H) (hid cs H') → (∀ a ∈ F1 ++ F2, ∀ o, H a = some o → H' a = some o) → RepS b cs H' y m B → RelE b cs H' ((x :: σ).set (i + 1) y) ((l' :: ε).set (i + 1) m) (F1 ++ (B ++ F2)) := fun {A F'} r h' eF => by
      obtain ⟨x', A2, F1, F2, q1, q2, q3, q4⟩ := h'.at (i := i) (l := l) e
      refine ⟨x', A2, A ++ F1, F2, q1, q2, by rw [eF, q3, List.append_assoc], fun {cs H' y m B} hn k hF rB => ?_⟩
      rw [List.append_assoc]
      refine RelE.cons ?_ (q4 hn k (fun a ha => hF a (by rw [List.append_assoc]; exact List.mem_append_right _ ha)) rB)
      cases r with
      | no => exact .no
      | box e2 => exact .box e2
      | is r => exact .is (Rep.chg hn k (fun a ha => hF a (by rw [List.append_assoc]; exact List.mem_append_left _ ha)) r)
      | dic e2 => exact .dic (hF _ (by rw [List.append_assoc]; exact List.mem_append_left _ (List.mem_singleton.mpr rfl)) _ e2)
      | dcF e2 => exact .dcF (k _ _ e2)
    cases h with
    | no h => exact go .no h rfl
    | box e2 h => exact go (.box e2) h rfl
    | is r h => exact go (.is r) h rfl
    | dic e2 h => exact go (.dic e2) h rfl
    | dcF e2 h => exact go (.dcF e2) h rfl
theorem RelE.len : ∀ {σ : L2.St} {ε : Env} {F : List Addr}, RelE b bs H σ ε F → σ.length = ε.length
  | _, _, _, .nil => rfl
  | _, _, _, .no h => by rw [List.length_cons, List.length_cons, h.len]
  | _, _, _, .box _ h => by rw [List.length_cons, List.length_cons, h.len]
  | _, _, _, .is _ h => by rw [List.length_cons, List.length_cons, h.len]
  | _, _, _, .dic _ h => by rw [List.length_cons, List.length_cons, h.len]
  | _, _, _, .dcF _ h => by rw [List.length_cons, List.length_cons, h.len]
theorem set_beyond {α : Type} : ∀ {xs : List α} {i : Nat} {x : α}, xs[i]? = none → xs.set i x = xs
  | [], _, _, _ => rfl
  | _ :: _, 0, _, h => by cases h
  | y :: ys, i + 1, x, h => by
    show y :: ys.set i x = y :: ys
    rw [set_beyond (xs := ys) h]
end
end Cg

set_option Elab.async false
set_option linter.all false
set_option maxRecDepth 100000
set_option maxHeartbeats 1000000
namespace Cg
open PySem PySem.Spec PyProof.Rows L2 Evl
/-! ### slots by value and slots as they are: b the box, bs what is hidden, P what is pinned, F what the slots own -/
structure Base where
  b : List Addr
  bs0 : List Addr
  P : Hp
  V : Hp
structure Rel (c : Base) (bs F : List Addr) (σ : L2.St) (H : Hp) (ε : Env) (N : Nat) : Prop where
  env : RelE c.b bs H σ ε F
  nd : F.Nodup
  sub : ∀ a ∈ F, a ∈ bs
  off : ∀ a ∈ F, c.P a = none
  nb : ∀ a ∈ F, a ∉ c.bs0
  up : ∀ a ∈ c.bs0, a ∈ bs
  bb : ∀ a ∈ c.b, a ∈ c.bs0
  offb : ∀ a ∈ c.b, c.P a = none
  live : Live bs H
  nt : NoTup bs H
  box : ∀ a ∈ c.b, Box H a N
  pin : Same c.P H
  vis : Same c.V (hid bs H)
/-- only the box was changed -/
structure Out (c : Base) (H H' : Hp) (N : Nat) : Prop where
  keep : Keep c.b H H'
  box : ∀ a ∈ c.b, Box H' a N
section
variable {c : Base} {bs F A B hs : List Addr} {σ : L2.St} {H H' H1 H2 : Hp} {ε : Env} {N N' N1 N2 : Nat} {v : V} {t : T} {d : PyData}
theorem Out.trans (o : Out c H H1 N1) (p : Out c H1 H2 N2) : Out c H H2 N2 := ⟨o.keep.trans p.keep, p.box⟩
theorem Out.ext (o : Out c H H1 N1) (e : Same H1 H2) : Out c H H2 N1 := ⟨o.keep.ext e, fun a ha => (o.box a ha).mono e⟩
theorem Rel.self (r : Rel c bs F σ H ε N) : Out c H H N := ⟨Keep.refl _ _, r.box⟩
theorem Rel.ofSame (r : Rel c bs F σ H ε N) (e : Same H H') : Out c H H' N := r.self.ext e
theorem Rel.bin (r : Rel c bs F σ H ε N) : ∀ a ∈ c.b, a ∈ bs := fun a ha => r.up a (r.bb a ha)
theorem Rel.fb (r : Rel c bs F σ H ε N) : ∀ a ∈ F, a ∉ c.b := fun a ha z => r.nb a ha (r.bb a z)
theorem box_tup {a : Addr} {xs : List V} (h : Box H a N) : H a ≠ some (.tup xs) := fun z => by
  obtain ⟨_, _, _, e, _⟩ := h
  rw [e] at z
  cases z
/-- what is live and kept stands -/
theorem out_get {a : Addr} {o : HO} (k : Out c H H' N) (hb : a ∉ c.b) (e : H a = some o) : H' a = some o := k.keep.get hb e
theorem out_live (k : Out c H H' N) (l : Live bs H) : Live bs H' := fun a ha => by
  by_cases hb : a ∈ c.b
  · exact (k.box a hb).is
  · cases e : H a with
    | none => exact absurd e (l a ha)
    | some o => rw [out_get k hb e]; exact fun z => nomatch z
theorem out_notup (k : Out c H H' N) (l : Live bs H) (n : NoTup bs H) : NoTup bs H' := fun a ha xs z => by
  by_cases hb : a ∈ c.b
  · exact box_tup (k.box a hb) z
  · cases e : H a with
    | none => exact l a ha e
    | some o =>
      rw [out_get k hb e] at z
      exact n a ha xs (e.trans z)
theorem out_keep (k : Out c H H' N) (h : ∀ a ∈ c.b, a ∈ bs) : Keep bs H H' := k.keep.more h
theorem Rel.out (r : Rel c bs F σ H ε N) (k : Out c H H' N') : Rel c bs F σ H' ε N' where
  env := RelE.chg r.nt (out_keep k r.bin) (fun a ha o e => out_get k (r.fb a ha) e) r.env
  nd := r.nd
  sub := r.sub
  off := r.off
  nb := r.nb
  up := r.up
  bb := r.bb
  offb := r.offb
  live := out_live k r.live
  nt := out_notup k r.live r.nt
  box := k.box
  pin := fun a o e => out_get k (fun z => by rw [r.offb a z] at e; cases e) (r.pin a o e)
  vis := r.vis.trans (out_keep k r.bin)
theorem Rel.ext (r : Rel c bs F σ H ε N) (e : Same H H') : Rel c bs F σ H' ε N := r.out (r.ofSame e)
/-- something that is its own, new since H0 -/
structure Nw (bs A : List Addr) (H0 H : Hp) (v : V) (t : T) : Prop where
  rep : Rep (A ++ bs) H v t A
  nd : A.Nodup
  new : ∀ a ∈ A, H0 a = none
structure NwL (bs A : List Addr) (H0 H : Hp) (vs : List V) (ts : List T) : Prop where
  rep : RepL (A ++ bs) H vs ts A
  nd : A.Nodup
  new : ∀ a ∈ A, H0 a = none
theorem own_notup (h : ∀ a ∈ A, Own H a) (n : NoTup bs H) : NoTup (A ++ bs) H := fun a ha xs z => by
  rcases List.mem_append.mp ha with ha | ha
  · obtain ⟨o, e, no⟩ := h a ha
    rw [e] at z
    exact no xs (Option.some.inj z)
  · exact n a ha xs z
theorem own_live (h : ∀ a ∈ A, Own H a) (l : Live bs H) : Live (A ++ bs) H := fun a ha => by
  rcases List.mem_append.mp ha with ha | ha
  · obtain ⟨ys, e, _⟩ := h a ha
    rw [e]
    exact fun z => nomatch z
  · exact l a ha
theorem Nw.sh (h : Dq (hid bs H') v d) : Nw bs [] H H' v (.sh d) := ⟨.sh h, List.nodup_nil, fun _ z => nomatch z⟩
theorem Nw.data (n : Nw bs A H H' v t) (l : Live bs H) (m : NoTup bs H') : Dq (hid bs H') v t.data :=
  Rep.data m (fun a ha => List.mem_append_right _ ha) (fun a ha z => l a z (n.new a ha)) n.rep
theorem NwL.datas {vs : List V} {ts : List T} (n : NwL bs A H H' vs ts) (l : Live bs H) (m : NoTup bs H') : DqAll (hid bs H') vs (T.datas ts) :=
  RepL.datas m (fun a ha => List.mem_append_right _ ha) (fun a ha z => l a z (n.new a ha)) n.rep
/-- visible stays visible while new ones are hidden -/
theorem vis_step (k : Out c H1 H2 N) (hb : ∀ a ∈ c.b, a ∈ bs) (hB : ∀ a ∈ B, H1 a = none) : Same (hid bs H1) (hid (B ++ bs) H2) := fun a o e => by
  obtain ⟨h1, h2⟩ := hid_some e
  have h3 : a ∉ B ++ bs := fun z => by
    rcases List.mem_append.mp z with z | z
    · rw [hB a z] at h2; cases h2
    · exact h1 z
  rw [hid_out h3]
  exact out_get k (fun z => h1 (hb a z)) h2
theorem Nw.step (n : Nw bs A H H1 v t) (k : Out c H1 H2 N) (l : Live bs H) (m : NoTup bs H1) (hb : ∀ a ∈ c.b, a ∈ bs) : Nw bs A H H2 v t := by
  have nb : ∀ a ∈ A, a ∉ c.b := fun a ha z => l a (hb a z) (n.new a ha)
  exact ⟨Rep.chg (own_notup n.rep.own m) (out_keep k fun a ha => List.mem_append_right _ (hb a ha)) (fun a ha o e => out_get k (nb a ha) e) n.rep, n.nd, n.new⟩
theorem NwL.step {vs : List V} {ts : List T} (n : NwL bs A H H1 vs ts) (k : Out c H1 H2 N) (l : Live bs H) (m : NoTup bs H1) (hb : ∀ a ∈ c.b, a ∈ bs) : NwL bs A H H2 vs ts := by
  have nb : ∀ a ∈ A, a ∉ c.b := fun a ha z => l a (hb a z) (n.new a ha)
  exact ⟨RepL.chg (own_notup n.rep.own m) (out_keep k fun a ha => List.mem_append_right _ (hb a ha)) (fun a ha o e => out_get k (nb a ha) e) n.rep, n.nd, n.new⟩
theorem NwL.nil : NwL bs [] H H' [] [] := ⟨.nil, List.nodup_nil, fun _ z => nomatch z⟩
/-- new ones side by side: the first stood when the second came -/
theorem side {A B : List Addr} {H1 : Hp} (ha : ∀ a ∈ A, H1 a ≠ none) (hb : ∀ a ∈ B, H1 a = none) : ∀ a ∈ A, a ∉ B := fun a h z => ha a h (hb a z)
theorem nodup_app {A B : List Addr} (hA : A.Nodup) (hB : B.Nodup) (h : ∀ a ∈ A, a ∉ B) : (A ++ B).Nodup := List.nodup_append.mpr ⟨hA, hB, fun a ha b hb e => h a ha (e ▸ hb)⟩
theorem own_some {A : List Addr} (h : ∀ a ∈ A, Own H a) : ∀ a ∈ A, H a ≠ none := fun a ha => by
  obtain ⟨xs, e, _⟩ := h a ha
  rw [e]
  exact fun z => nomatch z
theorem hid_perm {cs : List Addr} (h : ∀ a, a ∈ cs → a ∈ bs) : Same (hid bs H) (hid cs H) := hid_less h
theorem Rep.perm {cs : List Addr} (n : NoTup bs H) (h : ∀ a, a ∈ cs → a ∈ bs) (r : Rep bs H v t A) : Rep cs H v t A := Rep.chg n (hid_perm h) (fun _ _ _ e => e) r
theorem RepL.perm {vs : List V} {ts : List T} {cs : List Addr} (n : NoTup bs H) (h : ∀ a, a ∈ cs → a ∈ bs) (r : RepL bs H vs ts A) : RepL cs H vs ts A := RepL.chg n (hid_perm h) (fun _ _ _ e => e) r
/-- the slots, with more hidden that is new -/
theorem Rel.hide (r : Rel c bs F σ H ε N) (k : Out c H H1 N1) (hA : ∀ a ∈ A, H a = none) (ho : ∀ a ∈ A, Own H1 a) : Rel c (A ++ bs) F σ H1 ε N1 where
  env := RelE.chg r.nt (vis_step k r.bin hA) (fun a ha o e => out_get k (r.fb a ha) e) r.env
  nd := r.nd
  sub := fun a ha => List.mem_append_right _ (r.sub a ha)
  off := r.off
  nb := r.nb
  up := fun a ha => List.mem_append_right _ (r.up a ha)
  bb := r.bb
  offb := r.offb
  live := own_live ho (out_live k r.live)
  nt := own_notup ho (out_notup k r.live r.nt)
  box := k.box
  pin := (r.out k).pin
  vis := r.vis.trans (vis_step k r.bin hA)
theorem NwL.snoc {vs : List V} {ts : List T} {B : List Addr} (r : Rel c bs F σ H ε N) (k1 : Out c H H1 N1) (n : NwL bs A H H1 vs ts) (k : Out c H1 H2 N2) (q : Nw (A ++ bs) B H1 H2 v t) : NwL bs (A ++ B) H H2 (vs ++ [v]) (ts ++ [t]) := by
  have r1 := r.hide k1 n.new n.rep.own
  have nb : ∀ a ∈ A, a ∉ c.b := fun a ha z => r.live a (r.bin a z) (n.new a ha)
  have hAB := side (own_some n.rep.own) q.new
  have hk : ∀ a, H1 a = none → H a = none := fun a e => by
    by_cases hb : a ∈ c.b
    · exact absurd e (k1.box a hb).is
    · cases e2 : H a with
      | none => rfl
      | some o => rw [out_get k1 hb e2] at e; cases e
  have e1 : Same (hid (A ++ bs) H1) (hid (A ++ B ++ bs) H2) := fun a o e => by
    have := vis_step (bs := A ++ bs) k (fun a ha => List.mem_append_right _ (r.bin a ha)) q.new a o e
    obtain ⟨h1, h2⟩ := hid_some this
    rw [hid_out fun z => h1 ?_]
    · exact h2
    · rcases List.mem_append.mp z with z | z
      · rcases List.mem_append.mp z with z | z
        · exact List.mem_append_right _ (List.mem_append_left _ z)
        · exact List.mem_append_left _ z
      · exact List.mem_append_right _ (List.mem_append_right _ z)
  have ra : RepL (A ++ B ++ bs) H2 vs ts A := RepL.chg r1.nt e1 (fun a ha o e => out_get k (nb a ha) e) n.rep
  have r2 := r1.hide k q.new q.rep.own
  have rb : Rep (A ++ B ++ bs) H2 v t B := Rep.perm r2.nt (fun a z => by
    rcases List.mem_append.mp z with z | z
    · rcases List.mem_append.mp z with z | z
      · exact List.mem_append_right _ (List.mem_append_left _ z)
      · exact List.mem_append_left _ z
    · exact List.mem_append_right _ (List.mem_append_right _ z)) q.rep
  exact ⟨ra.append (RepL.one rb), nodup_app n.nd q.nd hAB, fun a ha => (List.mem_append.mp ha).elim (n.new a) fun h => hk a (q.new a h)⟩
theorem nodup_mid {F1 A B F2 : List Addr} (h : (F1 ++ (A ++ F2)).Nodup) (hB : B.Nodup) (h1 : ∀ a ∈ B, a ∉ F1 ∧ a ∉ F2) : (F1 ++ (B ++ F2)).Nodup := by
  obtain ⟨n1, n2, n3⟩ := List.nodup_append.mp h
  obtain ⟨_, n5, _⟩ := List.nodup_append.mp n2
  refine nodup_app n1 (nodup_app hB n5 fun a ha => (h1 a ha).2) fun a ha z => ?_
  rcases List.mem_append.mp z with z | z
  · exact (h1 a z).1 ha
  · exact n3 a ha a (List.mem_append_right _ z) rfl
/-- a slot set -/
theorem Rel.set {i : Nat} (r : Rel c bs F σ H ε N) (k : Out c H H1 N1) (n : Nw bs A H H1 v t) : ∃ F', Rel c (A ++ bs) F' (σ.set i (some v)) H1 (ε.set i (.is t)) N1 := by
  have r1 := r.hide k n.new n.rep.own
  cases hl : ε[i]? with
  | none =>
    have hs : σ[i]? = none := by
      rw [List.getElem?_eq_none_iff] at hl ⊢
      rw [r.env.len]
      exact hl
    rw [set_beyond hl, set_beyond hs]
    exact ⟨F, r1⟩
  | some l =>
    obtain ⟨x, A0, F1, F2, q1, q2, rfl, q4⟩ := r1.env.at hl
    have hm : ∀ a ∈ F1 ++ (A ++ F2), a ∈ F1 ++ (A0 ++ F2) ∨ a ∈ A := fun a ha => by
      rcases List.mem_append.mp ha with h | h
      · exact .inl (List.mem_append_left _ h)
      · rcases List.mem_append.mp h with h | h
        · exact .inr h
        · exact .inl (List.mem_append_right _ (List.mem_append_right _ h))
    have hA : ∀ a ∈ A, a ∉ F1 ++ (A0 ++ F2) := fun a ha z => r.live a (r.sub a z) (n.new a ha)
    refine ⟨F1 ++ (A ++ F2), q4 r1.nt (Same.refl _) (fun _ _ _ e => e) (.is n.rep), nodup_mid r.nd n.nd fun a ha => ⟨fun z => hA a ha (List.mem_append_left _ z), fun z => hA a ha (List.mem_append_right _ (List.mem_append_right _ z))⟩, fun a ha => ?_, fun a ha => ?_, fun a ha => ?_, r1.up, r1.bb, r1.offb, r1.live, r1.nt, r1.box, r1.pin, r1.vis⟩
    · rcases hm a ha with h | h
      · exact r1.sub a h
      · exact List.mem_append_left _ h
    · rcases hm a ha with h | h
      · exact r1.off a h
      · cases e : c.P a with
        | none => rfl
        | some o =>
          have := r.pin a o e
          rw [n.new a h] at this
          cases this
    · rcases hm a ha with h | h
      · exact r1.nb a h
      · exact fun z => r.live a (r.up a z) (n.new a h)
/-! ### expressions -/
abbrev WE := Env → Nat → (PyData → Nat → Prop) → Prop
abbrev WB := Env → Nat → (Bool → Nat → Prop) → Prop
abbrev WA := Env → Nat → (List PyData → Nat → Prop) → Prop
abbrev WT := Env → Nat → (T → Nat → Prop) → Prop
abbrev WTs := Env → Nat → (List T → Nat → Prop) → Prop
def SimE (te : TE) (we : WE) : Prop := ∀ {c : Base} {bs F : List Addr} {σ : L2.St} {H : Hp} {ε : Env} {N : Nat} {R : PyData → Nat → Prop} {Q : VK}, Rel c bs F σ H ε N → we ε N R → (∀ v d N' H', R d N' → Out c H H' N' → Dq (hid bs H') v d → Q v H') → te σ H Q
def SimB (te : TT) (we : WB) : Prop := ∀ {c : Base} {bs F : List Addr} {σ : L2.St} {H : Hp} {ε : Env} {N : Nat} {R : Bool → Nat → Prop} {Q : Bool → Hp → Prop}, Rel c bs F σ H ε N → we ε N R → (∀ b N' H', R b N' → Out c H H' N' → Q b H') → te σ H Q
def SimA (te : TA) (we : WA) : Prop := ∀ {c : Base} {bs F : List Addr} {σ : L2.St} {H : Hp} {ε : Env} {N : Nat} {R : List PyData → Nat → Prop} {Q : List V → Hp → Prop}, Rel c bs F σ H ε N → we ε N R → (∀ vs ds N' H', R ds N' → Out c H H' N' → DqAll (hid bs H') vs ds → Q vs H') → te σ H Q
def SimT (te : TE) (we : WT) : Prop := ∀ {c : Base} {bs F : List Addr} {σ : L2.St} {H : Hp} {ε : Env} {N : Nat} {R : T → Nat → Prop} {Q : VK}, Rel c bs F σ H ε N → we ε N R → (∀ v t A N' H', R t N' → Out c H H' N' → Nw bs A H H' v t → Q v H') → te σ H Q
def SimTs (te : TA) (we : WTs) : Prop := ∀ {c : Base} {bs F : List Addr} {σ : L2.St} {H : Hp} {ε : Env} {N : Nat} {R : List T → Nat → Prop} {Q : List V → Hp → Prop}, Rel c bs F σ H ε N → we ε N R → (∀ vs ts A N' H', R ts N' → Out c H H' N' → NwL bs A H H' vs ts → Q vs H') → te σ H Q
theorem out_dq (k : Out c H H' N) (hb : ∀ a ∈ c.b, a ∈ bs) (h : Dq (hid bs H) v d) : Dq (hid bs H') v d := h.mono (out_keep k hb)
theorem out_dqs {vs : List V} {ds : List PyData} (k : Out c H H' N) (hb : ∀ a ∈ c.b, a ∈ bs) (h : DqAll (hid bs H) vs ds) : DqAll (hid bs H') vs ds := h.mono (out_keep k hb)
end
/-- data, freshly shared -/
def wSh (we : WE) : WT := fun ε N R => we ε N fun d N' => R (.sh d) N'
theorem sim_sh {te : TE} {we : WE} (h : SimE te we) : SimT te (wSh we) := fun r w q => h r w fun v d N' H' hR o hd => q v (.sh d) [] N' H' hR o (.sh hd)
def wFz (wt : WT) : WE := fun ε N R => wt ε N fun t N' => R t.data N'
theorem sim_fz {te : TE} {wt : WT} (h : SimT te wt) : SimE te (wFz wt) := fun r w q => h r w fun v t A N' H' hR o n => q v t.data N' H' hR o (n.data r.live (out_notup o r.live r.nt))
/-! ### the view: all slots as data -/
def Sl.view : Sl → Sl
  | .is t => .is (.sh t.data)
  | .dic _ => .no
  | .dcF _ => .no
  | l => l
def viewE (ε : Env) : Env := ε.map Sl.view
section
variable {c : Base} {bs F A : List Addr} {σ : L2.St} {H H' : Hp} {ε : Env} {N N' : Nat}
theorem view_env (hn : NoTup c.b H) (hc : ∀ a ∈ c.b, a ∈ bs) : ∀ {σ : L2.St} {ε : Env} {F : List Addr}, (∀ a ∈ F, a ∉ c.b) → RelE c.b bs H σ ε F → RelE c.b c.b H σ (viewE ε) []
  | _, _, _, _, .nil => .nil
  | _, _, _, hF, .no h => .no (view_env hn hc hF h)
  | _, _, _, hF, .box e h => .box e (view_env hn hc hF h)
  | _, _, _, hF, .is r h => RelE.is (A := []) (.sh (Rep.data hn hc (fun a ha => hF a (List.mem_append_left _ ha)) r)) (view_env hn hc (fun a ha => hF a (List.mem_append_right _ ha)) h)
  | _, _, _, hF, .dic e h => .no (view_env hn hc (fun a ha => hF a (List.mem_append_right _ ha)) h)
  | _, _, _, hF, .dcF e h => .no (view_env hn hc hF h)
theorem Rel.view (r : Rel c bs F σ H ε N) : Rel { c with bs0 := c.b } c.b [] σ H (viewE ε) N where
  env := view_env (fun a ha => r.nt a (r.bin a ha)) r.bin r.fb r.env
  nd := List.nodup_nil
  sub := fun _ z => nomatch z
  off := fun _ z => nomatch z
  nb := fun _ z => nomatch z
  up := fun _ h => h
  bb := fun _ h => h
  offb := r.offb
  live := fun a ha => r.live a (r.bin a ha)
  nt := fun a ha => r.nt a (r.bin a ha)
  box := r.box
  pin := r.pin
  vis := r.vis.trans (hid_less r.bin)
end
/-- data without lists, from the view -/
def wVw (we : WE) : WE := fun ε N R => we (viewE ε) N fun d N' => imm d = true ∧ R d N'
theorem sim_vw {te : TE} {we : WE} (h : SimE te we) : SimE te (wVw we) := fun r w q => h r.view w fun v d N' H' hR o hd =>
  q v d N' H' hR.2 ⟨o.keep, o.box⟩ (dq_imm (out_notup ⟨o.keep, o.box⟩ r.live r.nt) (dq_vis hd) hR.1)
/-- a truth, from the view -/
def wVb (we : WB) : WB := fun ε N R => we (viewE ε) N R
theorem sim_vb {te : TT} {we : WB} (h : SimB te we) : SimB te (wVb we) := fun r w q => h r.view w fun b N' H' hR o => q b N' H' hR ⟨o.keep, o.box⟩
/-- something new that is clean, from the view -/
def wVt (wt : WT) : WT := fun ε N R => wt (viewE ε) N fun t N' => t.clean = true ∧ R t N'
theorem sim_vt {te : TE} {wt : WT} (h : SimT te wt) : SimT te (wVt wt) := fun {c bs F σ H ε N R Q} r w q => h r.view w fun v t A N' H' hR o n => by
  have o' : Out c H H' N' := ⟨o.keep, o.box⟩
  refine q v t A N' H' hR.2 o' ⟨Rep.clean (own_notup n.rep.own (out_notup o' r.live r.nt)) n.rep hR.1, n.nd, n.new⟩
end Cg

set_option Elab.async false
set_option linter.all false
set_option maxRecDepth 100000
set_option maxHeartbeats 1000000
namespace Cg
open PySem PySem.Spec PyProof.Rows L2 Evl
/-! ### names, constants, arguments -/
def wVar (i : Nat) : WE := fun ε N R => match ε[i]? with
  | some (.is (.sh d)) => R d N
  | _ => False
def wC (d : PyData) : WE := fun _ N R => R d N
section
variable {ta tb tc te : TE} {wa wb wc we : WE} {t u : TT} {w w' : WB} {tas : TA} {was : WA}
theorem sim_var {i : Nat} : SimE (tVar i) (wVar i) := fun {c bs F σ H ε N R Q} r h q => by
  have h' : (match ε[i]? with | some (.is (.sh d)) => R d N | _ => False) := h
  split at h'
  · rename_i d e
    obtain ⟨x, A, F1, F2, hx, hr, _, _⟩ := r.env.at e
    cases hr with
    | is hr => cases hr with
      | sh hd => exact ⟨_, hx, q _ d N H h' r.self hd⟩
  · exact h'.elim
theorem sim_int {i : Int} : SimE (tC (.int i)) (wC (.int i)) := fun r h q => q _ _ _ _ h r.self (.int i)
theorem sim_bl {b : Bool} : SimE (tC (.bl b)) (wC (.bool b)) := fun r h q => q _ _ _ _ h r.self (.bl b)
theorem sim_str {x : Str} : SimE (tC (.str x)) (wC (.str x)) := fun r h q => q _ _ _ _ h r.self (.str x)
theorem sim_non : SimE (tC .non) (wC .none) := fun r h q => q _ _ _ _ h r.self .non
def wNil : WA := fun _ N R => R [] N
def wCons (we : WE) (wa : WA) : WA := fun ε N R => we ε N fun d N1 => wa ε N1 fun ds N2 => R (d :: ds) N2
theorem sim_nil : SimA tNil wNil := fun r h q => q _ _ _ _ h r.self .nil
theorem sim_cons (h : SimE te we) (k : SimA tas was) : SimA (tCons te tas) (wCons we was) := fun r w q => h r w fun v d N1 H1 w1 o1 hd => k (r.out o1) w1 fun vs ds N2 H2 w2 o2 hds => q (v :: vs) (d :: ds) N2 H2 w2 (o1.trans o2) (.cons (out_dq o2 r.bin hd) hds)
/-! ### operators -/
abbrev O2 := PyData → PyData → (PyData → Prop) → Prop
def OpD (r : R2) (o : O2) : Prop := ∀ {hs : List Addr} {H : Hp} {x y : V} {d e : PyData} {S : PyData → Prop} {Q : VK}, Live hs H → Dq (hid hs H) x d → Dq (hid hs H) y e → o d e S → (∀ z f H', S f → Same H H' → Dq (hid hs H') z f → Q z H') → r x y H Q
def wOp (o : O2) (wa wb : WE) : WE := fun ε N R => wa ε N fun d N1 => wb ε N1 fun e N2 => o d e fun f => R f N2
theorem sim_op {r : R2} {o : O2} (ho : OpD r o) (ha : SimE ta wa) (hb : SimE tb wb) : SimE (tOp r ta tb) (wOp o wa wb) := fun rl w q => ha rl w fun v d N1 H1 w1 o1 hd => hb (rl.out o1) w1 fun u e N2 H2 w2 o2 he =>
  ho (out_live (o1.trans o2) rl.live) (out_dq o2 rl.bin hd) he w2 fun z f H3 hS e3 hz => q z f N2 H3 hS ((o1.trans o2).ext e3) hz
theorem OpD.or {r r' : R2} {o o' : O2} (h : OpD r o) (h' : OpD r' o') : OpD (fun x y H Q => r x y H Q ∨ r' x y H Q) (fun d e S => o d e S ∨ o' d e S) := fun l hx hy w q => w.elim (fun w => .inl (h l hx hy w q)) fun w => .inr (h' l hx hy w q)
theorem OpD.imp {r : R2} {o o' : O2} (h : OpD r o) (k : ∀ d e S, o' d e S → o d e S) : OpD r o' := fun l hx hy w q => h l hx hy (k _ _ _ w) q
theorem OpD.weak {r r' : R2} {o : O2} (h : OpD r o) (k : ∀ x y H Q, r x y H Q → r' x y H Q) : OpD r' o := fun l hx hy w q => k _ _ _ _ (h l hx hy w q)
def oI (C : Int → Int → Prop) (g : Int → Int → PyData) : O2
  | .int i, .int j, S => C i j ∧ S (g i j)
  | _, _, _ => False
def oI0 (g : Int → Int → PyData) : O2
  | .int i, .int j, S => S (g i j)
  | _, _, _ => False
theorem dq_self {hs : List Addr} {H : Hp} {v : V} {d : PyData} (h : Dq (hid hs H) v d) : Same H H ∧ Dq (hid hs H) v d := ⟨Same.refl _, h⟩
theorem od_I0 {g : Int → Int → V} {g' : Int → Int → PyData} (h : ∀ (H : Hp) i j, Dq H (g i j) (g' i j)) : OpD (rI0 g) (oI0 g') := fun {hs H x y d e S Q} l hx hy w q => by
  cases hx <;> cases hy <;> first | exact False.elim w | exact ⟨_, _, rfl, rfl, q _ _ H w (Same.refl _) (h _ _ _)⟩
theorem od_I {C : Int → Int → Prop} {g : Int → Int → V} {g' : Int → Int → PyData} (h : ∀ (H : Hp) i j, Dq H (g i j) (g' i j)) : OpD (rI C g) (oI C g') := fun {hs H x y d e S Q} l hx hy w q => by
  cases hx <;> cases hy <;> first | exact False.elim w | exact ⟨_, _, rfl, rfl, w.1, q _ _ H w.2 (Same.refl _) (h _ _ _)⟩
abbrev oSub : O2 := oI0 fun i j => .int (i - j)
abbrev oFdiv : O2 := oI CDiv fun i j => .int (i / j)
abbrev oMod : O2 := oI (fun _ j => 0 < j) fun i j => .int (i % j)
abbrev oPow : O2 := oI CPow fun i j => .int (i ^ j.toNat)
abbrev oLt : O2 := oI0 fun i j => .bool (decide (i < j))
abbrev oLe : O2 := oI0 fun i j => .bool (decide (i ≤ j))
abbrev oGt : O2 := oI0 fun i j => .bool (decide (j < i))
abbrev oGe : O2 := oI0 fun i j => .bool (decide (j ≤ i))
abbrev oMulI : O2 := oI CMul fun i j => .int (i * j)
abbrev oAddI : O2 := oI0 fun i j => .int (i + j)
theorem od_sub : OpD (rI0 fun i j => .int (i - j)) oSub := od_I0 fun _ _ _ => .int _
theorem od_fdiv : OpD (rI CDiv fun i j => .int (i / j)) oFdiv := od_I fun _ _ _ => .int _
theorem od_mod : OpD (rI (fun _ j => 0 < j) fun i j => .int (i % j)) oMod := od_I fun _ _ _ => .int _
theorem od_pow : OpD (rI CPow fun i j => .int (i ^ j.toNat)) oPow := od_I fun _ _ _ => .int _
theorem od_lt : OpD (rI0 fun i j => .bl (decide (i < j))) oLt := od_I0 fun _ _ _ => .bl _
theorem od_le : OpD (rI0 fun i j => .bl (decide (i ≤ j))) oLe := od_I0 fun _ _ _ => .bl _
theorem od_gt : OpD (rI0 fun i j => .bl (decide (j < i))) oGt := od_I0 fun _ _ _ => .bl _
theorem od_ge : OpD (rI0 fun i j => .bl (decide (j ≤ i))) oGe := od_I0 fun _ _ _ => .bl _
theorem od_mulI : OpD (rI CMul fun i j => .int (i * j)) oMulI := od_I fun _ _ _ => .int _
theorem od_addI : OpD (rI0 fun i j => .int (i + j)) oAddI := od_I0 fun _ _ _ => .int _
/-! new lists -/
/-- r gives a new list of what o tells -/
def OpN (r : R2) (o : PyData → PyData → (List PyData → Prop) → Prop) : Prop := ∀ {hs : List Addr} {H : Hp} {x y : V} {d e : PyData} {S : List PyData → Prop} {Q : VK}, Live hs H → Dq (hid hs H) x d → Dq (hid hs H) y e → o d e S → (∀ p xs ds, S ds → H p = none → DqAll (hid hs H) xs ds → Q (.ref p) (upd H p (.lst xs))) → r x y H Q
theorem OpN.d {r : R2} {o : PyData → PyData → (List PyData → Prop) → Prop} (h : OpN r o) : OpD r (fun d e S => o d e fun ds => S (.list ds)) := fun {hs H x y d e S Q} l hx hy w q => h l hx hy w fun p xs ds hS np hd =>
  q _ _ _ hS (Ex.new np) (.lst (by rw [hid_out (l.out np), upd_same]) (hd.mono (same_hid (Ex.new np))))
def oCat : PyData → PyData → (List PyData → Prop) → Prop
  | .list a, .list b, S => a.length + b.length ≤ 1000000 ∧ S (a ++ b)
  | _, _, _ => False
theorem on_cat : OpN rCat oCat := fun {hs H x y d e S Q} l hx hy w q => by
  cases hx <;> cases hy <;> first | exact False.elim w | skip
  rename_i a xs ds e1 h1 a2 xs2 ds2 e2 h2
  exact ⟨_, _, _, _, rfl, rfl, (hid_some e1).2, (hid_some e2).2, by rw [h1.len, h2.len]; exact Nat.le_trans w.1 (by decide), fun p np => q p _ _ w.2 np (h1.append h2)⟩
def oRep : PyData → PyData → (List PyData → Prop) → Prop
  | .list a, .int k, S => (0 ≤ k ∧ k ≤ 1000000 ∧ a.length * k.toNat ≤ 1000000) ∧ S (List.replicate k.toNat a).flatten
  | _, _, _ => False
theorem on_rep : OpN rRep oRep := fun {hs H x y d e S Q} l hx hy w q => by
  cases hx <;> cases hy <;> first | exact False.elim w | skip
  rename_i a xs ds e1 h1 i
  have hk : 0 ≤ i ∧ i ≤ 1000000 := ⟨w.1.1, w.1.2.1⟩
  exact ⟨_, _, _, rfl, rfl, (hid_some e1).2, by omega, by omega, by rw [h1.len]; exact Nat.le_trans w.1.2.2 (by decide), fun p np => q p _ _ w.2 np (h1.flat _)⟩
def oAdd : O2
  | .int i, .int j, S => S (.int (i + j))
  | .list a, .list b, S => a.length + b.length ≤ 1000000 ∧ S (.list (a ++ b))
  | .str a, .str b, S => a.length + b.length ≤ 1000000 ∧ S (.str (a ++ b))
  | _, _, _ => False
def rStrs : R2 := fun x y H Q => ∃ i j, x = .str i ∧ y = .str j ∧ i.length + j.length ≤ sizeLine ∧ Q (.str (i ++ j)) H
def rAddU : R2 := fun x y H Q => (rI0 fun i j => .int (i + j)) x y H Q ∨ rCat x y H Q ∨ rStrs x y H Q
theorem op_addU {X : Cx} : OpR X (binaryOp .Add) rAddU := op_add.or (op_cat.or op_add_str)
theorem od_add : OpD rAddU oAdd := fun {hs H x y d e S Q} l hx hy w q => by
  cases d <;> cases e <;> first | exact False.elim w | skip
  · exact .inl (od_addI l hx hy w q)
  · obtain ⟨w1, w2⟩ := w
    cases hx
    cases hy
    exact .inr (.inr ⟨_, _, rfl, rfl, Nat.le_trans w1 (by decide), q _ _ H w2 (Same.refl _) (.str _)⟩)
  · exact .inr (.inl (on_cat.d l hx hy w q))
def oMul : O2
  | .int i, .int j, S => CMul i j ∧ S (.int (i * j))
  | .list a, .int k, S => (0 ≤ k ∧ k ≤ 1000000 ∧ a.length * k.toNat ≤ 1000000) ∧ S (.list (List.replicate k.toNat a).flatten)
  | _, _, _ => False
def rMulU : R2 := fun x y H Q => (rI CMul fun i j => .int (i * j)) x y H Q ∨ rRep x y H Q
theorem op_mulU {X : Cx} : OpR X (binaryOp .Mult) rMulU := op_mul.or op_rep
theorem od_mul : OpD rMulU oMul := fun {hs H x y d e S Q} l hx hy w q => by
  cases d <;> cases e <;> first | exact False.elim w | skip
  · exact .inl (od_mulI l hx hy w q)
  · exact .inr (on_rep.d l hx hy w q)
/-! alike or not -/
def atomD : PyData → Bool
  | .list _ => false
  | .tuple _ => false
  | .dict _ => false
  | _ => true
def mixD : PyData → PyData → Bool
  | .int _, .bool _ => true
  | .bool _, .int _ => true
  | _, _ => false
def eqS (d e : PyData) : Bool := match d, e with
  | .int i, .int j => i == j
  | .bool i, .bool j => i == j
  | .str i, .str j => i == j
  | .none, .none => true
  | _, _ => false
/-- both atoms: as they are; else by their data -/
def oEq : O2 := fun d e S => if atomD d && atomD e && !mixD d e then S (.bool (eqS d e)) else SeqAt.shaped d = true ∧ SeqAt.shaped e = true ∧ S (.bool (PyData.eqv d e))
def oNe : O2 := fun d e S => if atomD d && atomD e && !mixD d e then S (.bool (!eqS d e)) else SeqAt.shaped d = true ∧ SeqAt.shaped e = true ∧ S (.bool (!PyData.eqv d e))
def rEqU (K : PySem.W.Frag) : R2 := fun x y H Q => rEq x y H Q ∨ rEqD K x y H Q
def rNeU (K : PySem.W.Frag) : R2 := fun x y H Q => rNe x y H Q ∨ rNeD K x y H Q
theorem op_eqU {X : Cx} (K : PySem.W.Frag) (hu : X.A.units + 64 < cLine) (hK : X.K = K := by rfl) : OpR X (compareOp .Eq) (rEqU K) := by subst hK; exact op_eq.or (op_eqD hu)
theorem op_neU {X : Cx} (K : PySem.W.Frag) (hu : X.A.units + 64 < cLine) (hK : X.K = K := by rfl) : OpR X (compareOp .NotEq) (rNeU K) := by subst hK; exact op_ne.or (op_neD hu)
theorem scal_of {H : Hp} {x y : V} {d e : PyData} (hx : Dq H x d) (hy : Dq H y e) (h : (atomD d && atomD e && !mixD d e) = true) : scal x y = true ∧ decide (x = y) = eqS d e := by
  cases hx <;> cases hy <;> first
    | (simp [atomD, mixD] at h; done)
    | exact ⟨rfl, dec_int⟩
    | exact ⟨rfl, dec_bl⟩
    | exact ⟨rfl, dec_str⟩
    | exact ⟨rfl, by simp [eqS]⟩
theorem od_eq {K : PySem.W.Frag} : OpD (rEqU K) oEq := fun {hs H x y d e S Q} l hx hy w q => by
  unfold oEq at w
  split at w
  · rename_i h
    obtain ⟨h1, h2⟩ := scal_of hx hy h
    exact .inl ⟨h1, q _ _ H w (Same.refl _) (by rw [h2]; exact .bl _)⟩
  · exact .inr ⟨d, e, (dq_vis hx).dp (noD_shaped w.1), (dq_vis hy).dp (noD_shaped w.2.1), w.1, w.2.1, q _ _ H w.2.2 (Same.refl _) (.bl _)⟩
theorem od_ne {K : PySem.W.Frag} : OpD (rNeU K) oNe := fun {hs H x y d e S Q} l hx hy w q => by
  unfold oNe at w
  split at w
  · rename_i h
    obtain ⟨h1, h2⟩ := scal_of hx hy h
    exact .inl ⟨h1, q _ _ H w (Same.refl _) (by rw [h2]; exact .bl _)⟩
  · exact .inr ⟨d, e, (dq_vis hx).dp (noD_shaped w.1), (dq_vis hy).dp (noD_shaped w.2.1), w.1, w.2.1, q _ _ H w.2.2 (Same.refl _) (.bl _)⟩
def isNone : PyData → Bool
  | .none => true
  | _ => false
theorem none_dec {H : Hp} {x : V} {d : PyData} (hx : Dq H x d) : decide (x = .non) = isNone d := by
  cases hx <;> simp [isNone]
def oIs : O2 := fun d e S => isNone e = true ∧ S (.bool (isNone d))
def oIsNot : O2 := fun d e S => isNone e = true ∧ S (.bool (!isNone d))
theorem non_of {H : Hp} {y : V} {e : PyData} (hy : Dq H y e) (h : isNone e = true) : y = .non := by
  cases hy <;> first | rfl | cases h
theorem od_is : OpD (fun x y H Q => y = .non ∧ Q (.bl (decide (x = .non))) H) oIs := fun {hs H x y d e S Q} l hx hy w q => ⟨non_of hy w.1, q _ _ H w.2 (Same.refl _) (by rw [none_dec hx]; exact .bl _)⟩
theorem od_isnot : OpD (fun x y H Q => y = .non ∧ Q (.bl (!decide (x = .non))) H) oIsNot := fun {hs H x y d e S Q} l hx hy w q => ⟨non_of hy w.1, q _ _ H w.2 (Same.refl _) (by rw [none_dec hx]; exact .bl _)⟩
/-! items -/
def intsOf : List PyData → Option (List Int)
  | [] => some []
  | .int i :: r => (intsOf r).map (i :: ·)
  | _ :: _ => none
theorem intsOf_map : ∀ ns : List Int, intsOf (ns.map PyData.int) = some ns
  | [] => rfl
  | n :: r => by
    show (intsOf (r.map PyData.int)).map (n :: ·) = _
    rw [intsOf_map r]
    rfl
theorem intsOf_some : ∀ {ds : List PyData} {ns : List Int}, intsOf ds = some ns → ds = ns.map PyData.int
  | [], ns, h => by
    have e : [] = ns := Option.some.inj h
    rw [← e]
    rfl
  | .int i :: r, ns, h => by
    have h' : (intsOf r).map (i :: ·) = some ns := h
    cases e : intsOf r with
    | none => rw [e] at h'; cases h'
    | some ms =>
      rw [e] at h'
      have e2 : i :: ms = ns := Option.some.inj h'
      rw [← e2, intsOf_some e]
      rfl
  | .none :: _, _, h => by cases h
  | .bool _ :: _, _, h => by cases h
  | .str _ :: _, _, h => by cases h
  | .list _ :: _, _, h => by cases h
  | .tuple _ :: _, _, h => by cases h
  | .dict _ :: _, _, h => by cases h
def seqOf : PyData → Option (List PyData)
  | .list a => some a
  | .tuple a => some a
  | _ => none
theorem seqOf_seqD (kd : Bool) (ds : List PyData) : seqOf (seqD kd ds) = some ds := by cases kd <;> rfl
theorem Dq.seqOf {H : Hp} {K : PySem.W.Frag} {v : V} {d : PyData} {ds : List PyData} (h : Dq H v d) (e : seqOf d = some ds) : ∃ a xs, v = .ref a ∧ (∀ {H' : Hp}, Same H H' → (SqL K H' a xs ∨ SqT K H' a xs)) ∧ DqAll H xs ds := by
  cases h with
  | lst e1 h1 =>
    have e2 := Option.some.inj e
    subst e2
    exact ⟨_, _, rfl, fun s => .inl (SqL.of (s _ _ e1)), h1⟩
  | tup e1 h1 =>
    have e2 := Option.some.inj e
    subst e2
    exact ⟨_, _, rfl, fun s => .inr (SqT.of (s _ _ e1)), h1⟩
  | _ => cases e
def oIx : O2
  | .list a, .int i, S => ∃ d, atI a i = some d ∧ S d
  | .tuple a, .int i, S => ∃ d, atI a i = some d ∧ S d
  | _, _, _ => False
theorem atI_get {H : Hp} {xs : List V} {ds : List PyData} {i : Int} {d : PyData} (h : DqAll H xs ds) (e : atI ds i = some d) : ∃ v, atI xs i = some v ∧ Dq H v d := by
  unfold atI at e ⊢
  rw [h.len]
  cases hn : ixN ds.length i with
  | none => rw [hn] at e; cases e
  | some j =>
    rw [hn] at e
    obtain ⟨v, h1, h2⟩ := h.at (i := j) (d := d) e
    exact ⟨v, h1, h2⟩
theorem od_ix {K : PySem.W.Frag} : OpD (rIx K) oIx := fun {hs H x y d e S Q} l hx hy w q => by
  cases d <;> cases e <;> first | exact False.elim w | skip
  all_goals
    obtain ⟨f, hf, hS⟩ := w
    cases hx
    cases hy
    rename_i e1 h1
    obtain ⟨v, h2, h3⟩ := atI_get h1 hf
    first
      | exact .inl ⟨_, _, _, v, rfl, rfl, SqL.of (hid_some e1).2, h2, q _ _ H hS (Same.refl _) h3⟩
      | exact .inr (.inl ⟨_, _, _, v, rfl, rfl, SqT.of (hid_some e1).2, h2, q _ _ H hS (Same.refl _) h3⟩)
def oIn (neg : Bool) : O2 := fun d e S => match d, seqOf e with
  | .int k, some ds => match intsOf ds with
    | some ns => S (.bool (if neg then !ns.contains k else ns.contains k))
    | none => False
  | _, _ => False
theorem inV_ints (k : Int) (ns : List Int) : inV (.int k) (ns.map V.int) = ns.contains k := by
  unfold inV
  rw [List.any_map]
  induction ns with
  | nil => rfl
  | cons n r ih =>
    rw [List.any_cons, List.contains_cons, ih]
    congr 1
    show eqV (.int n) (.int k) = (k == n)
    unfold eqV
    rw [Bool.eq_iff_iff]
    simp
    exact eq_comm
theorem od_in {K : PySem.W.Frag} {neg : Bool} : OpD (rIn K neg) (oIn neg) := fun {hs H x y d e S Q} l hx hy w q => by
  unfold oIn at w
  split at w
  · rename_i k ds he
    cases hx
    split at w
    · rename_i ns hns
      obtain ⟨a, xs, rfl, hs1, h1⟩ := hy.seqOf (K := K) he
      rw [intsOf_some hns] at h1
      have e3 := ints_inv h1
      subst e3
      refine ⟨a, _, rfl, hs1 hid_same, rfl, ?_, ?_⟩
      · rw [List.all_map]
        exact List.all_eq_true.mpr fun _ _ => rfl
      · rw [inV_ints]
        exact q _ _ H w (Same.refl _) (.bl _)
    · exact w.elim
  · exact w.elim
/-! ### one operand -/
abbrev O1 := PyData → (PyData → Prop) → Prop
def UnD (r : V → Hp → VK → Prop) (o : O1) : Prop := ∀ {hs : List Addr} {H : Hp} {x : V} {d : PyData} {S : PyData → Prop} {Q : VK}, Live hs H → Dq (hid hs H) x d → o d S → (∀ z f H', S f → Same H H' → Dq (hid hs H') z f → Q z H') → r x H Q
def wUn (o : O1) (wa : WE) : WE := fun ε N R => wa ε N fun d N1 => o d fun f => R f N1
theorem sim_un {r : V → Hp → VK → Prop} {o : O1} (ho : UnD r o) (ha : SimE ta wa) : SimE (tUn r ta) (wUn o wa) := fun rl w q => ha rl w fun v d N1 H1 w1 o1 hd => ho (out_live o1 rl.live) hd w1 fun z f H3 hS e3 hz => q z f N1 H3 hS (o1.ext e3) hz
def oNeg : O1
  | .int i, S => S (.int (-i))
  | _, _ => False
theorem ud_neg : UnD (rU fun i => .int (-i)) oNeg := fun {hs H x d S Q} l hx w q => by
  cases hx <;> first | exact False.elim w | exact ⟨_, rfl, q _ _ H w (Same.refl _) (.int _)⟩
/-! ### tests -/
def wTest (we : WE) : WB := fun ε N R => we ε N fun d N1 => match d with
  | .bool b => R b N1
  | _ => False
theorem sim_test (h : SimE te we) : SimB (tTest te) (wTest we) := fun r w q => h r w fun v d N1 H1 w1 o1 hd => by
  cases hd <;> first | exact False.elim w1 | exact ⟨_, rfl, q _ N1 H1 w1 o1⟩
theorem sim_tB (h : SimE te we) : SimB (tB te) (wTest we) := fun r w q => h r w fun v d N1 H1 w1 o1 hd => by
  cases hd <;> first | exact False.elim w1 | exact ⟨_, rfl, q _ N1 H1 w1 o1⟩
def wYes : WB := fun _ N R => R true N
theorem sim_yes : SimB tYes wYes := fun r w q => q _ _ _ w r.self
def wNot (w : WB) : WB := fun ε N R => w ε N fun b N1 => R (!b) N1
theorem sim_not (h : SimB t w) : SimB (tNot t) (wNot w) := fun r ww q => h r ww fun b N1 H1 w1 o1 => q _ _ _ w1 o1
def wAnd (w w' : WB) : WB := fun ε N R => w ε N fun b N1 => match b with
  | true => w' ε N1 R
  | false => R false N1
def wOr (w w' : WB) : WB := fun ε N R => w ε N fun b N1 => match b with
  | true => R true N1
  | false => w' ε N1 R
theorem sim_and (h : SimB t w) (k : SimB u w') : SimB (tAnd t u) (wAnd w w') := fun {c bs F σ H ε N R Q} r ww q => h r ww fun b N1 H1 w1 o1 => by
  cases b with
  | true => exact k (r.out o1) w1 fun b2 N2 H2 w2 o2 => q _ _ _ w2 (o1.trans o2)
  | false => exact q _ _ _ w1 o1
theorem sim_or (h : SimB t w) (k : SimB u w') : SimB (tOr t u) (wOr w w') := fun {c bs F σ H ε N R Q} r ww q => h r ww fun b N1 H1 w1 o1 => by
  cases b with
  | false => exact k (r.out o1) w1 fun b2 N2 H2 w2 o2 => q _ _ _ w2 (o1.trans o2)
  | true => exact q _ _ _ w1 o1
def wAndV (wa wb : WE) : WE := fun ε N R => wa ε N fun d N1 => match d with
  | .bool true => wb ε N1 R
  | .bool false => R (.bool false) N1
  | _ => False
def wOrV (wa wb : WE) : WE := fun ε N R => wa ε N fun d N1 => match d with
  | .bool true => R (.bool true) N1
  | .bool false => wb ε N1 R
  | _ => False
def wNotV (wa : WE) : WE := fun ε N R => wa ε N fun d N1 => match d with
  | .bool b => R (.bool !b) N1
  | _ => False
theorem sim_andV (h : SimE ta wa) (k : SimE tb wb) : SimE (tAndV ta tb) (wAndV wa wb) := fun {c bs F σ H ε N R Q} r ww q => h r ww fun v d N1 H1 w1 o1 hd => by
  cases hd <;> first | exact False.elim w1 | skip
  rename_i b
  refine ⟨b, rfl, ?_⟩
  cases b with
  | true => exact iteT (k (r.out o1) w1 fun v2 d2 N2 H2 w2 o2 hd2 => q _ _ _ _ w2 (o1.trans o2) hd2)
  | false => exact iteF (q _ _ _ _ w1 o1 (.bl false))
theorem sim_orV (h : SimE ta wa) (k : SimE tb wb) : SimE (tOrV ta tb) (wOrV wa wb) := fun {c bs F σ H ε N R Q} r ww q => h r ww fun v d N1 H1 w1 o1 hd => by
  cases hd <;> first | exact False.elim w1 | skip
  rename_i b
  refine ⟨b, rfl, ?_⟩
  cases b with
  | false => exact iteF (k (r.out o1) w1 fun v2 d2 N2 H2 w2 o2 hd2 => q _ _ _ _ w2 (o1.trans o2) hd2)
  | true => exact iteT (q _ _ _ _ w1 o1 (.bl true))
theorem sim_notV (h : SimE ta wa) : SimE (tNotV ta) (wNotV wa) := fun {c bs F σ H ε N R Q} r ww q => h r ww fun v d N1 H1 w1 o1 hd => by
  cases hd <;> first | exact False.elim w1 | skip
  exact ⟨_, rfl, q _ _ _ _ w1 o1 (.bl _)⟩
def wIf (w : WB) (wa wb : WE) : WE := fun ε N R => w ε N fun b N1 => match b with
  | true => wa ε N1 R
  | false => wb ε N1 R
theorem sim_if (h : SimB t w) (ha : SimE ta wa) (hb : SimE tb wb) : SimE (tIf t ta tb) (wIf w wa wb) := fun {c bs F σ H ε N R Q} r ww q => h r ww fun b N1 H1 w1 o1 => by
  cases b with
  | true => exact iteT (ha (r.out o1) w1 fun v2 d2 N2 H2 w2 o2 hd2 => q _ _ _ _ w2 (o1.trans o2) hd2)
  | false => exact iteF (hb (r.out o1) w1 fun v2 d2 N2 H2 w2 o2 hd2 => q _ _ _ _ w2 (o1.trans o2) hd2)
def wIfT (w : WB) (wa wb : WT) : WT := fun ε N R => w ε N fun b N1 => match b with
  | true => wa ε N1 R
  | false => wb ε N1 R
theorem Nw.back {c : Base} {bs A : List Addr} {H H1 H2 : Hp} {v : V} {t : T} {N : Nat} (o : Out c H H1 N) (n : Nw bs A H1 H2 v t) : Nw bs A H H2 v t := ⟨n.rep, n.nd, fun a ha => by
  have e := n.new a ha
  by_cases hb : a ∈ c.b
  · exact absurd e (o.box a hb).is
  · cases e2 : H a with
    | none => rfl
    | some x => rw [out_get o hb e2] at e; cases e⟩
theorem sim_ifT {ta tb : TE} {wa wb : WT} (h : SimB t w) (ha : SimT ta wa) (hb : SimT tb wb) : SimT (tIf t ta tb) (wIfT w wa wb) := fun {c bs F σ H ε N R Q} r ww q => h r ww fun b N1 H1 w1 o1 => by
  cases b with
  | true => exact iteT (ha (r.out o1) w1 fun v2 d2 A N2 H2 w2 o2 n => q _ _ _ _ _ w2 (o1.trans o2) (n.back o1))
  | false => exact iteF (hb (r.out o1) w1 fun v2 d2 A N2 H2 w2 o2 n => q _ _ _ _ _ w2 (o1.trans o2) (n.back o1))
/-- a op b op c -/
def wChain (o o' : O2) (wa wb wc : WE) : WE := fun ε N R => wa ε N fun d N1 => wb ε N1 fun e N2 => o d e fun f => match f with
  | .bool true => wc ε N2 fun g N3 => o' e g fun f => R f N3
  | .bool false => R (.bool false) N2
  | _ => False
theorem sim_chain {r r' : R2} {o o' : O2} (ho : OpD r o) (ho' : OpD r' o') (ha : SimE ta wa) (hb : SimE tb wb) (hc : SimE tc wc) : SimE (tChain r r' ta tb tc) (wChain o o' wa wb wc) := fun {c bs F σ H ε N R Q} rl w q => ha rl w fun v d N1 H1 w1 o1 hd => hb (rl.out o1) w1 fun u e N2 H2 w2 o2 he =>
  ho (out_live (o1.trans o2) rl.live) (out_dq o2 rl.bin hd) he w2 fun z f H3 hS e3 hz => by
    have o3 := (o1.trans o2).ext e3
    cases hz <;> first | exact False.elim hS | skip
    rename_i b
    refine ⟨b, rfl, ?_⟩
    cases b with
    | true => exact iteT (hc (rl.out o3) hS fun v4 g N4 H4 w4 o4 hd4 => ho' (out_live (o3.trans o4) rl.live) (out_dq o4 rl.bin (he.mono (same_hid e3))) hd4 w4 fun z5 f5 H5 hS5 e5 hz5 => q _ _ _ _ hS5 ((o3.trans o4).ext e5) hz5)
    | false => exact iteF (q _ _ _ _ hS o3 (.bl false))
/-! ### displays -/
def wLst (wa : WA) : WE := fun ε N R => wa ε N fun ds N1 => ds.length ≤ 100000 ∧ R (.list ds) N1
def wTup (wa : WA) : WE := fun ε N R => wa ε N fun ds N1 => ds.length ≤ 100000 ∧ R (.tuple ds) N1
theorem sim_lst (h : SimA tas was) : SimE (tLst tas) (wLst was) := fun r w q => h r w fun vs ds N1 H1 w1 o1 hd => ⟨by rw [hd.len]; exact Nat.le_trans w1.1 (by decide), fun p np =>
  q _ _ N1 _ w1.2 (o1.ext (Ex.new np)) (.lst (by rw [hid_out ((out_live o1 r.live).out np), upd_same]) (hd.mono (same_hid (Ex.new np))))⟩
theorem sim_tup (h : SimA tas was) : SimE (tTup tas) (wTup was) := fun r w q => h r w fun vs ds N1 H1 w1 o1 hd => ⟨by rw [hd.len]; exact Nat.le_trans w1.1 (by decide), fun p np =>
  q _ _ N1 _ w1.2 (o1.ext (Ex.new np)) (.tup (by rw [hid_out ((out_live o1 r.live).out np), upd_same]) (hd.mono (same_hid (Ex.new np))))⟩
def wNilT : WTs := fun _ N R => R [] N
def wSnocT (ws : WTs) (w : WT) : WTs := fun ε N R => ws ε N fun ts N1 => w ε N1 fun t N2 => R (ts ++ [t]) N2
end
end Cg

set_option Elab.async false
set_option linter.all false
set_option maxRecDepth 100000
set_option maxHeartbeats 1000000
namespace Cg
open PySem PySem.Spec PyProof.Rows L2 Evl
section
variable {ta tb tc te : TE} {wa wb wc we : WE} {t u : TT} {w w' : WB} {tas : TA} {was : WA} {c : Base} {bs F A B : List Addr} {σ : L2.St} {H H1 H2 H' : Hp} {ε : Env} {N N1 N2 : Nat}
/-! ### lists of what is its own -/
theorem mem3 {A B C : List Addr} {a : Addr} (h : a ∈ A ++ B ++ C) : a ∈ B ++ (A ++ C) := by
  rcases List.mem_append.mp h with h | h
  · rcases List.mem_append.mp h with h | h
    · exact List.mem_append_right _ (List.mem_append_left _ h)
    · exact List.mem_append_left _ h
  · exact List.mem_append_right _ (List.mem_append_right _ h)
theorem NwL.cons {v : V} {tt : T} {vs : List V} {ts : List T} (r : Rel c bs F σ H ε N) (k1 : Out c H H1 N1) (n : Nw bs A H H1 v tt) (k : Out c H1 H2 N2) (q : NwL (A ++ bs) B H1 H2 vs ts) : NwL bs (A ++ B) H H2 (v :: vs) (tt :: ts) := by
  have r1 := r.hide k1 n.new n.rep.own
  have nb : ∀ a ∈ A, a ∉ c.b := fun a ha z => r.live a (r.bin a z) (n.new a ha)
  have hAB := side (own_some n.rep.own) q.new
  have hk : ∀ a, H1 a = none → H a = none := fun a e => by
    by_cases hb : a ∈ c.b
    · exact absurd e (k1.box a hb).is
    · cases e2 : H a with
      | none => rfl
      | some o => rw [out_get k1 hb e2] at e; cases e
  have e1 : Same (hid (A ++ bs) H1) (hid (A ++ B ++ bs) H2) := fun a o e => by
    have := vis_step (bs := A ++ bs) k (fun a ha => List.mem_append_right _ (r.bin a ha)) q.new a o e
    obtain ⟨h1, h2⟩ := hid_some this
    rw [hid_out fun z => h1 (mem3 z)]
    exact h2
  have ra : Rep (A ++ B ++ bs) H2 v tt A := Rep.chg r1.nt e1 (fun a ha o e => out_get k (nb a ha) e) n.rep
  have r2 := r1.hide k q.new q.rep.own
  have rb : RepL (A ++ B ++ bs) H2 vs ts B := RepL.perm r2.nt (fun a z => mem3 z) q.rep
  exact ⟨.cons ra rb, nodup_app n.nd q.nd hAB, fun a ha => (List.mem_append.mp ha).elim (n.new a) fun h => hk a (q.new a h)⟩
def wConsT (w : WT) (ws : WTs) : WTs := fun ε N R => w ε N fun t N1 => ws ε N1 fun ts N2 => R (t :: ts) N2
theorem sim_nilT : SimTs tNil wNilT := fun r h q => q _ _ [] _ _ h r.self .nil
theorem sim_consT {wt : WT} {ws : WTs} (h : SimT te wt) (k : SimTs tas ws) : SimTs (tCons te tas) (wConsT wt ws) := fun r w q => h r w fun v t A N1 H1 w1 o1 n => k (r.hide o1 n.new n.rep.own) w1 fun vs ts B N2 H2 w2 o2 n2 =>
  q (v :: vs) (t :: ts) (A ++ B) N2 H2 w2 (o1.trans o2) (NwL.cons r o1 n o2 n2)
/-- a new list of them -/
theorem Nw.lst {vs : List V} {ts : List T} {p : Addr} (r : Rel c bs F σ H ε N) (o : Out c H H1 N1) (n : NwL bs A H H1 vs ts) (np : H1 p = none) : Nw bs (p :: A) H (upd H1 p (.lst vs)) (.ref p) (.lst ts) := by
  have hk : ∀ a, H1 a = none → H a = none := fun a e => by
    by_cases hb : a ∈ c.b
    · exact absurd e (o.box a hb).is
    · cases e2 : H a with
      | none => rfl
      | some x => rw [out_get o hb e2] at e; cases e
  have r1 := r.hide o n.new n.rep.own
  have pA : p ∉ A := fun z => own_some n.rep.own p z np
  refine ⟨.lst upd_same (RepL.chg r1.nt ?_ (fun a ha x e => ?_) n.rep), List.nodup_cons.mpr ⟨pA, n.nd⟩, fun a ha => ?_⟩
  · intro a x e
    obtain ⟨h1, h2⟩ := hid_some e
    have hne : a ≠ p := ne_of_none h2 np
    show hid (p :: (A ++ bs)) (upd H1 p (HO.lst vs)) a = some x
    rw [hid_out (fun z => (List.mem_cons.mp z).elim hne h1), upd_ne hne]
    exact h2
  · rw [upd_ne (ne_of_none e np)]
    exact e
  · rcases List.mem_cons.mp ha with rfl | ha
    · exact hk _ np
    · exact n.new a ha
def wLstT (ws : WTs) : WT := fun ε N R => ws ε N fun ts N1 => ts.length ≤ 100000 ∧ R (.lst ts) N1
theorem sim_lstT {ws : WTs} (h : SimTs tas ws) : SimT (tLst tas) (wLstT ws) := fun r w q => h r w fun vs ts A N1 H1 w1 o1 n => ⟨by rw [n.rep.len]; exact Nat.le_trans w1.1 (by decide), fun p np =>
  q _ _ (p :: A) N1 _ w1.2 (o1.ext (Ex.new np)) (Nw.lst r o1 n np)⟩
def wTupT (ws : WTs) : WT := fun ε N R => ws ε N fun ts N1 => ts.length ≤ 100000 ∧ R (.tup ts) N1
theorem Nw.tup {vs : List V} {ts : List T} {p : Addr} (r : Rel c bs F σ H ε N) (o : Out c H H1 N1) (n : NwL bs A H H1 vs ts) (np : H1 p = none) : Nw bs A H (upd H1 p (.tup vs)) (.ref p) (.tup ts) := by
  have r1 := r.hide o n.new n.rep.own
  refine ⟨.tup upd_same (RepL.chg r1.nt (same_hid (Ex.new np)) (fun a ha x e => ?_) n.rep), n.nd, n.new⟩
  rw [upd_ne (ne_of_none e np)]
  exact e
theorem sim_tupT {ws : WTs} (h : SimTs tas ws) : SimT (tTup tas) (wTupT ws) := fun r w q => h r w fun vs ts A N1 H1 w1 o1 n => ⟨by rw [n.rep.len]; exact Nat.le_trans w1.1 (by decide), fun p np =>
  q _ _ A N1 _ w1.2 (o1.ext (Ex.new np)) (Nw.tup r o1 n np)⟩
/-- a new list of shared data -/
theorem Nw.shs {xs : List V} {ds : List PyData} {p : Addr} (o : Out c H H1 N1) (hd : DqAll (hid bs H1) xs ds) (np : H1 p = none) : Nw bs [p] H (upd H1 p (.lst xs)) (.ref p) (.lst (ds.map T.sh)) := by
  have hk : H p = none := by
    by_cases hb : p ∈ c.b
    · exact absurd np (o.box p hb).is
    · cases e2 : H p with
      | none => rfl
      | some x => rw [out_get o hb e2] at np; cases np
  exact ⟨.lst upd_same (RepL.shs (hd.mono (hid_fresh np))), List.nodup_cons.mpr ⟨List.not_mem_nil, List.nodup_nil⟩, fun a ha => by rw [List.mem_singleton.mp ha]; exact hk⟩
def wOpT (o : PyData → PyData → (List PyData → Prop) → Prop) (wa wb : WE) : WT := fun ε N R => wa ε N fun d N1 => wb ε N1 fun e N2 => o d e fun ds => R (.lst (ds.map T.sh)) N2
theorem sim_opT {r : R2} {o : PyData → PyData → (List PyData → Prop) → Prop} (ho : OpN r o) (ha : SimE ta wa) (hb : SimE tb wb) : SimT (tOp r ta tb) (wOpT o wa wb) := fun rl w q => ha rl w fun v d N1 H1 w1 o1 hd => hb (rl.out o1) w1 fun u e N2 H2 w2 o2 he =>
  ho (out_live (o1.trans o2) rl.live) (out_dq o2 rl.bin hd) he w2 fun p xs ds hS np hx => q _ _ [p] N2 _ hS ((o1.trans o2).ext (Ex.new np)) (Nw.shs (o1.trans o2) hx np)
theorem OpN.weak {r r' : R2} {o : PyData → PyData → (List PyData → Prop) → Prop} (h : OpN r o) (k : ∀ x y H Q, r x y H Q → r' x y H Q) : OpN r' o := fun l hx hy w q => k _ _ _ _ (h l hx hy w q)
theorem on_addU : OpN rAddU oCat := on_cat.weak fun _ _ _ _ h => .inr (.inl h)
theorem on_mulU : OpN rMulU oRep := on_rep.weak fun _ _ _ _ h => .inr h
/-! ### calls of built-ins -/
abbrev OC := List PyData → (PyData → Prop) → Prop
def CbD (r : List V → Hp → VK → Prop) (o : OC) : Prop := ∀ {hs : List Addr} {H : Hp} {xs : List V} {ds : List PyData} {S : PyData → Prop} {Q : VK}, Live hs H → DqAll (hid hs H) xs ds → o ds S → (∀ z f H', S f → Same H H' → Dq (hid hs H') z f → Q z H') → r xs H Q
def wCb (o : OC) (was : WA) : WE := fun ε N R => was ε N fun ds N1 => o ds fun f => R f N1
theorem sim_cb {r : List V → Hp → VK → Prop} {o : OC} (ho : CbD r o) (ha : SimA tas was) : SimE (tCB r tas) (wCb o was) := fun rl w q => ha rl w fun vs ds N1 H1 w1 o1 hd => ho (out_live o1 rl.live) hd w1 fun z f H3 hS e3 hz => q z f N1 H3 hS (o1.ext e3) hz
def CbN (r : List V → Hp → VK → Prop) (o : List PyData → (List PyData → Prop) → Prop) : Prop := ∀ {hs : List Addr} {H : Hp} {xs : List V} {ds : List PyData} {S : List PyData → Prop} {Q : VK}, Live hs H → DqAll (hid hs H) xs ds → o ds S → (∀ p ys es, S es → H p = none → DqAll (hid hs H) ys es → Q (.ref p) (upd H p (.lst ys))) → r xs H Q
theorem CbN.d {r : List V → Hp → VK → Prop} {o : List PyData → (List PyData → Prop) → Prop} (h : CbN r o) : CbD r (fun ds S => o ds fun es => S (.list es)) := fun l hx w q => h l hx w fun p xs ds hS np hd =>
  q _ _ _ hS (Ex.new np) (.lst (by rw [hid_out (l.out np), upd_same]) (hd.mono (same_hid (Ex.new np))))
def wCbT (o : List PyData → (List PyData → Prop) → Prop) (was : WA) : WT := fun ε N R => was ε N fun ds N1 => o ds fun es => R (.lst (es.map T.sh)) N1
theorem sim_cbT {r : List V → Hp → VK → Prop} {o : List PyData → (List PyData → Prop) → Prop} (ho : CbN r o) (ha : SimA tas was) : SimT (tCB r tas) (wCbT o was) := fun rl w q => ha rl w fun vs ds N1 H1 w1 o1 hd => ho (out_live o1 rl.live) hd w1 fun p ys es hS np hx => q _ _ [p] N1 _ hS (o1.ext (Ex.new np)) (Nw.shs o1 hx np)
theorem dq1 {H : Hp} {xs : List V} {d : PyData} (h : DqAll H xs [d]) : ∃ v, xs = [v] ∧ Dq H v d := by
  cases h with
  | cons h t => cases t with
    | nil => exact ⟨_, rfl, h⟩
theorem dq2 {H : Hp} {xs : List V} {d e : PyData} (h : DqAll H xs [d, e]) : ∃ v u, xs = [v, u] ∧ Dq H v d ∧ Dq H u e := by
  cases h with
  | cons h t =>
    obtain ⟨u, rfl, hu⟩ := dq1 t
    exact ⟨_, _, rfl, h, hu⟩
def oLen : OC
  | [d], S => match seqOf d with
    | some ds => S (.int ds.length)
    | none => False
  | _, _ => False
theorem cb_len {K : PySem.W.Frag} : CbD (rLenS K) oLen := fun {hs H xs ds S Q} l hx w q => by
  match ds, w with
  | [d], w =>
    obtain ⟨v, rfl, hv⟩ := dq1 hx
    have w' : (match seqOf d with | some ds => S (.int ds.length) | none => False) := w
    split at w'
    · rename_i es he
      obtain ⟨a, ys, rfl, hs1, h1⟩ := hv.seqOf (K := K) he
      exact ⟨a, ys, rfl, hs1 hid_same, q _ _ H w' (Same.refl _) (by rw [h1.len]; exact .int _)⟩
    · exact w'.elim
def oInt : OC
  | [.int i], S => S (.int i)
  | [.bool b], S => S (.int (if b then 1 else 0))
  | _, _ => False
theorem cb_int : CbD (fun xs H Q => (∃ i, xs = [.int i] ∧ Q (.int i) H) ∨ ∃ k, xs = [.bl k] ∧ Q (.int (if k then 1 else 0)) H) oInt := fun {hs H xs ds S Q} l hx w q => by
  match ds, w with
  | [.int i], w =>
    obtain ⟨v, rfl, hv⟩ := dq1 hx
    cases hv
    exact .inl ⟨_, rfl, q _ _ H w (Same.refl _) (.int _)⟩
  | [.bool b], w =>
    obtain ⟨v, rfl, hv⟩ := dq1 hx
    cases hv
    exact .inr ⟨_, rfl, q _ _ H w (Same.refl _) (.int _)⟩
def oAbs : OC
  | [.int i], S => S (.int (if i < 0 then -i else i))
  | _, _ => False
theorem cb_abs : CbD (fun xs H Q => ∃ i, xs = [.int i] ∧ Q (.int (if i < 0 then -i else i)) H) oAbs := fun {hs H xs ds S Q} l hx w q => by
  match ds, w with
  | [.int i], w =>
    obtain ⟨v, rfl, hv⟩ := dq1 hx
    cases hv
    exact ⟨_, rfl, q _ _ H w (Same.refl _) (.int _)⟩
def oMin2 : OC
  | [.int i, .int j], S => S (.int (if j < i then j else i))
  | _, _ => False
def oMax2 : OC
  | [.int i, .int j], S => S (.int (if j > i then j else i))
  | _, _ => False
theorem cb_min2 : CbD (fun xs H Q => ∃ i j, xs = [.int i, .int j] ∧ Q (.int (if j < i then j else i)) H) oMin2 := fun {hs H xs ds S Q} l hx w q => by
  match ds, w with
  | [.int i, .int j], w =>
    obtain ⟨v, u, rfl, hv, hu⟩ := dq2 hx
    cases hv
    cases hu
    exact ⟨_, _, rfl, q _ _ H w (Same.refl _) (.int _)⟩
theorem cb_max2 : CbD (fun xs H Q => ∃ i j, xs = [.int i, .int j] ∧ Q (.int (if j > i then j else i)) H) oMax2 := fun {hs H xs ds S Q} l hx w q => by
  match ds, w with
  | [.int i, .int j], w =>
    obtain ⟨v, u, rfl, hv, hu⟩ := dq2 hx
    cases hv
    cases hu
    exact ⟨_, _, rfl, q _ _ H w (Same.refl _) (.int _)⟩
def boolsOf : List PyData → Option (List Bool)
  | [] => some []
  | .bool i :: r => (boolsOf r).map (i :: ·)
  | _ :: _ => none
theorem boolsOf_map : ∀ ns : List Bool, boolsOf (ns.map PyData.bool) = some ns
  | [] => rfl
  | n :: r => by
    show (boolsOf (r.map PyData.bool)).map (n :: ·) = _
    rw [boolsOf_map r]
    rfl
theorem bools_inv {H : Hp} : ∀ {xs : List V} {ds : List PyData} {ns : List Bool}, DqAll H xs ds → boolsOf ds = some ns → xs = ns.map V.bl
  | _, _, ns, .nil, e => by
    have e : [] = ns := Option.some.inj e
    rw [← e]
    rfl
  | _, _, ns, .cons h t, e => by
    cases h <;> first | cases e | skip
    rename_i vs ds b
    have h' : (boolsOf ds).map (b :: ·) = some ns := e
    cases e2 : boolsOf ds with
    | none => rw [e2] at h'; cases h'
    | some ms =>
      rw [e2] at h'
      have e3 : b :: ms = ns := Option.some.inj h'
      rw [← e3, bools_inv t e2]
      rfl
def oAll : OC
  | [.list ds], S => match boolsOf ds with
    | some bs => S (.bool (bs.all id))
    | none => False
  | _, _ => False
def oAny : OC
  | [.list ds], S => match boolsOf ds with
    | some bs => S (.bool (bs.any id))
    | none => False
  | _, _ => False
theorem cb_all {K : PySem.W.Frag} : CbD (rAll K) oAll := fun {hs H xs ds S Q} l hx w q => by
  match ds, w with
  | [.list es], w =>
    obtain ⟨v, rfl, hv⟩ := dq1 hx
    have w' : (match boolsOf es with | some bs => S (.bool (bs.all id)) | none => False) := w
    split at w'
    · rename_i ns he
      obtain ⟨a, ys, rfl, e1, h1⟩ := hv.list_inv
      have e2 := bools_inv h1 he
      subst e2
      exact ⟨a, ns, rfl, SqL.of (hid_some e1).2, q _ _ H w' (Same.refl _) (.bl _)⟩
    · exact w'.elim
theorem cb_any {K : PySem.W.Frag} : CbD (rAny K) oAny := fun {hs H xs ds S Q} l hx w q => by
  match ds, w with
  | [.list es], w =>
    obtain ⟨v, rfl, hv⟩ := dq1 hx
    have w' : (match boolsOf es with | some bs => S (.bool (bs.any id)) | none => False) := w
    split at w'
    · rename_i ns he
      obtain ⟨a, ys, rfl, e1, h1⟩ := hv.list_inv
      have e2 := bools_inv h1 he
      subst e2
      exact ⟨a, ns, rfl, SqL.of (hid_some e1).2, q _ _ H w' (Same.refl _) (.bl _)⟩
    · exact w'.elim
def oSum : OC
  | [.list ds], S => match intsOf ds with
    | some ns => S (.int ns.sum)
    | none => False
  | _, _ => False
theorem ints_of {H : Hp} {xs : List V} {ds : List PyData} {ns : List Int} (h : DqAll H xs ds) (e : intsOf ds = some ns) : xs = ns.map V.int := by
  rw [intsOf_some e] at h
  exact ints_inv h
theorem cb_sum {K : PySem.W.Frag} : CbD (rSum K) oSum := fun {hs H xs ds S Q} l hx w q => by
  match ds, w with
  | [.list es], w =>
    obtain ⟨v, rfl, hv⟩ := dq1 hx
    have w' : (match intsOf es with | some ns => S (.int ns.sum) | none => False) := w
    split at w'
    · rename_i ns he
      obtain ⟨a, ys, rfl, e1, h1⟩ := hv.list_inv
      have e2 := ints_of h1 he
      subst e2
      exact ⟨a, ns, rfl, SqL.of (hid_some e1).2, q _ _ H w' (Same.refl _) (.int _)⟩
    · exact w'.elim
def oList : List PyData → (List PyData → Prop) → Prop
  | [d], S => match seqOf d with
    | some ds => S ds
    | none => False
  | _, _ => False
theorem cn_list {K : PySem.W.Frag} : CbN (rListS K) oList := fun {hs H xs ds S Q} l hx w q => by
  match ds, w with
  | [d], w =>
    obtain ⟨v, rfl, hv⟩ := dq1 hx
    have w' : (match seqOf d with | some ds => S ds | none => False) := w
    split at w'
    · rename_i es he
      obtain ⟨a, ys, rfl, hs1, h1⟩ := hv.seqOf (K := K) he
      exact ⟨a, ys, rfl, hs1 hid_same, fun p np => q p ys es w' np h1⟩
    · exact w'.elim
def oListD : OC := fun ds S => oList ds fun es => S (.list es)
theorem cb_list {K : PySem.W.Frag} : CbD (rListS K) oListD := cn_list.d
def oTuple : OC
  | [d], S => match seqOf d with
    | some ds => S (.tuple ds)
    | none => False
  | _, _ => False
theorem cb_tuple {K : PySem.W.Frag} : CbD (rTupS K) oTuple := fun {hs H xs ds S Q} l hx w q => by
  match ds, w with
  | [d], w =>
    obtain ⟨v, rfl, hv⟩ := dq1 hx
    cases hv <;> first | exact False.elim w | skip
    · rename_i a ys es e1 h1
      exact ⟨a, ys, rfl, .inl ⟨SqL.of (hid_some e1).2, fun p np => q _ _ _ w (Ex.new np) (.tup (by rw [hid_out (l.out np), upd_same]) (h1.mono (same_hid (Ex.new np))))⟩⟩
    · rename_i a ys es e1 h1
      exact ⟨a, ys, rfl, .inr ⟨SqT.of (hid_some e1).2, q _ _ H w (Same.refl _) (.tup e1 h1)⟩⟩
def oRepr : OC
  | [d], S => (okD d = true ∧ d.depth ≤ 40 ∧ wz d ≤ 1000000) ∧ S (.str d.shown)
  | _, _ => False
theorem cb_repr {K : PySem.W.Frag} : CbD (rReprD K) oRepr := fun {hs H xs ds S Q} l hx w q => by
  match ds, w with
  | [d], w =>
    obtain ⟨v, rfl, hv⟩ := dq1 hx
    exact ⟨v, d, rfl, (dq_vis hv).dp (noD_ok w.1.1), w.1.1, w.1.2.1, Nat.le_trans w.1.2.2 (by decide), q _ _ H w.2 (Same.refl _) (.str _)⟩
/-! isinstance -/
def wIs (f : PyData → Bool) (wa : WE) : WE := fun ε N R => wa ε N fun d N1 => R (.bool (f d)) N1
theorem sim_isi {K : PySem.W.Frag} {Ty : String} {f : PyData → Bool} (hk : ∀ d, kitB (tyN d) Ty = some (f d)) (ha : SimE ta wa) : SimE (tCB (rIsi K) (tCons ta (tCons (tC (.ty Ty)) tNil))) (wIs f wa) := fun rl w q => ha rl w fun v d N1 H1 w1 o1 hd =>
  ⟨v, .ty Ty, .type (tyN d), .type Ty, f d, rfl, .ty Ty, (dq_vis hd).ty, kit_ty (hk d), q _ _ N1 H1 w1 o1 (.bl _)⟩
theorem sim_isi2 {K : PySem.W.Frag} (ha : SimE ta wa) : SimE (tCB (rIsiT K) (tCons ta (tCons (tTup (tCons (tC (.ty "list")) (tCons (tC (.ty "tuple")) tNil))) tNil))) (wIs (fun d => isList d || isTuple d) wa) := fun rl w q => ha rl w fun v d N1 H1 w1 o1 hd =>
  ⟨by show 2 ≤ _; decide, fun p np => ⟨v, p, [.ty "list", .ty "tuple"], .type (tyN d), [.type "list", .type "tuple"], isList d || isTuple d, rfl, upd_same, .cons (.ty _) (.cons (.ty _) .nil), ((dq_vis hd).mono (Ex.new np)).ty, kit_two d, q _ _ N1 _ w1 (o1.ext (Ex.new np)) (.bl _)⟩⟩
/-! list(range(n)) -/
def wRgL (wa : WE) : WT := fun ε N R => wa ε N fun d N1 => match d with
  | .int n => (0 ≤ n ∧ n ≤ 100000) ∧ R (.lst ((List.range n.toNat).map fun (k : Nat) => T.sh (.int (k : Int)))) N1
  | _ => False
/-! slices -/
abbrev WO := Env → Nat → (Option Int → Nat → Prop) → Prop
def SimO (to : TO) (wo : WO) : Prop := ∀ {c : Base} {bs F : List Addr} {σ : L2.St} {H : Hp} {ε : Env} {N : Nat} {R : Option Int → Nat → Prop} {Q : Option Int → Hp → Prop}, Rel c bs F σ H ε N → wo ε N R → (∀ x N' H', R x N' → Out c H H' N' → Q x H') → to σ H Q
def wNoPart : WO := fun _ N R => R none N
def wPart (we : WE) : WO := fun ε N R => we ε N fun d N1 => match d with
  | .int i => R (some i) N1
  | _ => False
theorem sim_noPart : SimO tNoPart wNoPart := fun r w q => q _ _ _ w r.self
theorem sim_part (h : SimE te we) : SimO (tPart te) (wPart we) := fun r w q => h r w fun v d N1 H1 w1 o1 hd => by
  cases hd <;> first | exact False.elim w1 | exact ⟨_, rfl, q _ N1 H1 w1 o1⟩
def wSl (we : WE) (wl wh : WO) : WE := fun ε N R => we ε N fun d N1 => wl ε N1 fun lo N2 => wh ε N2 fun hi N3 => match d with
  | .list a => R (.list (cutG a lo hi)) N3
  | _ => False
def wSlT (we : WE) (wl wh : WO) : WT := fun ε N R => we ε N fun d N1 => wl ε N1 fun lo N2 => wh ε N2 fun hi N3 => match d with
  | .list a => R (.lst ((cutG a lo hi).map T.sh)) N3
  | _ => False
theorem sim_slT {K : PySem.W.Frag} {tl th : TO} {wl wh : WO} (h : SimE te we) (hl : SimO tl wl) (hh : SimO th wh) : SimT (tSl (rSlL K) te tl th) (wSlT we wl wh) := fun {c bs F σ H ε N R Q} r w q => h r w fun v d N1 H1 w1 o1 hd => hl (r.out o1) w1 fun lo N2 H2 w2 o2 => hh (r.out (o1.trans o2)) w2 fun hi N3 H3 w3 o3 => by
  have o := (o1.trans o2).trans o3
  have hd3 := out_dq (o2.trans o3) r.bin hd
  cases hd3 <;> first | exact False.elim w3 | skip
  rename_i a xs ds e1 h1
  exact ⟨a, xs, rfl, SqL.of (hid_some e1).2, fun p np => q _ _ [p] N3 _ w3 (o.ext (Ex.new np)) (Nw.shs o (h1.cut lo hi) np)⟩
theorem data_shs (ds : List PyData) : (T.lst (ds.map T.sh)).data = .list ds := by
  show PyData.list (T.datas (ds.map T.sh)) = _
  rw [datas_sh]
theorem sim_sl {K : PySem.W.Frag} {tl th : TO} {wl wh : WO} (h : SimE te we) (hl : SimO tl wl) (hh : SimO th wh) : SimE (tSl (rSlL K) te tl th) (wSl we wl wh) := fun {c bs F σ H ε N R Q} r w q => h r w fun v d N1 H1 w1 o1 hd => hl (r.out o1) w1 fun lo N2 H2 w2 o2 => hh (r.out (o1.trans o2)) w2 fun hi N3 H3 w3 o3 => by
  have o := (o1.trans o2).trans o3
  have hd3 := out_dq (o2.trans o3) r.bin hd
  cases hd3 <;> first | exact False.elim w3 | skip
  rename_i a xs ds e1 h1
  refine ⟨a, xs, rfl, SqL.of (hid_some e1).2, fun p np => ?_⟩
  have n : Nw bs [p] H _ (.ref p) (.lst ((cutG ds lo hi).map T.sh)) := Nw.shs o (h1.cut lo hi) np
  have o' := o.ext (Ex.new (o := .lst (cutV xs lo hi)) np)
  have := n.data r.live (out_notup o' r.live r.nt)
  rw [data_shs] at this
  exact q _ _ N3 _ w3 o' this
/-- xs[::-1] -/
def wRevT (we : WE) : WT := fun ε N R => we ε N fun d N1 => match d with
  | .list a => R (.lst (a.reverse.map T.sh)) N1
  | _ => False
theorem DqAll.rev {H : Hp} : ∀ {xs : List V} {ds : List PyData}, DqAll H xs ds → DqAll H xs.reverse ds.reverse
  | _, _, .nil => .nil
  | _, _, .cons h t => by
    rw [List.reverse_cons, List.reverse_cons]
    exact t.rev.append (.cons h .nil)
theorem sim_revT {K : PySem.W.Frag} (h : SimE te we) : SimT (tRevL K te) (wRevT we) := fun {c bs F σ H ε N R Q} r w q => h r w fun v d N1 H1 w1 o1 hd => by
  cases hd <;> first | exact False.elim w1 | skip
  rename_i a xs ds e1 h1
  exact ⟨a, xs, rfl, SqL.of (hid_some e1).2, fun p np => q _ _ [p] N1 _ w1 (o1.ext (Ex.new np)) (Nw.shs o1 h1.rev np)⟩
theorem sim_rgL (h : SimE te we) : SimT (tLstRg (tRg1 te)) (wRgL we) := fun {c bs F σ H ε N R Q} r w q => h r w fun v d N1 H1 w1 o1 hd => by
  cases hd <;> first | exact False.elim w1 | skip
  rename_i n
  obtain ⟨⟨h1, h2⟩, w2⟩ := w1
  refine ⟨n, rfl, RgOk.of_le (by omega) (by omega) (by omega) h1, fun p np => ?_⟩
  have hx : ∀ m : Nat, DqAll (hid bs H1) ((List.range m).map fun i => V.int ((0 : Int) + (i : Nat))) ((List.range m).map fun (i : Nat) => PyData.int (i : Int)) := fun m => by
    induction m with
    | zero => exact .nil
    | succ m ih =>
      rw [List.range_succ, List.map_append, List.map_append]
      refine ih.append (.cons ?_ .nil)
      show Dq (hid bs H1) (V.int ((0 : Int) + ((m : Nat) : Int))) (PyData.int ((m : Nat) : Int))
      rw [Int.zero_add]
      exact .int _
  have h3 := hx (n - 0).toNat
  have e : (n - 0).toNat = n.toNat := by omega
  have n1 : Nw bs [p] H _ (.ref p) (.lst (((List.range (n - 0).toNat).map fun (i : Nat) => PyData.int (i : Int)).map T.sh)) := Nw.shs o1 h3 np
  rw [e, List.map_map] at n1
  exact q _ _ [p] N1 _ w2 (o1.ext (Ex.new np)) (by rw [show rgV 0 n = (List.range (n - 0).toNat).map (fun i => V.int ((0 : Int) + (i : Nat))) from rfl, e]; exact n1)
/-! methods that tell something -/
def BmD (r : V → List V → Hp → VK → Prop) (o : PyData → List PyData → (PyData → Prop) → Prop) : Prop := ∀ {hs : List Addr} {H : Hp} {x : V} {xs : List V} {d : PyData} {ds : List PyData} {S : PyData → Prop} {Q : VK}, Live hs H → Dq (hid hs H) x d → DqAll (hid hs H) xs ds → o d ds S → (∀ z f H', S f → Same H H' → Dq (hid hs H') z f → Q z H') → r x xs H Q
def wBm (o : PyData → List PyData → (PyData → Prop) → Prop) (wa : WE) (was : WA) : WE := fun ε N R => wa ε N fun d N1 => was ε N1 fun ds N2 => o d ds fun f => R f N2
theorem tyV_dq {K : PySem.W.Frag} {H : Hp} {v : V} {d : PyData} (h : Dq H v d) (hl : isList d = true) : tyV K "list" v H := by
  cases h <;> first | cases hl | skip
  rename_i e1 h1
  exact .inl ⟨rfl, _, SqL.of e1⟩
def wBmL (o : PyData → List PyData → (PyData → Prop) → Prop) (wa : WE) (was : WA) : WE := fun ε N R => wa ε N fun d N1 => isList d = true ∧ was ε N1 fun ds N2 => o d ds fun f => R f N2
theorem sim_bmL {K : PySem.W.Frag} {r : V → List V → Hp → VK → Prop} {o : PyData → List PyData → (PyData → Prop) → Prop} (ho : BmD r o) (ha : SimE ta wa) (hs : SimA tas was) : SimE (tBM K "list" r ta tas) (wBmL o wa was) := fun rl w q => ha rl w fun v d N1 H1 w1 o1 hd =>
  ⟨tyV_dq (dq_vis hd) w1.1, hs (rl.out o1) w1.2 fun vs ds N2 H2 w2 o2 hds => ho (out_live (o1.trans o2) rl.live) (out_dq o2 rl.bin hd) hds w2 fun z f H3 hS e3 hz => q z f N2 H3 hS ((o1.trans o2).ext e3) hz⟩
/-! ### a reading that is one of two -/
def tEither (t u : TE) : TE := fun σ H Q => t σ H Q ∨ u σ H Q
theorem pe_either {X : Cx} {e : Expr} {t u : TE} (h : PE X e t) (k : PE X e u) : PE X e (tEither t u) := ⟨fun pins s σ H Q I w => w.elim (h.run pins s σ H Q I) (k.run pins s σ H Q I)⟩
def wEither (w w' : WE) : WE := fun ε N R => w ε N R ∨ w' ε N R
theorem sim_either {w w' : WE} (h : SimE ta w) (k : SimE tb w') : SimE (tEither ta tb) (wEither w w') := fun r ww q => ww.elim (fun x => .inl (h r x q)) fun x => .inr (k r x q)
end
end Cg

set_option Elab.async false
set_option linter.all false
set_option maxRecDepth 100000
set_option maxHeartbeats 1000000
namespace Cg
open PySem PySem.Spec PyProof.Rows L2 Evl
/-! ### what is walked -/
structure Yl (hs : List Addr) (J : It) (ds : List PyData) (H : Hp) : Prop where
  go : ∀ k H' gs, k < ds.length → Same (hid hs H) (hid gs H') → J.go k H'
  stop : ∀ H' gs, Same (hid hs H) (hid gs H') → J.stop ds.length H'
  yld : ∀ k x H' H'' gs, k < ds.length → Same (hid hs H) (hid gs H') → Live gs H' → J.yld k H' x H'' → Same H' H'' ∧ ∃ d, ds[k]? = some d ∧ Dq (hid gs H'') x d
abbrev WI := Env → Nat → (List PyData → Nat → Prop) → Prop
def SimI (ti : TI) (wi : WI) : Prop := ∀ {c : Base} {bs F : List Addr} {σ : L2.St} {H : Hp} {ε : Env} {N : Nat} {R : List PyData → Nat → Prop} {Q : It → Hp → Prop}, Rel c bs F σ H ε N → wi ε N R → (∀ J ds N' H', R ds N' → Out c H H' N' → Yl bs J ds H' → Q J H') → ti σ H Q
section
variable {ta tb tc te : TE} {wa wb wc we : WE} {t u : TT} {w w' : WB} {tas : TA} {was : WA} {c : Base} {bs F A B hs : List Addr} {σ : L2.St} {H H1 H2 H' : Hp} {ε : Env} {N N1 N2 : Nat}
theorem yl_lt {xs : List V} {ds : List PyData} {k : Nat} (h : DqAll H xs ds) (hk : k < ds.length) : ∃ x, xs[k]? = some x := ⟨_, List.getElem?_eq_getElem (by rw [h.len]; exact hk)⟩
theorem yl_list {K : PySem.W.Frag} {a : Addr} {xs : List V} {ds : List PyData} (e : hid hs H a = some (.lst xs)) (h : DqAll (hid hs H) xs ds) : Yl hs (Itl K a) ds H := by
  have at' : ∀ H' gs, Same (hid hs H) (hid gs H') → SqL K H' a xs := fun H' gs k => SqL.of (hid_some (k _ _ e)).2
  refine ⟨fun k H' gs hk kp => ?_, fun H' gs kp => ⟨xs, at' H' gs kp, by rw [h.len]; exact Nat.le_refl _⟩, fun k x H' H'' gs hk kp _ y => ?_⟩
  · obtain ⟨x, hx⟩ := yl_lt h hk
    exact ⟨xs, x, at' H' gs kp, hx⟩
  · obtain ⟨rfl, hx⟩ := y
    obtain ⟨d, h1, h2⟩ := h.get (hx xs (at' _ gs kp))
    exact ⟨Same.refl _, d, h1, h2.mono kp⟩
theorem yl_tup {K : PySem.W.Frag} {a : Addr} {xs : List V} {ds : List PyData} (e : hid hs H a = some (.tup xs)) (h : DqAll (hid hs H) xs ds) : Yl hs (Itt K a) ds H := by
  have at' : ∀ H' gs, Same (hid hs H) (hid gs H') → SqT K H' a xs := fun H' gs k => SqT.of (hid_some (k _ _ e)).2
  refine ⟨fun k H' gs hk kp => ?_, fun H' gs kp => ⟨xs, at' H' gs kp, by rw [h.len]; exact Nat.le_refl _⟩, fun k x H' H'' gs hk kp _ y => ?_⟩
  · obtain ⟨x, hx⟩ := yl_lt h hk
    exact ⟨xs, x, at' H' gs kp, hx⟩
  · obtain ⟨rfl, hx⟩ := y
    obtain ⟨d, h1, h2⟩ := h.get (hx xs (at' _ gs kp))
    exact ⟨Same.refl _, d, h1, h2.mono kp⟩
/-- for x in a list or a tuple -/
def iSeq (K : PySem.W.Frag) (tl : TE) : TI := fun σ H R => tl σ H fun x H1 => ∃ a, x = .ref a ∧ (((∃ xs, SqL K H1 a xs) ∧ R (Itl K a) H1) ∨ ((∃ xs, SqT K H1 a xs) ∧ R (Itt K a) H1))
theorem pi_seq {X : Cx} (K : PySem.W.Frag) {tg l : Expr} {tl : TE} (hl : PE X l tl) (hK : X.K = K := by rfl) : PI X tg l (iSeq K tl) := by
  subst hK
  refine ⟨fun pins s σ H R I h => ?_⟩
  refine thn (hl.run pins s σ H _ I h) fun v s1 ⟨x, H1, I1, r1, q1⟩ => ?_
  obtain ⟨a, e, ⟨⟨xs, hq⟩, q⟩ | ⟨⟨xs, hq⟩, q⟩⟩ := q1
  · subst e
    cases r1
    obtain ⟨its, rv, p, hz⟩ := I1.list hq
    refine wpAny_pyIter_list p.isList ?_
    refine ⟨s1.heap.objs.size, [s1.heap.objs.size], _, _, H1, rfl, I1.kept (t' := s1.toks) fun b o e => Heap.get?_push_of_some _ e, turn_list a _, ⟨_, Heap.get?_push_size _ rfl, rfl, rfl⟩, fun b hb => ?_, q⟩
    have e : b = s1.heap.objs.size := by simpa using hb
    subst e
    exact I1.fpOk (Nat.le_refl _) (I1.hok.fresh (Nat.le_refl _))
  · subst e
    cases r1
    obtain ⟨its, rv, p, hz⟩ := I1.tuple hq
    refine wpAny_pyIter_tuple (show s1.heap.IsTuple a its.toArray from p) ?_
    refine ⟨s1.heap.objs.size, [s1.heap.objs.size], _, _, H1, rfl, I1.kept (t' := s1.toks) fun b o e => Heap.get?_push_of_some _ e, turn_tuple a _, ⟨_, Heap.get?_push_size _ rfl, rfl, rfl⟩, fun b hb => ?_, q⟩
    have e : b = s1.heap.objs.size := by simpa using hb
    subst e
    exact I1.fpOk (Nat.le_refl _) (I1.hok.fresh (Nat.le_refl _))
def wIt (we : WE) : WI := fun ε N R => we ε N fun d N1 => match seqOf d with
  | some ds => R ds N1
  | none => False
theorem sim_it {K : PySem.W.Frag} (h : SimE te we) : SimI (iSeq K te) (wIt we) := fun {c bs F σ H ε N R Q} r w q => h r w fun v d N1 H1 w1 o1 hd => by
  cases hd <;> first | exact False.elim w1 | skip
  · rename_i a xs ds e1 h1
    exact ⟨a, rfl, .inl ⟨⟨xs, SqL.of (hid_some e1).2⟩, q _ _ N1 H1 w1 o1 (yl_list e1 h1)⟩⟩
  · rename_i a xs ds e1 h1
    exact ⟨a, rfl, .inr ⟨⟨xs, SqT.of (hid_some e1).2⟩, q _ _ N1 H1 w1 o1 (yl_tup e1 h1)⟩⟩
def rngD (lo : Int) (n : Nat) : List PyData := (List.range n).map fun (k : Nat) => PyData.int (lo + (k : Int))
theorem rngD_len (lo : Int) (n : Nat) : (rngD lo n).length = n := by unfold rngD; rw [List.length_map, List.length_range]
theorem rngD_at {lo : Int} {n k : Nat} (h : k < n) : (rngD lo n)[k]? = some (.int (lo + (k : Int))) := by
  unfold rngD
  rw [List.getElem?_map, List.getElem?_range h]
  rfl
theorem rng_get {lo : Int} {n k : Nat} {d : PyData} (h : (rngD lo n)[k]? = some d) : k < n ∧ d = .int (lo + (k : Int)) := by
  have hk : k < n := by
    have := (List.getElem?_eq_some_iff.mp h).1
    rw [rngD_len] at this
    exact this
  rw [rngD_at hk] at h
  exact ⟨hk, (Option.some.inj h).symm⟩
theorem yl_rng (lo : Int) (n : Nat) : Yl hs (Itr lo n) (rngD lo n) H := by
  refine ⟨fun k H' _ hk _ => by rw [rngD_len] at hk; exact hk, fun H' _ _ => by rw [rngD_len]; exact Nat.le_refl _, fun k x H' H'' _ hk _ _ y => ?_⟩
  rw [rngD_len] at hk
  obtain ⟨rfl, rfl⟩ := y
  exact ⟨Same.refl _, _, rngD_at hk, .int _⟩
/-- range(n), range(a, b) -/
def wRng (was : WA) : WI := fun ε N R => was ε N fun ds N1 => match ds with
  | [.int n] => n ≤ 1000000 ∧ R (rngD 0 n.toNat) N1
  | [.int a, .int b] => (-1000000 ≤ a ∧ a ≤ 1000000 ∧ b ≤ 1000000) ∧ R (rngD a (b - a).toNat) N1
  | _ => False
theorem sim_rng1 (h : SimE te we) : SimI (iRng1 (tCons te tNil)) (fun ε N R => we ε N fun d N1 => match d with
    | .int n => (-1000000 ≤ n ∧ n ≤ 1000000) ∧ R (rngD 0 n.toNat) N1
    | _ => False) := fun {c bs F σ H ε N R Q} r w q => h r w fun v d N1 H1 w1 o1 hd => by
  cases hd <;> first | exact False.elim w1 | skip
  obtain ⟨⟨h1, h2⟩, w2⟩ := w1
  exact ⟨_, rfl, by omega, by omega, q _ _ N1 H1 w2 o1 (yl_rng 0 _)⟩
def wRng1 (we : WE) : WI := fun ε N R => we ε N fun d N1 => match d with
  | .int n => (-1000000 ≤ n ∧ n ≤ 1000000) ∧ R (rngD 0 n.toNat) N1
  | _ => False
theorem sim_r1 (h : SimE te we) : SimI (iRng1 (tCons te tNil)) (wRng1 we) := sim_rng1 h
def wRng2 (wa wb : WE) : WI := fun ε N R => wa ε N fun d N1 => wb ε N1 fun e N2 => match d, e with
  | .int a, .int b => (-1000000 ≤ a ∧ a ≤ 1000000 ∧ -1000000 ≤ b ∧ b ≤ 1000000) ∧ R (rngD a (b - a).toNat) N2
  | _, _ => False
theorem sim_r2 (ha : SimE ta wa) (hb : SimE tb wb) : SimI (iRng2 (tCons ta (tCons tb tNil))) (wRng2 wa wb) := fun {c bs F σ H ε N R Q} r w q => ha r w fun v d N1 H1 w1 o1 hd => hb (r.out o1) w1 fun u e N2 H2 w2 o2 he => by
  cases hd <;> first | (cases he <;> exact False.elim w2) | skip
  cases he <;> first | exact False.elim w2 | skip
  obtain ⟨h1, w3⟩ := w2
  exact ⟨_, _, rfl, by omega, q _ _ N2 H2 w3 (o1.trans o2) (yl_rng _ _)⟩
/-- enumerate(xs) -/
def enumD (ds : List PyData) : List PyData := ds.mapIdx fun k d => .tuple [.int (k : Nat), d]
theorem enumD_len (ds : List PyData) : (enumD ds).length = ds.length := List.length_mapIdx
theorem enumD_at {ds : List PyData} {k : Nat} {d : PyData} (h : ds[k]? = some d) : (enumD ds)[k]? = some (.tuple [.int (k : Nat), d]) := by
  unfold enumD
  rw [List.getElem?_mapIdx, h]
  rfl
def wEnum (we : WE) : WI := fun ε N R => we ε N fun d N1 => match seqOf d with
  | some ds => R (enumD ds) N1
  | none => False
theorem yl_enum {K : PySem.W.Frag} {kd : Bool} {a : Addr} {xs : List V} {ds : List PyData} (hq : ∀ H' gs, Same (hid hs H) (hid gs H') → SqK kd K H' a xs) (h : DqAll (hid hs H) xs ds) : Yl hs (ItE K kd a xs) (enumD ds) H := by
  have hl := h.len
  refine ⟨fun k H' gs hk kp => ⟨hq H' gs kp, by rw [enumD_len] at hk; rw [hl]; exact hk⟩, fun H' gs kp => ⟨hq H' gs kp, by rw [enumD_len, hl]; exact Nat.le_refl _⟩, fun k x H' H'' gs hk kp lv y => ?_⟩
  obtain ⟨T, rfl, hT, rfl⟩ := y
  rw [enumD_len] at hk
  have hx : xs[k]? = some (xs.getD k .non) := by rw [List.getD_eq_getElem?_getD, List.getElem?_eq_getElem (by rw [hl]; exact hk)]; rfl
  obtain ⟨d, h1, h2⟩ := h.get hx
  refine ⟨Ex.new hT, _, enumD_at h1, .tup (by rw [hid_out (lv.out hT), upd_same]) (.cons (.int _) (.cons ?_ .nil))⟩
  exact (h2.mono kp).mono (same_hid (Ex.new hT))
theorem sim_enum {K : PySem.W.Frag} (h : SimE te we) : SimI (iEnumK K (tCons te tNil)) (wEnum we) := fun {c bs F σ H ε N R Q} r w q => h r w fun v d N1 H1 w1 o1 hd => by
  cases hd <;> first | exact False.elim w1 | skip
  · rename_i a xs ds e1 h1
    exact ⟨true, a, xs, rfl, SqL.of (hid_some e1).2, q _ _ N1 H1 w1 o1 (yl_enum (fun H' gs kp => SqL.of (hid_some (kp _ _ e1)).2) h1)⟩
  · rename_i a xs ds e1 h1
    exact ⟨false, a, xs, rfl, SqT.of (hid_some e1).2, q _ _ N1 H1 w1 o1 (yl_enum (fun H' gs kp => SqT.of (hid_some (kp _ _ e1)).2) h1)⟩
/-- zip of two lists, of two tuples -/
def zipD (ds es : List PyData) : List PyData := (ds.zip es).map fun p => .tuple [p.1, p.2]
theorem zipD_len (ds es : List PyData) : (zipD ds es).length = min ds.length es.length := by unfold zipD; rw [List.length_map, List.length_zip]
def sameKind : PyData → PyData → Option (List PyData × List PyData)
  | .list a, .list b => some (a, b)
  | .tuple a, .tuple b => some (a, b)
  | _, _ => none
def wZip (wa wb : WE) : WI := fun ε N R => wa ε N fun d N1 => wb ε N1 fun e N2 => match sameKind d e with
  | some (ds, es) => R (zipD ds es) N2
  | none => False
theorem yl_zip {K : PySem.W.Frag} {J : It} {xs ys : List V} {ds es : List PyData} (h : DqAll (hid hs H) xs ds) (h' : DqAll (hid hs H) ys es)
    (hgo : ∀ k H' gs x y, xs[k]? = some x → ys[k]? = some y → Same (hid hs H) (hid gs H') → J.go k H') (hst : ∀ k H' gs, (xs.length ≤ k ∨ ys.length ≤ k) → Same (hid hs H) (hid gs H') → J.stop k H')
    (hy : ∀ k H' z H'' gs, Same (hid hs H) (hid gs H') → J.yld k H' z H'' → ∃ T x y, z = .ref T ∧ H' T = none ∧ H'' = upd H' T (.tup [x, y]) ∧ xs[k]? = some x ∧ ys[k]? = some y) : Yl hs J (zipD ds es) H := by
  have hl := h.len
  have hl' := h'.len
  refine ⟨fun k H' gs hk kp => ?_, fun H' gs kp => ?_, fun k x H' H'' gs hk kp lv y => ?_⟩
  · rw [zipD_len] at hk
    exact hgo k H' gs _ _ (List.getElem?_eq_getElem (by omega)) (List.getElem?_eq_getElem (by omega)) kp
  · rw [zipD_len]
    exact hst _ H' gs (by omega) kp
  · obtain ⟨T, x1, y1, rfl, hT, rfl, gx, gy⟩ := hy k H' x H'' gs kp y
    obtain ⟨d, h1, h2⟩ := h.get gx
    obtain ⟨e, h3, h4⟩ := h'.get gy
    refine ⟨Ex.new hT, .tuple [d, e], ?_, .tup (by rw [hid_out (lv.out hT), upd_same]) (.cons ((h2.mono kp).mono (same_hid (Ex.new hT))) (.cons ((h4.mono kp).mono (same_hid (Ex.new hT))) .nil))⟩
    unfold zipD
    rw [List.getElem?_map, (List.getElem?_zip_eq_some (z := (d, e))).mpr ⟨h1, h3⟩]
    rfl
theorem sim_zip {K : PySem.W.Frag} (ha : SimE ta wa) (hb : SimE tb wb) : SimI (RZ.iZipA K (tCons ta (tCons tb tNil))) (wZip wa wb) := fun {c bs F σ H ε N R Q} r w q => ha r w fun v d N1 H1 w1 o1 hd => hb (r.out o1) w1 fun u e N2 H2 w2 o2 he => by
  have hd2 := out_dq o2 r.bin hd
  cases hd2 <;> first | (cases he <;> exact False.elim w2) | skip
  · cases he <;> first | exact False.elim w2 | skip
    rename_i a xs ds e1 h1 a2 ys es e2 h2
    refine ⟨a, a2, xs, ys, rfl, .inl ⟨SqL.of (hid_some e1).2, SqL.of (hid_some e2).2, q _ _ N2 H2 w2 (o1.trans o2) (yl_zip (K := K) h1 h2 (fun k H' gs x y gx gy kp => ?_) (fun k H' gs hh kp => ?_) fun k H' z H'' gs kp y => ?_)⟩⟩
    · exact ⟨xs, ys, x, y, SqL.of (hid_some (kp _ _ e1)).2, SqL.of (hid_some (kp _ _ e2)).2, gx, gy⟩
    · exact ⟨xs, ys, SqL.of (hid_some (kp _ _ e1)).2, SqL.of (hid_some (kp _ _ e2)).2, hh⟩
    · obtain ⟨T, x, y, q1, q2, q3, q4, q5⟩ := y
      exact ⟨T, x, y, q1, q2, q3, q4 xs (SqL.of (hid_some (kp _ _ e1)).2), q5 ys (SqL.of (hid_some (kp _ _ e2)).2)⟩
  · cases he <;> first | exact False.elim w2 | skip
    rename_i a xs ds e1 h1 a2 ys es e2 h2
    refine ⟨a, a2, xs, ys, rfl, .inr ⟨SqT.of (hid_some e1).2, SqT.of (hid_some e2).2, q _ _ N2 H2 w2 (o1.trans o2) (yl_zip (K := K) h1 h2 (fun k H' gs x y gx gy kp => ?_) (fun k H' gs hh kp => ?_) fun k H' z H'' gs kp y => ?_)⟩⟩
    · exact ⟨xs, ys, x, y, SqT.of (hid_some (kp _ _ e1)).2, SqT.of (hid_some (kp _ _ e2)).2, gx, gy⟩
    · exact ⟨xs, ys, SqT.of (hid_some (kp _ _ e1)).2, SqT.of (hid_some (kp _ _ e2)).2, hh⟩
    · obtain ⟨T, x, y, q1, q2, q3, q4, q5⟩ := y
      exact ⟨T, x, y, q1, q2, q3, q4 xs (SqT.of (hid_some (kp _ _ e1)).2), q5 ys (SqT.of (hid_some (kp _ _ e2)).2)⟩
theorem wipe_get (σ : L2.St) (i : Nat) : ∀ vs : List Nat, (L2.wipe σ vs)[i]? = if i ∈ vs then σ[i]?.map (fun _ => none) else σ[i]?
  | [] => by simp [L2.wipe]
  | v :: vs => by
    show ((L2.wipe σ vs).set v none)[i]? = _
    rw [List.getElem?_set]
    have ih := wipe_get σ i vs
    by_cases h : v = i
    · subst h
      rw [if_pos rfl, if_pos (List.mem_cons_self ..), wipe_length]
      cases e : σ[v]? with
      | none => rw [if_neg (by have := List.getElem?_eq_none_iff.mp e; omega)]; rfl
      | some x => rw [if_pos (List.getElem?_eq_some_iff.mp e).1]; rfl
    · rw [if_neg h, ih]
      by_cases h2 : i ∈ vs
      · rw [if_pos h2, if_pos (List.mem_cons_of_mem _ h2)]
      · rw [if_neg h2, if_neg (fun z => (List.mem_cons.mp z).elim (fun e => h e.symm) h2)]
theorem wipe_set {σ : L2.St} {j : Nat} {x : Option V} {vs : List Nat} (h : j ∈ vs) : L2.wipe (σ.set j x) vs = L2.wipe σ vs := by
  apply List.ext_getElem?
  intro i
  rw [wipe_get, wipe_get]
  by_cases hi : i ∈ vs
  · rw [if_pos hi, if_pos hi]
    rw [List.getElem?_set]
    by_cases h2 : j = i
    · subst h2
      rw [if_pos rfl]
      cases e : σ[j]? with
      | none => rw [if_neg (by have := List.getElem?_eq_none_iff.mp e; omega)]
      | some y => rw [if_pos (List.getElem?_eq_some_iff.mp e).1]; rfl
    · rw [if_neg h2]
  · rw [if_neg hi, if_neg hi, List.getElem?_set, if_neg (fun (z : j = i) => hi (z ▸ h))]
theorem wipe_wipe (σ : L2.St) (vs : List Nat) : L2.wipe (L2.wipe σ vs) vs = L2.wipe σ vs := by
  apply List.ext_getElem?
  intro i
  rw [wipe_get, wipe_get]
  by_cases hi : i ∈ vs
  · rw [if_pos hi, if_pos hi]
    cases σ[i]? <;> rfl
  · rw [if_neg hi, if_neg hi]
/-! ### targets, given what is shared; their names are among vs -/
abbrev WG := PyData → Env → (Env → Prop) → Prop
abbrev WGs := List PyData → Env → (Env → Prop) → Prop
def SimG (vs : List Nat) (g : TG) (wg : WG) : Prop := ∀ {c : Base} {bs F : List Addr} {σ : L2.St} {H : Hp} {ε : Env} {N : Nat} {v : V} {d : PyData} {R : Env → Prop} {Q : L2.St → Hp → Prop}, Rel c bs F σ H ε N → Dq (hid bs H) v d → wg d ε R → (∀ F' σ' ε', Rel c bs F' σ' H ε' N → L2.wipe σ' vs = L2.wipe σ vs → R ε' → Q σ' H) → g v σ H Q
def SimGs (vs : List Nat) (g : TGs) (wg : WGs) : Prop := ∀ {c : Base} {bs F : List Addr} {σ : L2.St} {H : Hp} {ε : Env} {N : Nat} {us : List V} {ds : List PyData} {R : Env → Prop} {Q : L2.St → Hp → Prop}, Rel c bs F σ H ε N → DqAll (hid bs H) us ds → wg ds ε R → (∀ F' σ' ε', Rel c bs F' σ' H ε' N → L2.wipe σ' vs = L2.wipe σ vs → R ε' → Q σ' H) → g us σ H Q
def wName (i : Nat) : WG := fun d ε R => R (ε.set i (.is (.sh d)))
def wGNil : WGs := fun ds ε R => ds = [] ∧ R ε
def wGCons (g : WG) (gs : WGs) : WGs := fun ds ε R => match ds with
  | d :: r => g d ε fun ε' => gs r ε' R
  | [] => False
def wGTup (n : Nat) (gs : WGs) : WG := fun d ε R => match d with
  | .tuple ds => ds.length = n ∧ gs ds ε R
  | _ => False
variable {vs : List Nat}
theorem sim_name {i : Nat} (hi : i ∈ vs) : SimG vs (gName i) (wName i) := fun {c bs F σ H ε N v d R Q} r hd w q => by
  obtain ⟨F', r'⟩ := r.set (i := i) r.self (Nw.sh (H := H) hd)
  exact q F' _ _ r' (wipe_set hi) w
theorem sim_gnil : SimGs vs gNil wGNil := fun {c bs F σ H ε N us ds R Q} r hd w q => by
  obtain ⟨rfl, w⟩ := w
  cases hd
  exact ⟨rfl, q _ _ _ r rfl w⟩
theorem sim_gcons {g : TG} {gs : TGs} {wg : WG} {wgs : WGs} (h : SimG vs g wg) (k : SimGs vs gs wgs) : SimGs vs (gCons g gs) (wGCons wg wgs) := fun {c bs F σ H ε N us ds R Q} r hd w q => by
  cases hd with
  | nil => exact w.elim
  | cons h1 t1 => exact ⟨_, _, rfl, h r h1 w fun F' σ' ε' r' e' w' => k r' t1 w' fun F2 σ2 ε2 r2 e2 w2 => q F2 σ2 ε2 r2 (e2.trans e') w2⟩
theorem sim_gtup {K : PySem.W.Frag} {n : Nat} {gs : TGs} {wgs : WGs} (k : SimGs vs gs wgs) : SimG vs (gTup K n gs) (wGTup n wgs) := fun {c bs F σ H ε N v d R Q} r hd w q => by
  cases hd <;> first | exact False.elim w | skip
  rename_i a xs ds e1 h1
  exact ⟨a, xs, rfl, SqT.of (hid_some e1).2, by rw [h1.len]; exact w.1, k r h1 w.2 q⟩
/-! ### comprehensions -/
def wipeE (ε : Env) : List Nat → Env
  | [] => ε
  | v :: vs => (wipeE ε vs).set v .no
theorem set_no (r : Rel c bs F σ H ε N) (i : Nat) (x : Option V) : ∃ F', Rel c bs F' (σ.set i x) H (ε.set i .no) N := by
  cases hl : ε[i]? with
  | none =>
    have hs : σ[i]? = none := by
      rw [List.getElem?_eq_none_iff] at hl ⊢
      rw [r.env.len]
      exact hl
    rw [set_beyond hl, set_beyond hs]
    exact ⟨F, r⟩
  | some l =>
    obtain ⟨y, A0, F1, F2, q1, q2, rfl, q4⟩ := r.env.at hl
    have hm : ∀ a ∈ F1 ++ ([] ++ F2), a ∈ F1 ++ (A0 ++ F2) := fun a ha => by
      rcases List.mem_append.mp ha with h | h
      · exact List.mem_append_left _ h
      · exact List.mem_append_right _ (List.mem_append_right _ h)
    exact ⟨F1 ++ ([] ++ F2), q4 r.nt (Same.refl _) (fun _ _ _ e => e) .no, nodup_mid r.nd List.nodup_nil (fun _ z => nomatch z), fun a ha => r.sub a (hm a ha), fun a ha => r.off a (hm a ha), fun a ha => r.nb a (hm a ha), r.up, r.bb, r.offb, r.live, r.nt, r.box, r.pin, r.vis⟩
theorem rel_wipe (r : Rel c bs F σ H ε N) (vs : List Nat) : ∃ F', Rel c bs F' (L2.wipe σ vs) H (wipeE ε vs) N := by
  induction vs with
  | nil => exact ⟨F, r⟩
  | cons v vs ih =>
    obtain ⟨F', r'⟩ := ih
    exact set_no r' v none
theorem RepL.snoc' {us : List V} {ts : List T} {v : V} {t : T} {cs : List Addr} (rw1 : Rel c (A ++ cs) F σ H1 ε N1) (ra : RepL (A ++ cs) H1 us ts A) (nd : A.Nodup) (nb : ∀ a ∈ A, a ∉ c.b) (k : Out c H1 H2 N2) (q : Nw (A ++ cs) B H1 H2 v t) : RepL (A ++ B ++ cs) H2 (us ++ [v]) (ts ++ [t]) (A ++ B) ∧ (A ++ B).Nodup := by
  have hAB := side (own_some ra.own) q.new
  have e1 : Same (hid (A ++ cs) H1) (hid (A ++ B ++ cs) H2) := fun a o e => by
    have := vis_step (bs := A ++ cs) k rw1.bin q.new a o e
    obtain ⟨h1, h2⟩ := hid_some this
    rw [hid_out fun z => h1 (mem3 z)]
    exact h2
  have ra' : RepL (A ++ B ++ cs) H2 us ts A := RepL.chg rw1.nt e1 (fun a ha o e => out_get k (nb a ha) e) ra
  have r2 := rw1.hide k q.new q.rep.own
  have rb : Rep (A ++ B ++ cs) H2 v t B := Rep.perm r2.nt (fun a z => mem3 z) q.rep
  exact ⟨ra'.append (RepL.one rb), nodup_app nd q.nd hAB⟩
theorem out_none {a : Addr} (o : Out c H H1 N1) (e : H1 a = none) : H a = none := by
  by_cases hb : a ∈ c.b
  · exact absurd e (o.box a hb).is
  · cases e2 : H a with
    | none => rfl
    | some x => rw [out_get o hb e2] at e; cases e
/-- [e for x in .. if ..], each one its own -/
def wLcT (wi : WI) (wg : WG) (wt : WB) (w : WT) (vs : List Nat) : WT := fun ε N R => wi ε N fun ds N1 => ds.length ≤ 40000 ∧ ∃ I : Nat → List T → Nat → Prop, I 0 [] N1 ∧
  (∀ k d ts M, ds[k]? = some d → I k ts M → wg d (wipeE ε vs) fun ε2 => wt ε2 M fun b M2 => match b with
    | true => w ε2 M2 fun t M3 => I (k + 1) (ts ++ [t]) M3
    | false => I (k + 1) ts M2) ∧ ∀ ts M, I ds.length ts M → R (.lst ts) M
theorem sim_lcT {ti : TI} {wi : WI} {g : TG} {wg : WG} {tt : TT} {wt : WB} {te : TE} {w : WT} (hi : SimI ti wi) (hg : SimG vs g wg) (ht : SimB tt wt) (he : SimT te w) : SimT (tLc ti g tt te vs) (wLcT wi wg wt w vs) := fun {c bs F σ H ε N R Q} r ww q => hi r ww fun J ds N1 H1 w1 o1 Y D nD => by
  obtain ⟨hz, I, i0, step, fin⟩ := w1
  have r1 := r.out o1
  have Dbs : D ∉ bs := r1.live.out nD
  have Db : D ∉ c.b := fun z => Dbs (r.bin D z)
  -- what stands at each turn
  let Pv : Nat → Hp → Prop := fun k H' => ∃ (acc : List V) (ts : List T) (A : List Addr) (M : Nat), H' D = some (.lst acc) ∧ I k ts M ∧ ts.length ≤ k ∧ Out c H1 H' M ∧ RepL (A ++ (D :: bs)) H' acc ts A ∧ A.Nodup ∧ (∀ a ∈ A, H1 a = none) ∧ D ∉ A
  have world : ∀ {k : Nat} {H' : Hp} {acc : List V} {ts : List T} {A : List Addr} {M : Nat}, H' D = some (.lst acc) → Out c H1 H' M → RepL (A ++ (D :: bs)) H' acc ts A → (∀ a ∈ A, H1 a = none) → Rel c (A ++ (D :: bs)) F σ H' ε M := fun {k H' acc ts A M} hD o ra hn => by
    have := r1.hide (A := A ++ [D]) o (fun a ha => (List.mem_append.mp ha).elim (hn a) fun h => by rw [List.mem_singleton.mp h]; exact nD) (fun a ha => (List.mem_append.mp ha).elim (ra.own a) fun h => by rw [List.mem_singleton.mp h]; exact own_lst hD)
    rw [List.append_assoc] at this
    exact this
  have vis : ∀ {H' : Hp} {A : List Addr} {M : Nat}, Out c H1 H' M → (∀ a ∈ A, H1 a = none) → Same (hid bs H1) (hid (A ++ (D :: bs)) H') := fun {H' A M} o hn => by
    have := vis_step (bs := bs) (B := A ++ [D]) o r.bin (fun a ha => (List.mem_append.mp ha).elim (hn a) fun h => by rw [List.mem_singleton.mp h]; exact nD)
    rw [List.append_assoc] at this
    exact this
  refine it_by (J := J) (n := ds.length) (Body := fun x H' Nx => g x (L2.wipe σ vs) H' fun σ2 H2 => L2.wipe σ2 vs = L2.wipe σ vs ∧ tt σ2 H2 fun b H3 => if b = true then te σ2 H3 fun y H4 => ∃ acc, H4 D = some (.lst acc) ∧ acc.length < sizeLine ∧ Nx (upd H4 D (.lst (acc ++ [y]))) else Nx H3)
    Pv ⟨[], [], [], N1, upd_same, i0, Nat.le_refl _, ⟨(Keep.refl _ _).new nD, fun a ha => (r1.box a ha).upd nD⟩, .nil, List.nodup_nil, (fun _ z => nomatch z), List.not_mem_nil⟩
    (fun k H' hk hP => ?_) (fun H' hP => ?_) (fun k x H' H'' hk hP hy => ?_) (fun H' hP => ?_)
  · obtain ⟨acc, ts, A, M, hD, hI, hl, o, ra, nd, hn, dA⟩ := hP
    exact Y.go k H' _ hk (vis o hn)
  · obtain ⟨acc, ts, A, M, hD, hI, hl, o, ra, nd, hn, dA⟩ := hP
    exact Y.stop H' _ (vis o hn)
  · obtain ⟨acc, ts, A, M, hD, hI, hl, o, ra, nd, hn, dA⟩ := hP
    have rw0 := world (k := k) hD o ra hn
    obtain ⟨sm, d, gd, dx⟩ := Y.yld k x H' H'' _ hk (vis o hn) rw0.live hy
    have rw1 := rw0.ext sm
    obtain ⟨Fw, rw2⟩ := rel_wipe rw1 vs
    refine hg rw2 dx (step k d ts M gd hI) fun F3 σ3 ε3 r3 e3 w3 => ⟨e3.trans (wipe_wipe σ vs), ?_⟩
    refine ht r3 w3 fun b M2 H3 w4 o3 => ?_
    have oo : Out c H1 H3 M2 := (o.ext sm).trans o3
    have nb : ∀ a ∈ A, a ∉ c.b := fun a ha z => r1.live a (r.bin a z) (hn a ha)
    have ra3 : RepL (A ++ (D :: bs)) H3 acc ts A := RepL.chg rw0.nt (out_keep ((rw0.ofSame sm).trans o3) rw0.bin) (fun a ha x e => out_get o3 (nb a ha) (sm _ _ e)) ra
    have hD3 : H3 D = some (.lst acc) := out_get o3 Db (sm _ _ hD)
    cases b with
    | false => exact iteF ⟨acc, ts, A, M2, hD3, w4, by omega, oo, ra3, nd, hn, dA⟩
    | true =>
      refine iteT ?_
      have r4 := r3.out o3
      refine he r4 w4 fun v t B M3 H4 w5 o4 n => ?_
      have hD4 : H4 D = some (.lst acc) := out_get o4 Db hD3
      refine ⟨acc, hD4, ?_, acc ++ [v], ts ++ [t], A ++ B, M3, upd_same, w5, ?_, ?_, ?_, ?_, ?_, ?_⟩
      · have := ra.len
        exact Nat.lt_of_le_of_lt (show acc.length ≤ 40000 by omega) (by decide)
      · rw [List.length_append]
        exact Nat.add_le_add_right hl 1
      · exact ⟨(oo.trans o4).keep.putNew nD, fun a ha => ((oo.trans o4).box a ha).put (fun z => Db (z ▸ ha))⟩
      · obtain ⟨rr, nn⟩ := RepL.snoc' r4 ra3 nd nb o4 n
        have dB : D ∉ A ++ B := fun z => (List.mem_append.mp z).elim dA fun h => by
          have := n.new D h
          rw [hD3] at this
          cases this
        have r5 := r4.hide o4 n.new n.rep.own
        have nt5 : NoTup (A ++ B ++ (D :: bs)) H4 := fun a ha => r5.nt a (mem3 ha)
        refine RepL.chg nt5 ?_ (fun a ha x e => by rw [upd_ne (fun (z : a = D) => dB (by rw [← z]; exact ha))]; exact e) rr
        exact (Keep.refl _ _).put (List.mem_append_right _ (List.mem_cons_self ..))
      · exact (RepL.snoc' r4 ra3 nd nb o4 n).2
      · intro a ha
        rcases List.mem_append.mp ha with h | h
        · exact hn a h
        · exact out_none oo (n.new a h)
      · intro z
        rcases List.mem_append.mp z with h | h
        · exact dA h
        · have := n.new D h
          rw [hD3] at this
          cases this
  · obtain ⟨acc, ts, A, M, hD, hI, hl, o, ra, nd, hn, dA⟩ := hP
    have rw0 := world (k := 0) hD o ra hn
    refine q (.ref D) (.lst ts) (D :: A) M H' (fin ts M hI) (o1.trans o) ⟨.lst hD (RepL.perm rw0.nt (fun a ha => ?_) ra), List.nodup_cons.mpr ⟨dA, nd⟩, fun a ha => ?_⟩
    · rcases List.mem_cons.mp ha with rfl | ha
      · exact List.mem_append_right _ (List.mem_cons_self ..)
      · rcases List.mem_append.mp ha with h | h
        · exact List.mem_append_left _ h
        · exact List.mem_append_right _ (List.mem_cons_of_mem _ h)
    · rcases List.mem_cons.mp ha with rfl | ha
      · exact out_none o1 nD
      · exact out_none o1 (hn a ha)
/-- .. each one shared -/
def wLc (wi : WI) (wg : WG) (wt : WB) (w : WE) (vs : List Nat) : WE := fun ε N R => wi ε N fun ds N1 => ds.length ≤ 40000 ∧ ∃ I : Nat → List PyData → Nat → Prop, I 0 [] N1 ∧
  (∀ k d es M, ds[k]? = some d → I k es M → wg d (wipeE ε vs) fun ε2 => wt ε2 M fun b M2 => match b with
    | true => w ε2 M2 fun e M3 => I (k + 1) (es ++ [e]) M3
    | false => I (k + 1) es M2) ∧ ∀ es M, I ds.length es M → R (.list es) M
theorem sim_lc {ti : TI} {wi : WI} {g : TG} {wg : WG} {tt : TT} {wt : WB} {te : TE} {w : WE} (hi : SimI ti wi) (hg : SimG vs g wg) (ht : SimB tt wt) (he : SimE te w) : SimE (tLc ti g tt te vs) (wLc wi wg wt w vs) := fun {c bs F σ H ε N R Q} r ww q => hi r ww fun J ds N1 H1 w1 o1 Y D nD => by
  obtain ⟨hz, I, i0, step, fin⟩ := w1
  have r1 := r.out o1
  have Dbs : D ∉ bs := r1.live.out nD
  have Db : D ∉ c.b := fun z => Dbs (r.bin D z)
  have world : ∀ {H' : Hp} {acc : List V} {M : Nat}, H' D = some (.lst acc) → Out c H1 H' M → Rel c (D :: bs) F σ H' ε M := fun {H' acc M} hD o =>
    r1.hide (A := [D]) o (fun a ha => by rw [List.mem_singleton.mp ha]; exact nD) (fun a ha => by rw [List.mem_singleton.mp ha]; exact own_lst hD)
  have vis : ∀ {H' : Hp} {M : Nat}, Out c H1 H' M → Same (hid bs H1) (hid (D :: bs) H') := fun {H' M} o => vis_step (bs := bs) (B := [D]) o r.bin (fun a ha => by rw [List.mem_singleton.mp ha]; exact nD)
  refine it_by (J := J) (n := ds.length) (Body := fun x H' Nx => g x (L2.wipe σ vs) H' fun σ2 H2 => L2.wipe σ2 vs = L2.wipe σ vs ∧ tt σ2 H2 fun b H3 => if b = true then te σ2 H3 fun y H4 => ∃ acc, H4 D = some (.lst acc) ∧ acc.length < sizeLine ∧ Nx (upd H4 D (.lst (acc ++ [y]))) else Nx H3)
    (fun k H' => ∃ (acc : List V) (es : List PyData) (M : Nat), H' D = some (.lst acc) ∧ I k es M ∧ es.length ≤ k ∧ Out c H1 H' M ∧ DqAll (hid (D :: bs) H') acc es) ⟨[], [], N1, upd_same, i0, Nat.le_refl _, ⟨(Keep.refl _ _).new nD, fun a ha => (r1.box a ha).upd nD⟩, .nil⟩
    (fun k H' hk hP => ?_) (fun H' hP => ?_) (fun k x H' H'' hk hP hy => ?_) (fun H' hP => ?_)
  · obtain ⟨acc, es, M, hD, hI, hl, o, da⟩ := hP
    exact Y.go k H' _ hk (vis o)
  · obtain ⟨acc, es, M, hD, hI, hl, o, da⟩ := hP
    exact Y.stop H' _ (vis o)
  · obtain ⟨acc, es, M, hD, hI, hl, o, da⟩ := hP
    have rw0 := world hD o
    obtain ⟨sm, d, gd, dx⟩ := Y.yld k x H' H'' _ hk (vis o) rw0.live hy
    have rw1 := rw0.ext sm
    obtain ⟨Fw, rw2⟩ := rel_wipe rw1 vs
    refine hg rw2 dx (step k d es M gd hI) fun F3 σ3 ε3 r3 e3 w3 => ⟨e3.trans (wipe_wipe σ vs), ?_⟩
    refine ht r3 w3 fun b M2 H3 w4 o3 => ?_
    have oo : Out c H1 H3 M2 := (o.ext sm).trans o3
    have da3 : DqAll (hid (D :: bs) H3) acc es := da.mono (out_keep ((rw0.ofSame sm).trans o3) rw0.bin)
    have hD3 : H3 D = some (.lst acc) := out_get o3 Db (sm _ _ hD)
    cases b with
    | false => exact iteF ⟨acc, es, M2, hD3, w4, by omega, oo, da3⟩
    | true =>
      refine iteT ?_
      have r4 := r3.out o3
      refine he r4 w4 fun v f M3 H4 w5 o4 hv => ?_
      have hD4 : H4 D = some (.lst acc) := out_get o4 Db hD3
      have kk : Keep (D :: bs) H4 (upd H4 D (.lst (acc ++ [v]))) := (Keep.refl _ _).put (List.mem_cons_self ..)
      refine ⟨acc, hD4, ?_, acc ++ [v], es ++ [f], M3, upd_same, w5, ?_, ?_, ?_⟩
      · have := da.len
        exact Nat.lt_of_le_of_lt (show acc.length ≤ 40000 by omega) (by decide)
      · rw [List.length_append]
        exact Nat.add_le_add_right hl 1
      · exact ⟨(oo.trans o4).keep.putNew nD, fun a ha => ((oo.trans o4).box a ha).put (fun z => Db (z ▸ ha))⟩
      · exact ((da3.mono (out_keep o4 r4.bin)).append (.cons hv .nil)).mono kk
  · obtain ⟨acc, es, M, hD, hI, hl, o, da⟩ := hP
    exact q (.ref D) (.list es) M H' (fin es M hI) (o1.trans o) (.lst (by rw [hid_out Dbs]; exact hD) (da.mono (hid_less fun a ha => List.mem_cons_of_mem _ ha)))
end
/-! ### statements -/
structure EW where
  nx : Env → Nat → Prop
  rt : T → Nat → Prop
  bk : Env → Nat → Prop
  ct : Env → Nat → Prop
abbrev WS := EW → Env → Nat → Prop
def EW.seq (D : EW) (k : Env → Nat → Prop) : EW := { D with nx := k }
def EW.loop (D : EW) (i : Env → Nat → Prop) : EW := { D with nx := i, ct := i, bk := D.nx }
def EW.fn (R : T → Nat → Prop) : EW := ⟨fun _ M => R (.sh .none) M, R, fun _ _ => False, fun _ _ => False⟩
structure Ret (c : Base) (v : V) (t : T) (A : List Addr) (H : Hp) (N : Nat) : Prop where
  rep : Rep (A ++ c.bs0) H v t A
  nd : A.Nodup
  off : ∀ a ∈ A, c.P a = none
  nb : ∀ a ∈ A, a ∉ c.bs0
  box : ∀ a ∈ c.b, Box H a N
  pin : Same c.P H
structure Mt (c : Base) (DW : EW) (D : Ends) : Prop where
  nx : ∀ {bs F : List Addr} {σ : L2.St} {H : Hp} {ε : Env} {N : Nat}, Rel c bs F σ H ε N → DW.nx ε N → D.nx σ H
  rt : ∀ {v : V} {t : T} {A : List Addr} {H : Hp} {N : Nat}, Ret c v t A H N → DW.rt t N → D.rt v H
  bk : ∀ {bs F : List Addr} {σ : L2.St} {H : Hp} {ε : Env} {N : Nat}, Rel c bs F σ H ε N → DW.bk ε N → D.bk σ H
  ct : ∀ {bs F : List Addr} {σ : L2.St} {H : Hp} {ε : Env} {N : Nat}, Rel c bs F σ H ε N → DW.ct ε N → D.ct σ H
def SimS (ts : TS) (ws : WS) : Prop := ∀ {c : Base} {bs F : List Addr} {σ : L2.St} {H : Hp} {ε : Env} {N : Nat} {DW : EW} {D : Ends}, Rel c bs F σ H ε N → ws DW ε N → Mt c DW D → ts D σ H
section
variable {ta tb te : TE} {wa wb we : WE} {wt : WT} {t : TT} {w : WB} {ts us : TS} {ws wu : WS} {tas : TA} {was : WA} {c : Base} {bs F A B : List Addr} {σ : L2.St} {H H1 : Hp} {ε : Env} {N N1 : Nat} {v : V} {x : T}
/-- told at the end: something new, or shared -/
theorem Rel.ret (r : Rel c bs F σ H ε N) (o : Out c H H1 N1) (n : Nw bs A H H1 v x) : Ret c v x A H1 N1 := by
  have r1 := r.hide o n.new n.rep.own
  refine ⟨Rep.perm r1.nt (fun a ha => (List.mem_append.mp ha).elim (List.mem_append_left _) fun h => List.mem_append_right _ (r.up a h)) n.rep, n.nd, fun a ha => ?_, fun a ha z => r.live a (r.up a z) (n.new a ha), o.box, r1.pin⟩
  cases e : c.P a with
  | none => rfl
  | some y =>
    have := r.pin a y e
    rw [n.new a ha] at this
    cases this
def wSkip : WS := fun D ε N => D.nx ε N
def wSeq (ws wu : WS) : WS := fun D ε N => ws { D with nx := wu D } ε N
def wBreak : WS := fun D ε N => D.bk ε N
def wCont : WS := fun D ε N => D.ct ε N
theorem sim_skip : SimS tNext wSkip := fun r h m => m.nx r h
theorem sim_brk : SimS tBreak wBreak := fun r h m => m.bk r h
theorem sim_ctn : SimS tCont wCont := fun r h m => m.ct r h
theorem sim_seq (h : SimS ts ws) (k : SimS us wu) : SimS (tSeq ts us) (wSeq ws wu) := fun {c bs F σ H ε N DW D} r w m => h (DW := { DW with nx := wu DW }) (D := { D with nx := us D }) r w ⟨fun r2 w2 => k r2 w2 m, m.rt, m.bk, m.ct⟩
def wRet (wt : WT) : WS := fun D ε N => wt ε N fun t N' => D.rt t N'
theorem sim_ret (h : SimT te wt) : SimS (tRet te) (wRet wt) := fun r w m => h r w fun v t A N' H' hR o n => m.rt (r.ret o n) hR
def wRetN : WS := fun D ε N => D.rt (.sh .none) N
theorem sim_retN : SimS tRetN wRetN := fun r w m => m.rt (r.ret r.self (Nw.sh .non)) w
/-- return x, x its own -/
def wRetV (i : Nat) : WS := fun D ε N => match ε[i]? with
  | some (.is t) => D.rt t N
  | _ => False
theorem sim_retV {i : Nat} : SimS (tRet (tVar i)) (wRetV i) := fun {c bs F σ H ε N DW D} r w m => by
  have w' : (match ε[i]? with | some (.is t) => DW.rt t N | _ => False) := w
  split at w'
  · rename_i t e
    obtain ⟨y, A, F1, F2, hx, hr, rfl, _⟩ := r.env.at e
    cases hr with
    | is hr =>
      have hA : ∀ a ∈ A, a ∈ F1 ++ (A ++ F2) := fun a ha => List.mem_append_right _ (List.mem_append_left _ ha)
      refine ⟨_, hx, m.rt ⟨Rep.perm r.nt (fun a ha => (List.mem_append.mp ha).elim (fun h => r.sub a (hA a h)) (r.up a)) hr, ?_, fun a ha => r.off a (hA a ha), fun a ha => r.nb a (hA a ha), r.box, r.pin⟩ w'⟩
      exact (List.nodup_append.mp (List.nodup_append.mp r.nd).2.1).1
  · exact w'.elim
def wIfS (w : WB) (ws wu : WS) : WS := fun D ε N => w ε N fun b N1 => match b with
  | true => ws D ε N1
  | false => wu D ε N1
theorem sim_ifS (h : SimB t w) (ha : SimS ts ws) (hb : SimS us wu) : SimS (tIfS t ts us) (wIfS w ws wu) := fun {c bs F σ H ε N DW D} r ww m => h r ww fun b N1 H1 w1 o1 => by
  cases b with
  | true => exact iteT (ha (r.out o1) w1 m)
  | false => exact iteF (hb (r.out o1) w1 m)
/-- x = e, what e tells its own -/
def wAsgT (i : Nat) (wt : WT) : WS := fun D ε N => wt ε N fun t N' => D.nx (ε.set i (.is t)) N'
theorem sim_asgT {i : Nat} (h : SimT te wt) : SimS (tAsg te (gName i)) (wAsgT i wt) := fun {c bs F σ H ε N DW D} r w m => h r w fun v t A N' H' hR o n => by
  obtain ⟨F', r'⟩ := r.set (i := i) o n
  exact m.nx r' hR
/-- x = e, shared; a, b = e -/
def wAsg (we : WE) (wg : WG) : WS := fun D ε N => we ε N fun d N' => wg d ε fun ε' => D.nx ε' N'
theorem sim_asg {vs : List Nat} {g : TG} {wg : WG} (h : SimE te we) (hg : SimG vs g wg) : SimS (tAsg te g) (wAsg we wg) := fun {c bs F σ H ε N DW D} r w m => h r w fun v d N' H' hR o hd => hg (r.out o) hd hR fun F' σ' ε' r' _ w' => m.nx r' w'
/-- a, b = x, y -/
def wPar (i j : Nat) (wts : WTs) : WS := fun D ε N => wts ε N fun ts N' => match ts with
  | [t, u] => D.nx ((ε.set i (.is t)).set j (.is u)) N'
  | _ => False
theorem RepL.two {us : List V} {t u : T} {A : List Addr} (h : RepL bs H us [t, u] A) : ∃ v w A1 A2, us = [v, w] ∧ Rep bs H v t A1 ∧ Rep bs H w u A2 ∧ A = A1 ++ A2 := by
  cases h with
  | cons h1 k1 => cases k1 with
    | cons h2 k2 => cases k2 with
      | nil => exact ⟨_, _, _, _, rfl, h1, h2, by rw [List.append_nil]⟩
theorem pin_none {a : Addr} (r : Rel c bs F σ H ε N) (e : H a = none) : c.P a = none := by
  cases h : c.P a with
  | none => rfl
  | some y =>
    rw [r.pin a y h] at e
    cases e
/-- a slot set to what is hidden already, and nobody else's -/
theorem Rel.put {i : Nat} (r : Rel c bs F σ H ε N) (h : Rep bs H v x A) (nd : A.Nodup) (hA : ∀ a ∈ A, a ∈ bs ∧ a ∉ F ∧ c.P a = none ∧ a ∉ c.bs0) : ∃ F', Rel c bs F' (σ.set i (some v)) H (ε.set i (.is x)) N ∧ ∀ a ∈ F', a ∈ F ∨ a ∈ A := by
  cases hl : ε[i]? with
  | none =>
    have hs : σ[i]? = none := by
      rw [List.getElem?_eq_none_iff] at hl ⊢
      rw [r.env.len]
      exact hl
    rw [set_beyond hl, set_beyond hs]
    exact ⟨F, r, fun a ha => .inl ha⟩
  | some l =>
    obtain ⟨y, A0, F1, F2, q1, q2, rfl, q4⟩ := r.env.at hl
    have hm : ∀ a ∈ F1 ++ (A ++ F2), a ∈ F1 ++ (A0 ++ F2) ∨ a ∈ A := fun a ha => by
      rcases List.mem_append.mp ha with h | h
      · exact .inl (List.mem_append_left _ h)
      · rcases List.mem_append.mp h with h | h
        · exact .inr h
        · exact .inl (List.mem_append_right _ (List.mem_append_right _ h))
    refine ⟨F1 ++ (A ++ F2), ⟨q4 r.nt (Same.refl _) (fun _ _ _ e => e) (.is h), nodup_mid r.nd nd fun a ha => ⟨fun z => (hA a ha).2.1 (List.mem_append_left _ z), fun z => (hA a ha).2.1 (List.mem_append_right _ (List.mem_append_right _ z))⟩, fun a ha => (hm a ha).elim (r.sub a) fun z => (hA a z).1, fun a ha => (hm a ha).elim (r.off a) fun z => (hA a z).2.2.1, fun a ha => (hm a ha).elim (r.nb a) fun z => (hA a z).2.2.2, r.up, r.bb, r.offb, r.live, r.nt, r.box, r.pin, r.vis⟩, hm⟩
theorem sim_par {i j : Nat} {wts : WTs} (h : SimTs tas wts) : SimS (tPar i j tas) (wPar i j wts) := fun {c bs F σ H ε N DW D} r w m => h r w fun vs ts A N' H' hR o n => by
  match ts, hR, n with
  | [t, u], hR, n =>
    obtain ⟨v, v2, A1, A2, rfl, h1, h2, rfl⟩ := n.rep.two
    obtain ⟨n1, n2, n3⟩ := List.nodup_append.mp n.nd
    have r1 := r.hide o n.new n.rep.own
    have fact : ∀ a ∈ A1 ++ A2, a ∈ A1 ++ A2 ++ bs ∧ a ∉ F ∧ c.P a = none ∧ a ∉ c.bs0 := fun a ha => ⟨List.mem_append_left _ ha, fun z => r.live a (r.sub a z) (n.new a ha), pin_none r (n.new a ha), fun z => r.live a (r.up a z) (n.new a ha)⟩
    obtain ⟨F1, r2, m2⟩ := r1.put (i := i) h1 n1 fun a ha => fact a (List.mem_append_left _ ha)
    obtain ⟨F2, r3, m3⟩ := r2.put (i := j) h2 n2 fun a ha => by
      obtain ⟨f1, f2, f3⟩ := fact a (List.mem_append_right _ ha)
      refine ⟨f1, fun z => ?_, f3⟩
      cases m2 a z with
      | inl h => exact f2 h
      | inr h => exact n3 a h a ha rfl
    exact ⟨v, v2, rfl, m.nx r3 hR⟩
def wDrop (we : WE) : WS := fun D ε N => we ε N fun _ N' => D.nx ε N'
theorem sim_drop (h : SimE te we) : SimS (tDrop te) (wDrop we) := fun r w m => h r w fun v d N' H' hR o hd => m.nx (r.out o) hR
/-! ### what is its own, changed in place -/
theorem set_same {α : Type} : ∀ {xs : List α} {i : Nat} {x : α}, xs[i]? = some x → xs.set i x = xs
  | [], _, _, h => by cases h
  | y :: ys, 0, x, h => by
    have e : y = x := Option.some.inj h
    rw [e]
    rfl
  | y :: ys, i + 1, x, h => by
    show y :: ys.set i x = y :: ys
    rw [set_same (xs := ys) h]
theorem mem_mid {F1 A0 F2 : List Addr} {a x : Addr} (h : x ∈ F1 ++ (a :: A0 ++ F2)) : x ∈ F1 ∨ x = a ∨ x ∈ A0 ∨ x ∈ F2 := by
  rcases List.mem_append.mp h with h | h
  · exact .inl h
  · rcases List.mem_append.mp h with h | h
    · rcases List.mem_cons.mp h with h | h
      · exact .inr (.inl h)
      · exact .inr (.inr (.inl h))
    · exact .inr (.inr (.inr h))
/-- the list of slot i, and what comes of it when it stands otherwise -/
theorem Rel.mutate {i : Nat} {ts : List T} (r : Rel c bs F σ H ε N) (hl : ε[i]? = some (.is (.lst ts))) : ∃ a vs A0, σ[i]? = some (some (.ref a)) ∧ H a = some (.lst vs) ∧ RepL bs H vs ts A0 ∧ A0.Nodup ∧ a ∉ A0 ∧ a ∈ bs ∧ a ∉ c.b ∧ (∀ x ∈ A0, x ∈ bs) ∧ a ∈ F ∧ (∀ x ∈ A0, x ∈ F) ∧
    ∀ {vs' : List V} {ts' : List T} {A' : List Addr}, RepL bs H vs' ts' A' → A'.Nodup → a ∉ A' → (∀ x ∈ A', x ∈ A0 ∨ (x ∈ bs ∧ x ∉ F ∧ c.P x = none ∧ x ∉ c.bs0)) → ∃ F', Rel c bs F' σ (upd H a (.lst vs')) (ε.set i (.is (.lst ts'))) N := by
  obtain ⟨y, A, F1, F2, q1, q2, rfl, q4⟩ := r.env.at hl
  cases q2 with
  | is q2 => cases q2 with
    | lst e h =>
      rename_i a vs A0
      have nd2 := (List.nodup_append.mp (List.nodup_append.mp r.nd).2.1).1
      have hnd := List.nodup_cons.mp nd2
      have hmem : ∀ x ∈ a :: A0, x ∈ F1 ++ (a :: A0 ++ F2) := fun x hx => List.mem_append_right _ (List.mem_append_left _ hx)
      have ain := hmem a (List.mem_cons_self ..)
      have abs := r.sub a ain
      refine ⟨a, vs, A0, q1, e, h, hnd.2, hnd.1, abs, r.fb a ain, fun x hx => r.sub x (hmem x (List.mem_cons_of_mem _ hx)), ain, fun x hx => hmem x (List.mem_cons_of_mem _ hx), fun {vs' ts' A'} h' nd' ha' hx' => ?_⟩
      have aout : ∀ x ∈ F1 ++ F2, x ≠ a := fun x hx z => by
        subst z
        obtain ⟨_, p2, p3⟩ := List.nodup_append.mp r.nd
        rcases List.mem_append.mp hx with h | h
        · exact p3 x h x (List.mem_append_left _ (List.mem_cons_self ..)) rfl
        · exact (List.nodup_append.mp p2).2.2 x (List.mem_cons_self ..) x h rfl
      have A0out : ∀ x ∈ A0, x ∉ F1 ∧ x ∉ F2 := fun x hx => by
        obtain ⟨_, p2, p3⟩ := List.nodup_append.mp r.nd
        exact ⟨fun z => p3 x z x (List.mem_append_left _ (List.mem_cons_of_mem _ hx)) rfl, fun z => (List.nodup_append.mp p2).2.2 x (List.mem_cons_of_mem _ hx) x z rfl⟩
      have kk : Keep bs H (upd H a (.lst vs')) := (Keep.refl _ _).put abs
      have rr : RepL bs (upd H a (.lst vs')) vs' ts' A' := RepL.chg r.nt kk (fun x hx o e => by rw [upd_ne (fun (z : x = a) => ha' (z ▸ hx))]; exact e) h'
      have env := q4 (cs := bs) (H' := upd H a (.lst vs')) (y := some (.ref a)) (m := .is (.lst ts')) r.nt kk (fun x hx o e => by rw [upd_ne (aout x hx)]; exact e) (.is (.lst upd_same rr))
      rw [set_same q1] at env
      have hm : ∀ x ∈ F1 ++ (a :: A' ++ F2), x ∈ F1 ++ (a :: A0 ++ F2) ∨ (x ∈ A' ∧ x ∉ A0) := fun x hx => by
        rcases mem_mid hx with h | h | h | h
        · exact .inl (List.mem_append_left _ h)
        · rw [h]; exact .inl ain
        · by_cases hA : x ∈ A0
          · exact .inl (hmem x (List.mem_cons_of_mem _ hA))
          · exact .inr ⟨h, hA⟩
        · exact .inl (List.mem_append_right _ (List.mem_append_right _ h))
      have hnew : ∀ x, x ∈ A' ∧ x ∉ A0 → x ∈ bs ∧ x ∉ F1 ++ (a :: A0 ++ F2) ∧ c.P x = none ∧ x ∉ c.bs0 := fun x hx => (hx' x hx.1).elim (fun z => absurd z hx.2) id
      refine ⟨F1 ++ (a :: A' ++ F2), env, nodup_mid r.nd (List.nodup_cons.mpr ⟨ha', nd'⟩) fun x hx => ?_, fun x hx => (hm x hx).elim (r.sub x) fun z => (hnew x z).1, fun x hx => (hm x hx).elim (r.off x) fun z => (hnew x z).2.2.1, fun x hx => (hm x hx).elim (r.nb x) fun z => (hnew x z).2.2.2, r.up, r.bb, r.offb, fun x hx => ?_, fun x hx xs z => ?_, fun x hx => ?_, fun x o e => ?_, r.vis.trans kk⟩
      · rcases List.mem_cons.mp hx with h | h
        · subst h
          exact ⟨fun z => aout x (List.mem_append_left _ z) rfl, fun z => aout x (List.mem_append_right _ z) rfl⟩
        · by_cases hA : x ∈ A0
          · exact A0out x hA
          · have := (hnew x ⟨h, hA⟩).2.1
            exact ⟨fun z => this (List.mem_append_left _ z), fun z => this (List.mem_append_right _ (List.mem_append_right _ z))⟩
      · by_cases hxa : x = a
        · subst hxa; rw [upd_same]; exact fun z => nomatch z
        · rw [upd_ne hxa]; exact r.live x hx
      · by_cases hxa : x = a
        · subst hxa; rw [upd_same] at z; cases z
        · rw [upd_ne hxa] at z; exact r.nt x hx xs z
      · exact (r.box x hx).put (fun z => r.fb a ain (z ▸ hx))
      · rw [upd_ne (fun (z : x = a) => by rw [z, r.off a ain] at e; cases e)]
        exact r.pin x o e
/-- what is new, hidden and nobody's -/
theorem nw_fact {a : Addr} (r : Rel c bs F σ H ε N) (hn : H a = none) (ha : a ∈ A) : a ∈ A ++ bs ∧ a ∉ F ∧ c.P a = none ∧ a ∉ c.bs0 := ⟨List.mem_append_left _ ha, fun z => r.live a (r.sub a z) hn, pin_none r hn, fun z => r.live a (r.up a z) hn⟩
theorem slot_own {i : Nat} {ts : List T} (r : Rel c bs F σ H ε N) (hl : ε[i]? = some (.is (.lst ts))) : ∃ a, σ[i]? = some (some (.ref a)) ∧ a ∉ c.b ∧ ∃ vs, H a = some (.lst vs) := by
  obtain ⟨a, vs, A0, h1, h2, _, _, _, _, hb, _⟩ := r.mutate hl
  exact ⟨a, h1, hb, vs, h2⟩
/-- a list of one's own in slot i -/
def ownL (ε : Env) (i : Nat) : Option (List T) := match ε[i]? with
  | some (.is (.lst ts)) => some ts
  | _ => none
theorem ownL_some {i : Nat} {ts : List T} (h : ownL ε i = some ts) : ε[i]? = some (.is (.lst ts)) := by
  unfold ownL at h
  split at h
  · rename_i us e
    rw [e, Option.some.inj h]
  · cases h
def onOwn (i : Nat) (k : List T → Env → Nat → Prop) (ε : Env) (N : Nat) : Prop := match ownL ε i with
  | some ts => k ts ε N
  | none => False
theorem onOwn_some {i : Nat} {k : List T → Env → Nat → Prop} (h : onOwn i k ε N) : ∃ ts, ε[i]? = some (.is (.lst ts)) ∧ k ts ε N := by
  unfold onOwn at h
  split at h
  · rename_i ts e
    exact ⟨ts, ownL_some e, h⟩
  · exact h.elim
/-- x.append(e) -/
def wApp (i : Nat) (wt : WT) : WS := fun D => onOwn i fun ts ε N => wt ε N fun t N' => ts.length ≤ 100000 ∧ D.nx (ε.set i (.is (.lst (ts ++ [t])))) N'
theorem sim_app {K : PySem.W.Frag} {i : Nat} (h : SimT te wt) : SimS (tDrop (tBM K "list" rAppend (tVar i) (tCons te tNil))) (wApp i wt) := fun {c bs F σ H ε N DW D} r w m => by
  obtain ⟨ts, hl, w⟩ := onOwn_some w
  obtain ⟨a, hs, hab, vs, hH⟩ := slot_own r hl
  refine ⟨.ref a, hs, .inl ⟨rfl, vs, SqL.of hH⟩, h r w fun v t B N' H' hR o n => ?_⟩
  have r1 := r.hide o n.new n.rep.own
  obtain ⟨a2, vs2, A0, g1, g2, g3, g4, g5, g6, g7, g8, g9, g10, g11⟩ := r1.mutate hl
  have ea : a2 = a := by
    have := g1.symm.trans hs
    cases this
    rfl
  subst ea
  have dis : ∀ x ∈ A0, x ∉ B := fun x hx z => r.live x (r.sub x (g10 x hx)) (n.new x z)
  obtain ⟨F', r2⟩ := g11 (g3.append (RepL.one n.rep)) (nodup_app g4 n.nd dis) (fun z => (List.mem_append.mp z).elim g5 fun h => r.live a2 (r.sub a2 g9) (n.new a2 h)) (fun x hx => (List.mem_append.mp hx).elim .inl fun h => .inr (nw_fact r (n.new x h) h))
  exact ⟨a2, vs2, v, rfl, rfl, g2, by rw [g3.len]; exact Nat.lt_of_le_of_lt hR.1 (by decide), m.nx r2 hR.2⟩
/-! parts of a row of things -/
theorem RepL.split : ∀ {vs : List V} {ts : List T} {A : List Addr}, RepL bs H vs ts A → ∀ {k : Nat} {t : T}, ts[k]? = some t → ∃ v A1 Av A2, vs[k]? = some v ∧ Rep bs H v t Av ∧ A = A1 ++ (Av ++ A2) ∧ RepL bs H (vs.eraseIdx k) (ts.eraseIdx k) (A1 ++ A2) ∧
    ∀ {v' : V} {t' : T} {B : List Addr}, Rep bs H v' t' B → RepL bs H (vs.set k v') (ts.set k t') (A1 ++ (B ++ A2))
  | _, _, _, .nil, k, t, e => by cases e
  | _, _, _, .cons (v := v) (A := A) (B := B) h q, 0, t, e => by
    have e' := Option.some.inj e
    subst e'
    refine ⟨v, [], A, B, rfl, h, rfl, q, fun {v' t' B'} h' => ?_⟩
    exact RepL.cons (A := B') (B := B) h' q
  | _, _, _, .cons (v := v) (A := A) (B := B) h q, k + 1, t, e => by
    obtain ⟨v2, A1, Av, A2, p1, p2, p3, p4, p5⟩ := q.split (k := k) (t := t) e
    refine ⟨v2, A ++ A1, Av, A2, p1, p2, by rw [p3, List.append_assoc], ?_, fun {v' t' B'} h' => ?_⟩
    · rw [List.append_assoc]
      exact .cons h p4
    · rw [List.append_assoc]
      exact .cons h (p5 h')
theorem RepL.rev : ∀ {vs : List V} {ts : List T} {A : List Addr}, RepL bs H vs ts A → A.Nodup → ∃ A', RepL bs H vs.reverse ts.reverse A' ∧ A'.Nodup ∧ ∀ x, x ∈ A' → x ∈ A
  | _, _, _, .nil, _ => ⟨[], .nil, List.nodup_nil, fun _ h => h⟩
  | _, _, _, .cons (A := A) (B := B) h q, nd => by
    obtain ⟨n1, n2, n3⟩ := List.nodup_append.mp nd
    obtain ⟨A', p1, p2, p3⟩ := q.rev n2
    refine ⟨A' ++ A, ?_, nodup_app p2 n1 fun x hx z => n3 x z x (p3 x hx) rfl, fun x hx => (List.mem_append.mp hx).elim (fun h => List.mem_append_right _ (p3 x h)) (List.mem_append_left _)⟩
    rw [List.reverse_cons, List.reverse_cons]
    exact p1.append (RepL.one h)
/-- x.reverse(), x.clear() -/
def wRev (i : Nat) : WS := fun D => onOwn i fun ts ε N => D.nx (ε.set i (.is (.lst ts.reverse))) N
theorem sim_rev {K : PySem.W.Frag} {i : Nat} : SimS (tDrop (tBM0 K "list" rReverse (tVar i))) (wRev i) := fun {c bs F σ H ε N DW D} r w m => by
  obtain ⟨ts, hl, w⟩ := onOwn_some w
  obtain ⟨a, vs, A0, g1, g2, g3, g4, g5, g6, g7, g8, g9, g10, g11⟩ := r.mutate hl
  obtain ⟨A', p1, p2, p3⟩ := g3.rev g4
  obtain ⟨F', r2⟩ := g11 p1 p2 (fun z => g5 (p3 a z)) fun x hx => .inl (p3 x hx)
  exact ⟨.ref a, g1, .inl ⟨rfl, vs, SqL.of g2⟩, a, vs, rfl, rfl, g2, m.nx r2 w⟩
def wClr (i : Nat) : WS := fun D => onOwn i fun ts ε N => D.nx (ε.set i (.is (.lst []))) N
theorem sim_clr {K : PySem.W.Frag} {i : Nat} : SimS (tDrop (tBM0 K "list" rClear (tVar i))) (wClr i) := fun {c bs F σ H ε N DW D} r w m => by
  obtain ⟨ts, hl, w⟩ := onOwn_some w
  obtain ⟨a, vs, A0, g1, g2, g3, g4, g5, g6, g7, g8, g9, g10, g11⟩ := r.mutate hl
  obtain ⟨F', r2⟩ := g11 .nil List.nodup_nil List.not_mem_nil fun x hx => nomatch hx
  exact ⟨.ref a, g1, .inl ⟨rfl, vs, SqL.of g2⟩, a, vs, rfl, rfl, g2, m.nx r2 w⟩
/-- x.extend(e), what e has being shared -/
def wExt (i : Nat) (we : WE) : WS := fun D => onOwn i fun ts ε N => we ε N fun d N' => match d with
  | .list ds => ts.length + ds.length ≤ 100000 ∧ D.nx (ε.set i (.is (.lst (ts ++ ds.map T.sh)))) N'
  | _ => False
theorem sim_ext {K : PySem.W.Frag} {i : Nat} (h : SimE te we) : SimS (tDrop (tBM K "list" rExtend (tVar i) (tCons te tNil))) (wExt i we) := fun {c bs F σ H ε N DW D} r w m => by
  obtain ⟨ts, hl, w⟩ := onOwn_some w
  obtain ⟨a, hs, hab, vs, hH⟩ := slot_own r hl
  refine ⟨.ref a, hs, .inl ⟨rfl, vs, SqL.of hH⟩, h r w fun v d N' H' hR o hd => ?_⟩
  have r1 := r.out o
  obtain ⟨a2, vs2, A0, g1, g2, g3, g4, g5, g6, g7, g8, g9, g10, g11⟩ := r1.mutate hl
  have ea : a2 = a := by
    have := g1.symm.trans hs
    cases this
    rfl
  subst ea
  cases hd <;> first | exact False.elim hR | skip
  rename_i a3 xs3 ds e3 h3
  have hh : RepL bs H' (vs2 ++ xs3) (ts ++ ds.map T.sh) (A0 ++ []) := g3.append (RepL.shs h3)
  rw [List.append_nil] at hh
  obtain ⟨F', r2⟩ := g11 hh g4 g5 fun x hx => .inl hx
  exact ⟨a2, a3, vs2, xs3, rfl, rfl, g2, (hid_some e3).2, by rw [g3.len, h3.len]; exact Nat.le_trans hR.1 (by decide), m.nx r2 hR.2⟩
/-- x[k] = e -/
def wSet (i : Nat) (wk : WE) (wt : WT) : WS := fun D => onOwn i fun ts ε N => wt ε N fun t N1 => wk ε N1 fun d N2 => match d with
  | .int k => ∃ j, ixN ts.length k = some j ∧ D.nx (ε.set i (.is (.lst (ts.set j t)))) N2
  | _ => False
theorem sim_set {i : Nat} {tk : TE} {wk : WE} (hk : SimE tk wk) (h : SimT te wt) : SimS (tAsg te (gSub (tVar i) tk rSetL)) (wSet i wk wt) := fun {c bs F σ H ε N DW D} r w m => by
  obtain ⟨ts, hl, w⟩ := onOwn_some w
  refine h r w fun v t B N1 H1 w1 o1 n => ?_
  have r1 := r.hide o1 n.new n.rep.own
  obtain ⟨a, hs, hab, vs, hH⟩ := slot_own r1 hl
  refine ⟨.ref a, hs, hk r1 w1 fun u d N2 H2 w2 o2 hd => ?_⟩
  have r2 := r1.out o2
  obtain ⟨a2, vs2, A0, g1, g2, g3, g4, g5, g6, g7, g8, g9, g10, g11⟩ := r2.mutate hl
  have ea : a2 = a := by
    have := g1.symm.trans hs
    cases this
    rfl
  subst ea
  cases hd <;> first | exact False.elim w2 | skip
  rename_i k
  obtain ⟨j, hj, w3⟩ := w2
  have hjl : j < ts.length := (ixN_seq hj).2.1
  obtain ⟨v0, A1, Av, A2, p1, p2, p3, p4, p5⟩ := g3.split (List.getElem?_eq_getElem hjl)
  have nv : Rep (B ++ bs) H2 v t B := Rep.chg r1.nt (out_keep o2 r1.bin) (fun x hx y e => out_get o2 (fun z => r.live x (r.bin x z) (n.new x hx)) e) n.rep
  have dis : ∀ x ∈ A0, x ∉ B := fun x hx z => r.live x (r.sub x (g10 x hx)) (n.new x z)
  subst p3
  obtain ⟨F', r3⟩ := g11 (p5 nv) (nodup_mid g4 n.nd fun x hx => ⟨fun z => dis x (List.mem_append_left _ z) hx, fun z => dis x (List.mem_append_right _ (List.mem_append_right _ z)) hx⟩) (fun z => by
    rcases List.mem_append.mp z with h | h
    · exact g5 (List.mem_append_left _ h)
    · rcases List.mem_append.mp h with h | h
      · exact r.live a2 (r.sub a2 g9) (n.new a2 h)
      · exact g5 (List.mem_append_right _ (List.mem_append_right _ h))) (fun x hx => by
    rcases List.mem_append.mp hx with h | h
    · exact .inl (List.mem_append_left _ h)
    · rcases List.mem_append.mp h with h | h
      · exact .inr (nw_fact r (n.new x h) h)
      · exact .inl (List.mem_append_right _ (List.mem_append_right _ h)))
  exact ⟨a2, vs2, k, j, rfl, rfl, g2, by rw [g3.len]; exact hj, m.nx r3 w3⟩
/-- y = x.pop(k), what is popped being shared -/
def wPop (i : Nat) (wk : WE) (wg : WG) : WS := fun D => onOwn i fun ts ε N => wk ε N fun d N1 => match d with
  | .int k => (0 ≤ k ∧ k < ts.length ∧ k ≤ 1000000) ∧ ∃ d, ts[k.toNat]? = some (.sh d) ∧ wg d (ε.set i (.is (.lst (ts.eraseIdx k.toNat)))) fun ε' => D.nx ε' N1
  | _ => False
theorem seqIx' {j n : Nat} (h : j < n) : seqIndex? (j : Int) n = some j := by
  unfold seqIndex?
  have h1 : ¬ (j : Int) < 0 := by omega
  simp only [h1, if_false]
  rw [if_pos (by simp; omega)]
  simp
theorem sim_pop {K : PySem.W.Frag} {i : Nat} {tk : TE} {wk : WE} {vs : List Nat} {g : TG} {wg : WG} (hk : SimE tk wk) (hg : SimG vs g wg) : SimS (tAsg (tBM K "list" rPopAt (tVar i) (tCons tk tNil)) g) (wPop i wk wg) := fun {c bs F σ H ε N DW D} r w m => by
  obtain ⟨ts, hl, w⟩ := onOwn_some w
  obtain ⟨a, hs, hab, us, hH⟩ := slot_own r hl
  refine ⟨.ref a, hs, .inl ⟨rfl, us, SqL.of hH⟩, hk r w fun u d N1 H1 w1 o1 hd => ?_⟩
  have r1 := r.out o1
  obtain ⟨a2, vs2, A0, g1, g2, g3, g4, g5, g6, g7, g8, g9, g10, g11⟩ := r1.mutate hl
  have ea : a2 = a := by
    have := g1.symm.trans hs
    cases this
    rfl
  subst ea
  cases hd <;> first | exact False.elim w1 | skip
  rename_i k
  obtain ⟨⟨k0, k1, k2⟩, f, hf, w2⟩ := w1
  obtain ⟨v0, A1, Av, A2, p1, p2, p3, p4, p5⟩ := g3.split hf
  cases p2 with
  | sh hv =>
    have p3' : A0 = A1 ++ A2 := p3
    subst p3'
    obtain ⟨F', r2⟩ := g11 p4 g4 g5 fun x hx => .inl hx
    have ek : k = ((k.toNat : Nat) : Int) := by omega
    refine ⟨a2, vs2, k, k.toNat, v0, rfl, rfl, g2, by omega, ?_, ?_, p1, ?_⟩
    · omega
    · rw [ek]
      exact seqIx' (by rw [g3.len]; omega)
    · refine hg r2 ?_ w2 fun F3 σ3 ε3 r3 _ w3 => m.nx r3 w3
      exact hv.mono ((Keep.refl _ _).put g6)
end
end Cg

set_option Elab.async false
set_option linter.all false
set_option maxRecDepth 100000
set_option maxHeartbeats 1000000
namespace Cg
open PySem PySem.Spec PyProof.Rows L2 Evl
section
variable {ta tb te : TE} {wa wb we : WE} {wt : WT} {t : TT} {w : WB} {ts us : TS} {ws wu : WS} {tas : TA} {was : WA} {c : Base} {bs F A B : List Addr} {σ : L2.St} {H H1 : Hp} {ε : Env} {N N1 : Nat} {v : V} {x : T} {vs : List Nat}
/-! ### loops -/
def pinB (c : Base) (bs F : List Addr) (H : Hp) : Base := { c with P := hid (F ++ c.b) H, V := hid bs H }
theorem Rel.pinned (r : Rel c bs F σ H ε N) : Rel (pinB c bs F H) bs F σ H ε N where
  env := r.env
  nd := r.nd
  sub := r.sub
  off := fun a ha => hid_in (List.mem_append_left _ ha)
  nb := r.nb
  up := r.up
  bb := r.bb
  offb := fun a ha => hid_in (List.mem_append_right _ ha)
  live := r.live
  nt := r.nt
  box := r.box
  pin := hid_same
  vis := Same.refl _
theorem Rel.pins (r : Rel c bs F σ H ε N) : Same c.P (hid (F ++ c.b) H) := fun a o e => by
  rw [hid_out]
  · exact r.pin a o e
  · intro z
    rcases List.mem_append.mp z with z | z
    · rw [r.off a z] at e; cases e
    · rw [r.offb a z] at e; cases e
theorem same_none {P Q : Hp} {a : Addr} (s : Same P Q) (e : Q a = none) : P a = none := by
  cases h : P a with
  | none => rfl
  | some o => rw [s a o h] at e; cases e
theorem Rel.unpin {bs' F' : List Addr} {σ' : L2.St} {H' : Hp} {ε' : Env} {M : Nat} (r : Rel c bs F σ H ε N) (q : Rel (pinB c bs F H) bs' F' σ' H' ε' M) : Rel c bs' F' σ' H' ε' M where
  env := q.env
  nd := q.nd
  sub := q.sub
  off := fun a ha => same_none r.pins (q.off a ha)
  nb := q.nb
  up := q.up
  bb := q.bb
  offb := r.offb
  live := q.live
  nt := q.nt
  box := q.box
  pin := r.pins.trans q.pin
  vis := r.vis.trans q.vis
theorem Ret.unpin {M : Nat} {H' : Hp} (r : Rel c bs F σ H ε N) (q : Ret (pinB c bs F H) v x A H' M) : Ret c v x A H' M := ⟨q.rep, q.nd, fun a ha => same_none r.pins (q.off a ha), q.nb, q.box, r.pins.trans q.pin⟩
/-- for .. in ..: I is what holds ahead of each turn -/
def wFor (wi : WI) (wg : WG) (wb : WS) : WS := fun D ε N => wi ε N fun ds N1 => ∃ I : Nat → Env → Nat → Prop, I 0 ε N1 ∧ (∀ k d ε M, ds[k]? = some d → I k ε M → wg d ε fun ε2 => wb { D with nx := I (k + 1), ct := I (k + 1), bk := D.nx } ε2 M) ∧ ∀ ε M, I ds.length ε M → D.nx ε M
theorem sim_for {ti : TI} {wi : WI} {g : TG} {wg : WG} (hi : SimI ti wi) (hg : SimG vs g wg) (hb : SimS ts ws) : SimS (tFor ti g ts) (wFor wi wg ws) := fun {c bs F σ H ε N DW D} r w m => hi r w fun J ds N1 H1 w1 o1 Y => by
  obtain ⟨I, i0, step, fin⟩ := w1
  have r1 := r.out o1
  refine ⟨fun i k σ' H' => i + k = ds.length ∧ ∃ bs' F' ε' M, Rel (pinB c bs F H1) bs' F' σ' H' ε' M ∧ I i ε' M, ⟨ds.length, by omega, bs, F, ε, N1, r1.pinned, i0⟩, fun i k σ' H' hw => ?_⟩
  obtain ⟨e, bs', F', ε', M, q, hI⟩ := hw
  cases k with
  | zero =>
    obtain rfl : i = ds.length := by omega
    exact .inl ⟨Y.stop H' bs' q.vis, m.nx (r1.unpin q) (fin ε' M hI)⟩
  | succ k =>
    refine .inr ⟨Y.go i H' bs' (by omega) q.vis, fun σ2 H2 => ∃ bs2 F2 ε2 M2, Rel (pinB c bs F H1) bs2 F2 σ2 H2 ε2 M2 ∧ I (i + 1) ε2 M2, fun σ2 H2 h2 => ⟨k, by omega, by omega, h2⟩, fun y H2 hy => ?_⟩
    obtain ⟨sm, d, gd, dx⟩ := Y.yld i y H' H2 bs' (by omega) q.vis q.live hy
    refine hg (q.ext sm) dx (step i d ε' M gd hI) fun F3 σ3 ε3 r3 _ w3 => hb r3 w3 ⟨fun r4 w4 => ⟨_, _, _, _, r4, w4⟩, fun r4 w4 => m.rt (r4.unpin r1) w4, fun r4 w4 => m.nx (r1.unpin r4) w4, fun r4 w4 => ⟨_, _, _, _, r4, w4⟩⟩
def wWhile (w : WB) (ws : WS) : WS := fun D ε N => ∃ I : Nat → Env → Nat → Prop, (∃ m, I m ε N) ∧ ∀ m ε N, I m ε N → w ε N fun b N1 => match b with
  | true => ws { D with nx := fun ε N => ∃ m', m' < m ∧ I m' ε N, ct := fun ε N => ∃ m', m' < m ∧ I m' ε N, bk := D.nx } ε N1
  | false => D.nx ε N1
theorem sim_while (h : SimB t w) (hb : SimS ts ws) : SimS (tWhile t ts) (wWhile w ws) := fun {c bs F σ H ε N DW D} r ww m => by
  obtain ⟨I, ⟨m0, i0⟩, step⟩ := ww
  refine ⟨fun k σ' H' => ∃ bs' F' ε' M, Rel c bs' F' σ' H' ε' M ∧ I k ε' M, ⟨m0, bs, F, ε, N, r, i0⟩, fun k σ' H' hw => ?_⟩
  obtain ⟨bs', F', ε', M, q, hI⟩ := hw
  refine h q (step k ε' M hI) fun b N1 H1 w1 o1 => ?_
  cases b with
  | true =>
    refine iteT ⟨fun σ2 H2 => ∃ bs2 F2 ε2 M2, Rel c bs2 F2 σ2 H2 ε2 M2 ∧ ∃ m', m' < k ∧ I m' ε2 M2, fun σ2 H2 h2 => ?_, hb (q.out o1) w1 ⟨fun r4 w4 => ⟨_, _, _, _, r4, w4⟩, m.rt, fun r4 w4 => m.nx r4 w4, fun r4 w4 => ⟨_, _, _, _, r4, w4⟩⟩⟩
    obtain ⟨bs2, F2, ε2, M2, r2, m', hm, hI2⟩ := h2
    exact ⟨m', hm, bs2, F2, ε2, M2, r2, hI2⟩
  | false => exact iteF (m.nx (q.out o1) w1)
/-! ### what was its own is shared from now on -/
theorem Rel.freeze {i : Nat} {y : T} (r : Rel c bs F σ H ε N) (hl : ε[i]? = some (.is y)) : ∃ bs' F', Rel c bs' F' σ H (ε.set i (.is (.sh y.data))) N := by
  obtain ⟨z, A, F1, F2, q1, q2, rfl, q4⟩ := r.env.at hl
  cases q2 with
  | is q2 =>
    rename_i v
    have hA : ∀ a ∈ A, a ∈ F1 ++ (A ++ F2) := fun a ha => List.mem_append_right _ (List.mem_append_left _ ha)
    let bs' := bs.filter fun a => !decide (a ∈ A)
    have hs : ∀ a, a ∈ bs' ↔ a ∈ bs ∧ a ∉ A := fun a => by
      show a ∈ bs.filter _ ↔ _
      rw [List.mem_filter]
      simp
    have less : Same (hid bs H) (hid bs' H) := hid_less fun a ha => ((hs a).mp ha).1
    have nt' : NoTup bs' H := fun a ha => r.nt a ((hs a).mp ha).1
    have dq : Dq (hid bs' H) v y.data := Rep.data nt' (fun a ha => ((hs a).mp ha).1) (fun a ha z => ((hs a).mp z).2 ha) q2
    have env := q4 (cs := bs') (H' := H) (y := some v) (m := .is (.sh y.data)) r.nt less (fun _ _ _ e => e) (.is (.sh dq))
    rw [set_same q1] at env
    have hm : ∀ a ∈ F1 ++ ([] ++ F2), a ∈ F1 ++ (A ++ F2) ∧ a ∉ A := fun a ha => by
      obtain ⟨_, p2, p3⟩ := List.nodup_append.mp r.nd
      rcases List.mem_append.mp ha with h | h
      · exact ⟨List.mem_append_left _ h, fun z => p3 a h a (List.mem_append_left _ z) rfl⟩
      · exact ⟨List.mem_append_right _ (List.mem_append_right _ h), fun z => (List.nodup_append.mp p2).2.2 a z a h rfl⟩
    exact ⟨bs', F1 ++ ([] ++ F2), env, nodup_mid r.nd List.nodup_nil (fun _ z => nomatch z), fun a ha => (hs a).mpr ⟨r.sub a (hm a ha).1, (hm a ha).2⟩, fun a ha => r.off a (hm a ha).1, fun a ha => r.nb a (hm a ha).1, fun a ha => (hs a).mpr ⟨r.up a ha, fun z => r.nb a (hA a z) ha⟩, r.bb, r.offb, fun a ha => r.live a ((hs a).mp ha).1, nt', r.box, r.pin, r.vis.trans less⟩
def wFrz (i : Nat) (ws : WS) : WS := fun D ε N => match ε[i]? with
  | some (.is y) => ws D (ε.set i (.is (.sh y.data))) N
  | _ => False
theorem sim_frz {i : Nat} (h : SimS ts ws) : SimS ts (wFrz i ws) := fun {c bs F σ H ε N DW D} r w m => by
  have w' : (match ε[i]? with | some (.is y) => ws DW (ε.set i (.is (.sh y.data))) N | _ => False) := w
  split at w'
  · rename_i y e
    obtain ⟨bs', F', r'⟩ := r.freeze e
    exact h r' w' m
  · exact w'.elim
/-! ### defs -/
abbrev WF := List PyData → Nat → (T → Nat → Prop) → Prop
def env0 (bx : Bool) (ds : List PyData) (k : Nat) : Env := (if bx then [Sl.box] else []) ++ (ds.map (fun d => Sl.is (.sh d)) ++ List.replicate k Sl.no)
def wFn (bx : Bool) (n k : Nat) (ws : WS) : WF := fun ds N R => ds.length = n ∧ ws (EW.fn R) (env0 bx ds k) N
def spW (bx : Bool) (n : Nat) (w : WF) : Sp := fun vs H Q _ => ∃ (b bs : List Addr) (us : List V) (ds : List PyData) (N : Nat) (R : T → Nat → Prop), vs = b.map V.ref ++ us ∧ b.length = (if bx then 1 else 0) ∧ us.length = n ∧ (∀ a ∈ b, a ∈ bs) ∧ Live bs H ∧ NoTup bs H ∧ (∀ a ∈ b, Box H a N) ∧ DqAll (hid bs H) us ds ∧ w ds N R ∧
  ∀ v t A N' H', R t N' → Keep b H H' → (∀ a ∈ b, Box H' a N') → Nw bs A H H' v t → Q v H'
theorem spW_len {bx : Bool} {n : Nat} {w : WF} {vs : List V} {H : Hp} {Q : VK} {E : XK} (h : spW bx n w vs H Q E) : vs.length = (if bx then 1 else 0) + n := by
  obtain ⟨b, bs, us, ds, N, R, rfl, hb, hu, _⟩ := h
  rw [List.length_append, List.length_map, hb, hu]
theorem env_start {b bs : List Addr} {bx : Bool} (hb : b.length = (if bx then 1 else 0)) {us : List V} {ds : List PyData} (h : DqAll (hid bs H) us ds) (k : Nat) : RelE b bs H (((b.map V.ref ++ us).map some) ++ List.replicate k none) (env0 bx ds k) [] := by
  have tail : ∀ k : Nat, RelE b bs H (List.replicate k none) (List.replicate k Sl.no) [] := fun k => by
    induction k with
    | zero => exact .nil
    | succ k ih => exact .no ih
  have mid : ∀ {us : List V} {ds : List PyData}, DqAll (hid bs H) us ds → RelE b bs H (us.map some ++ List.replicate k none) (ds.map (fun d => Sl.is (.sh d)) ++ List.replicate k Sl.no) [] := fun {us ds} h => by
    induction us generalizing ds with
    | nil =>
      cases h
      exact tail k
    | cons u us ih =>
      cases h with
      | cons h1 t1 => exact RelE.is (A := []) (.sh h1) (ih t1)
  unfold env0
  cases bx with
  | false =>
    have e : b = [] := List.length_eq_zero_iff.mp hb
    subst e
    exact mid h
  | true =>
    match b, hb with
    | [a], _ => exact .box rfl (mid h)
/-- a def's body, from its promise -/
theorem run_w {bx : Bool} {n k : Nat} {Nm : List Str} {vs : List V} {Q : VK} {E : XK} (h : SimS ts ws) (hN : Nm.length = (if bx then 1 else 0) + n + k) (sp : spW bx n (wFn bx n k ws) vs H Q E) : ts { nx := fun _ H' => Q .non H', rt := Q } (L2.start Nm vs) H := by
  have hl := spW_len sp
  obtain ⟨b, bs, us, ds, N, R, rfl, hb, hu, hsub, lv, nt, bx', hd, ⟨_, hw⟩, q⟩ := sp
  have es : L2.start Nm (b.map V.ref ++ us) = ((b.map V.ref ++ us).map some) ++ List.replicate k none := by
    unfold L2.start
    rw [hl, hN]
    congr 2
    omega
  rw [es]
  let c : Base := ⟨b, bs, hid b H, hid bs H⟩
  have r : Rel c bs [] (((b.map V.ref ++ us).map some) ++ List.replicate k none) H (env0 bx ds k) N := ⟨env_start hb hd k, List.nodup_nil, (fun _ z => nomatch z), (fun _ z => nomatch z), (fun _ z => nomatch z), fun _ h => h, hsub, fun a ha => hid_in ha, lv, nt, bx', hid_same, Same.refl _⟩
  have ret : ∀ {v : V} {t : T} {A : List Addr} {H' : Hp} {M : Nat}, Ret c v t A H' M → R t M → Q v H' := fun {v t A H' M} rt hR => by
    have kp : Keep b H H' := fun a o e => by
      obtain ⟨h1, h2⟩ := hid_some e
      rw [hid_out h1]
      exact rt.pin a o e
    refine q v t A M H' hR kp rt.box ⟨rt.rep, rt.nd, fun a ha => ?_⟩
    have h1 : hid b H a = none := rt.off a ha
    rw [hid_out (fun z => rt.nb a ha (hsub a z))] at h1
    exact h1
  exact h r hw ⟨fun r2 w2 => ret (r2.ret r2.self (Nw.sh .non)) w2, fun rt w2 => ret rt w2, fun _ w2 => w2.elim, fun _ w2 => w2.elim⟩
/-! ### calls of defs -/
def wCallT (f : WF) (was : WA) : WT := fun ε N R => was ε N fun ds N1 => f ds 0 fun t _ => R t N1
def wCall (f : WF) (was : WA) : WE := fun ε N R => was ε N fun ds N1 => f ds 0 fun t _ => R t.data N1
theorem sim_callT {n : Nat} {f : WF} (hn : ∀ {ds N R}, f ds N R → ds.length = n) (h : SimA tas was) : SimT (tCall (spW false n f) [] E0 tas) (wCallT f was) := fun {c bs F σ H ε N R Q} r w q => h r w fun us ds N1 H1 w1 o1 hd => by
  show spW false n f (us ++ []) H1 Q E0
  rw [List.append_nil]
  refine ⟨[], bs, us, ds, 0, fun t _ => R t N1, rfl, rfl, hd.len.trans (hn w1), (fun _ z => nomatch z), out_live o1 r.live, out_notup o1 r.live r.nt, (fun _ z => nomatch z), hd, w1, fun v t A N' H' hR kp _ n => ?_⟩
  have sm : Same H1 H' := fun a o e => kp.get List.not_mem_nil e
  exact q v t A N1 H' hR (o1.ext sm) (n.back o1)
theorem sim_call {n : Nat} {f : WF} (hn : ∀ {ds N R}, f ds N R → ds.length = n) (h : SimA tas was) : SimE (tCall (spW false n f) [] E0 tas) (wCall f was) := by
  show SimE _ (wFz (wCallT f was))
  exact sim_fz (sim_callT hn h)
def isBox (ε : Env) (i : Nat) : Bool := match ε[i]? with
  | some .box => true
  | _ => false
theorem box_slot {i : Nat} (r : Rel c bs F σ H ε N) (h : isBox ε i = true) : ∃ a, c.b = [a] ∧ σ[i]? = some (some (.ref a)) := by
  unfold isBox at h
  split at h
  · rename_i e
    obtain ⟨x, A, F1, F2, hx, hr, _, _⟩ := r.env.at e
    cases hr with
    | box eb => exact ⟨_, eb, hx⟩
  · cases h
def wCallBT (i : Nat) (f : WF) (was : WA) : WT := fun ε N R => isBox ε i = true ∧ was ε N fun ds N1 => f ds N1 R
def wCallB (i : Nat) (f : WF) (was : WA) : WE := fun ε N R => isBox ε i = true ∧ was ε N fun ds N1 => f ds N1 fun t N2 => R t.data N2
theorem sim_callBT {n i : Nat} {f : WF} (hn : ∀ {ds N R}, f ds N R → ds.length = n) (h : SimA tas was) : SimT (tCall (spW true n f) [] E0 (tCons (tVar i) tas)) (wCallBT i f was) := fun {c bs F σ H ε N R Q} r w q => by
  obtain ⟨hb, w⟩ := w
  obtain ⟨a, eb, hs⟩ := box_slot r hb
  refine ⟨.ref a, hs, h r w fun us ds N1 H1 w1 o1 hd => ?_⟩
  show spW true n f (.ref a :: us ++ []) H1 Q E0
  rw [List.append_nil]
  have r1 := r.out o1
  refine ⟨c.b, bs, us, ds, N1, R, by rw [eb]; rfl, by rw [eb]; rfl, hd.len.trans (hn w1), r.bin, r1.live, r1.nt, r1.box, hd, w1, fun v t A N' H' hR kp bx n => ?_⟩
  exact q v t A N' H' hR (o1.trans ⟨kp, bx⟩) (n.back o1)
theorem sim_callB {n i : Nat} {f : WF} (hn : ∀ {ds N R}, f ds N R → ds.length = n) (h : SimA tas was) : SimE (tCall (spW true n f) [] E0 (tCons (tVar i) tas)) (wCallB i f was) := by
  show SimE _ (wFz (wCallBT i f was))
  exact sim_fz (sim_callBT hn h)
theorem wFn_len {bx : Bool} {n k : Nat} {ws : WS} {ds : List PyData} {N : Nat} {R : T → Nat → Prop} (h : wFn bx n k ws ds N R) : ds.length = n := h.1
end
end Cg

set_option Elab.async false
set_option linter.all false
set_option maxRecDepth 100000
set_option maxHeartbeats 1000000
namespace Cg
open PySem PySem.Spec PyProof.Rows L2 Evl
section
variable {ta tb te : TE} {wa wb we : WE} {wt : WT} {t : TT} {w : WB} {ts us : TS} {ws wu : WS} {tas : TA} {was : WA} {c : Base} {bs F A B : List Addr} {σ : L2.St} {H H1 : Hp} {ε : Env} {N N1 : Nat} {v : V} {x : T}
/-! ### several names at once -/
def setsV : List Nat → List V → L2.St → L2.St
  | i :: is, v :: vs, σ => setsV is vs (σ.set i (some v))
  | _, _, σ => σ
def setsE : List Nat → List T → Env → Env
  | i :: is, t :: ts, ε => setsE is ts (ε.set i (.is t))
  | _, _, ε => ε
theorem Rel.puts : ∀ {is : List Nat} {vs : List V} {ts : List T} {A F : List Addr} {σ : L2.St} {ε : Env}, Rel c bs F σ H ε N → RepL bs H vs ts A → A.Nodup → (∀ a ∈ A, a ∈ bs ∧ a ∉ F ∧ c.P a = none ∧ a ∉ c.bs0) → ∃ F', Rel c bs F' (setsV is vs σ) H (setsE is ts ε) N
  | [], _, _, _, F, _, _, r, _, _, _ => by
    unfold setsV setsE
    exact ⟨F, r⟩
  | i :: is, _, _, _, F, _, _, r, .nil, _, _ => ⟨F, r⟩
  | i :: is, _, _, _, F, _, _, r, .cons (A := A1) (B := A2) h1 k1, nd, hA => by
    obtain ⟨n1, n2, n3⟩ := List.nodup_append.mp nd
    obtain ⟨F1, r2, m2⟩ := r.put (i := i) h1 n1 fun a ha => hA a (List.mem_append_left _ ha)
    have := Rel.puts (is := is) r2 k1 n2 fun a ha => by
      obtain ⟨f1, f2, f3⟩ := hA a (List.mem_append_right _ ha)
      refine ⟨f1, fun z => ?_, f3⟩
      cases m2 a z with
      | inl h => exact f2 h
      | inr h => exact n3 a h a ha rfl
    exact this
def wParN (is : List Nat) (wts : WTs) : WS := fun D ε N => wts ε N fun ts N' => ts.length = is.length ∧ D.nx (setsE is ts ε) N'
theorem par_core {is : List Nat} {vs : List V} {ts : List T} {H' : Hp} {N' : Nat} (r : Rel c bs F σ H ε N) (o : Out c H H' N') (n : NwL bs A H H' vs ts) : ∃ F', Rel c (A ++ bs) F' (setsV is vs σ) H' (setsE is ts ε) N' :=
  (r.hide o n.new n.rep.own).puts n.rep n.nd fun a ha => nw_fact r (n.new a ha) ha
theorem two_of {vs : List V} (h : vs.length = 2) : ∃ v u, vs = [v, u] := by
  match vs, h with
  | [v, u], _ => exact ⟨v, u, rfl⟩
theorem three_of {vs : List V} (h : vs.length = 3) : ∃ v u w, vs = [v, u, w] := by
  match vs, h with
  | [v, u, w], _ => exact ⟨v, u, w, rfl⟩
theorem sim_par2 {i j : Nat} {wts : WTs} (h : SimTs tas wts) : SimS (tPar i j tas) (wParN [i, j] wts) := fun {c bs F σ H ε N DW D} r w m => h r w fun vs ts A N' H' hR o n => by
  obtain ⟨v, u, rfl⟩ := two_of (n.rep.len.trans hR.1)
  obtain ⟨F', r'⟩ := par_core (is := [i, j]) r o n
  exact ⟨v, u, rfl, m.nx r' hR.2⟩
theorem sim_par3 {i j l : Nat} {wts : WTs} (h : SimTs tas wts) : SimS (tPar3 i j l tas) (wParN [i, j, l] wts) := fun {c bs F σ H ε N DW D} r w m => h r w fun vs ts A N' H' hR o n => by
  obtain ⟨v, u, y, rfl⟩ := three_of (n.rep.len.trans hR.1)
  obtain ⟨F', r'⟩ := par_core (is := [i, j, l]) r o n
  exact ⟨v, u, y, rfl, m.nx r' hR.2⟩
/-- by a tuple that is laid and taken apart -/
theorem NwL.ext {vs : List V} {ts : List T} {H2 : Hp} (r : Rel c bs F σ H ε N) (o : Out c H H1 N1) (n : NwL bs A H H1 vs ts) (e : Same H1 H2) : NwL bs A H H2 vs ts := ⟨RepL.chg (r.hide o n.new n.rep.own).nt (same_hid e) (fun a _ x h => e a x h) n.rep, n.nd, n.new⟩
theorem sim_parG2 {K : PySem.W.Frag} {i j : Nat} {wts : WTs} (h : SimTs tas wts) : SimS (tAsg (tTup tas) (gTup K 2 (gCons (gName i) (gCons (gName j) gNil)))) (wParN [i, j] wts) := fun {c bs F σ H ε N DW D} r w m => h r w fun vs ts A N' H' hR o n => by
  obtain ⟨v, u, rfl⟩ := two_of (n.rep.len.trans hR.1)
  refine ⟨by show 2 ≤ _; decide, fun p np => ⟨p, _, rfl, SqT.of upd_same, rfl, v, _, rfl, u, _, rfl, rfl, ?_⟩⟩
  obtain ⟨F', r'⟩ := par_core (is := [i, j]) r (o.ext (Ex.new (o := .tup [v, u]) np)) (n.ext r o (Ex.new np))
  exact m.nx r' hR.2
theorem sim_parG3 {K : PySem.W.Frag} {i j l : Nat} {wts : WTs} (h : SimTs tas wts) : SimS (tAsg (tTup tas) (gTup K 3 (gCons (gName i) (gCons (gName j) (gCons (gName l) gNil))))) (wParN [i, j, l] wts) := fun {c bs F σ H ε N DW D} r w m => h r w fun vs ts A N' H' hR o n => by
  obtain ⟨v, u, y, rfl⟩ := three_of (n.rep.len.trans hR.1)
  refine ⟨by show 3 ≤ _; decide, fun p np => ⟨p, _, rfl, SqT.of upd_same, rfl, v, _, rfl, u, _, rfl, y, _, rfl, rfl, ?_⟩⟩
  obtain ⟨F', r'⟩ := par_core (is := [i, j, l]) r (o.ext (Ex.new (o := .tup [v, u, y]) np)) (n.ext r o (Ex.new np))
  exact m.nx r' hR.2
/-! ### truth -/
def truD : PyData → Option Bool
  | .none => some false
  | .bool b => some b
  | .int i => some (i != 0)
  | .list a => some (!a.isEmpty)
  | .tuple a => some (!a.isEmpty)
  | _ => none
def wTru (we : WE) : WB := fun ε N R => we ε N fun d N1 => match truD d with
  | some b => R b N1
  | none => False
theorem isEmpty_dq {xs : List V} {ds : List PyData} (h : DqAll H xs ds) : xs.isEmpty = ds.isEmpty := by
  cases h <;> rfl
theorem sim_tru {K : PySem.W.Frag} (h : SimE te we) : SimB (fun σ H Q => te σ H fun x H' => ∃ k, TruV K x H' k ∧ Q k H') (wTru we) := fun r w q => h r w fun v d N1 H1 w1 o1 hd => by
  cases hd <;> first | exact False.elim w1 | skip
  · exact ⟨_, rfl, q _ N1 H1 w1 o1⟩
  · exact ⟨_, rfl, q _ N1 H1 w1 o1⟩
  · exact ⟨_, rfl, q _ N1 H1 w1 o1⟩
  · rename_i a xs ds e1 h1
    exact ⟨!xs.isEmpty, .inl ⟨xs, SqL.of (hid_some e1).2, rfl⟩, by rw [isEmpty_dq h1]; exact q _ N1 H1 w1 o1⟩
  · rename_i a xs ds e1 h1
    exact ⟨!xs.isEmpty, .inr (.inl ⟨xs, SqT.of (hid_some e1).2, rfl⟩), by rw [isEmpty_dq h1]; exact q _ N1 H1 w1 o1⟩
end
/-! ### draws -/
def w_take : WF := fun ds N R => match ds with
  | [.int m] => (1 ≤ m ∧ m ≤ 10000000 ∧ N ≤ 1000000000) ∧ ∀ k : Nat, (k : Int) < m → R (.sh (.int (k : Int))) (N + 1)
  | _ => False
theorem w_take_len {ds : List PyData} {N : Nat} {R : T → Nat → Prop} (h : w_take ds N R) : ds.length = 1 := by
  unfold w_take at h
  split at h
  · rfl
  · exact h.elim
theorem sp_take {vs : List V} {H : Hp} {Q : VK} {E : XK} (h : spW true 1 w_take vs H Q E) : spTake vs H Q E := by
  obtain ⟨b, bs, us, ds, N, R, rfl, hb, hu, hsub, lv, nt, bx, hd, hw, q⟩ := h
  match b, hb with
  | [a], _ =>
    unfold w_take at hw
    split at hw
    · rename_i m
      obtain ⟨v, rfl, hv⟩ := dq1 hd
      cases hv
      obtain ⟨⟨h1, h2, h3⟩, hk⟩ := hw
      refine ⟨a, m, N, rfl, bx a (List.mem_singleton.mpr rfl), h3, h1, h2, fun k H' k0 k1 hB kp => ?_⟩
      have e : k = ((k.toNat : Nat) : Int) := by omega
      rw [e]
      refine q _ _ [] (N + 1) H' (hk k.toNat (by omega)) kp (fun x hx => ?_) (Nw.sh (.int _))
      rw [List.mem_singleton.mp hx]
      exact hB
    · exact hw.elim
/-! ### alike, kind by kind -/
def w_same (n : Nat) : WF := fun ds N R => match ds with
  | [d, e] => d = e ∧ Okn n d ∧ R (.sh (.bool true)) N
  | _ => False
theorem w_same_len {n : Nat} {ds : List PyData} {N : Nat} {R : T → Nat → Prop} (h : w_same n ds N R) : ds.length = 2 := by
  unfold w_same at h
  split at h
  · rfl
  · exact h.elim
theorem sp_same {n : Nat} {vs : List V} {H : Hp} {Q : VK} {E : XK} (h : spW false 2 (w_same n) vs H Q E) : spSame n vs H Q E := by
  obtain ⟨b, bs, us, ds, N, R, rfl, hb, hu, hsub, lv, nt, bx, hd, hw, q⟩ := h
  have eb : b = [] := List.length_eq_zero_iff.mp hb
  subst eb
  unfold w_same at hw
  split at hw
  · rename_i d e
    obtain ⟨v, u, rfl, hv, hu2⟩ := dq2 hd
    obtain ⟨rfl, hok, hR⟩ := hw
    refine ⟨v, u, d, rfl, dq_vis hv, dq_vis hu2, hok, fun H2 e2 => q _ _ [] N H2 hR (Keep.of e2) (fun _ z => nomatch z) (Nw.sh (.bl true))⟩
  · exact hw.elim
/-! ### the law's one turn, and the law -/
/-- asked of a box: True, at most C draws -/
def spRt (L C : Nat) : Sp := fun vs H Q _ => ∃ (b : Addr) (N : Nat), vs = [.ref b] ∧ Box H b N ∧ N ≤ L ∧ ∀ H', Keep [b] H H' → Box H' b (N + C) → Q (.bl true) H'
theorem sp_right {L C : Nat} {f : WF} (hf : ∀ N, N ≤ L → f [] N fun t N' => t.data = .bool true ∧ N' ≤ N + C) {vs : List V} {H : Hp} {Q : VK} {E : XK} (h : spRt L C vs H Q E) : spW true 0 f vs H Q E := by
  obtain ⟨b, N, rfl, hB, hN, q⟩ := h
  refine ⟨[b], [b], [], [], N, _, rfl, rfl, rfl, fun _ h => h, fun a ha => ?_, fun a ha xs => ?_, fun a ha => ?_, .nil, hf N hN, fun v t A N' H' hR kp bx n => ?_⟩
  · rw [List.mem_singleton.mp ha]; exact hB.is
  · rw [List.mem_singleton.mp ha]; exact box_tup hB
  · rw [List.mem_singleton.mp ha]; exact hB
  · have hBx := bx b (List.mem_singleton.mpr rfl)
    have hd := n.data (fun a ha => by rw [List.mem_singleton.mp ha]; exact hB.is) (fun a ha xs => by rw [List.mem_singleton.mp ha]; exact box_tup hBx)
    rw [hR.1] at hd
    cases hd
    exact q H' kp (hBx.le hR.2)
/-- all([right(box) for turn in range(n)]): all True -/
theorem r_rights {K : PySem.W.Frag} {σ : L2.St} {H : Hp} {Q : VK} {te : TE} {ta : TA} {j n L C N : Nat} {vs : List Nat} {b : Addr} (ha : EvA ta σ H [.int (n : Int)]) (hn : n ≤ 40000) (hB : Box H b N) (hL : N + C * n ≤ L) (hw : ∀ x, wipe ((wipe σ vs).set j (some x)) vs = wipe σ vs)
    (step : ∀ (i : Nat) (H' : Hp) (M : Nat) (Q' : VK), i < n → Box H' b M → M ≤ L → (∀ H2, Keep [b] H' H2 → Box H2 b (M + C) → Q' (.bl true) H2) → te ((wipe σ vs).set j (some (.int (i : Int)))) H' Q') (k : ∀ H', Keep [b] H H' → Box H' b (N + C * n) → Q (.bl true) H') :
    tCB (rAll K) (tCons (tLc (iRng1 ta) (gName j) tYes te vs) tNil) σ H Q := by
  have go : tLc (iRng1 ta) (gName j) tYes te vs σ H fun x H1 => rAll K [x] H1 Q := by
    refine ha H (Ex.refl _) _ fun H1 e1 => ⟨n, rfl, by omega, by omega, fun D nD => ?_⟩
    have toN : ((n : Int)).toNat = n := by omega
    rw [toN]
    have hDb : D ≠ b := (hB.mono e1).ne nD
    have hHD : H D = none := fresh_back e1 nD
    refine lc_range (lo := 0) (n := n) (fun i H' => H' D = some (.lst ((List.replicate i true).map V.bl)) ∧ Keep [b] H H' ∧ Box H' b (N + C * i)) ⟨upd_same, (Keep.of e1).new nD, (hB.mono e1).upd nD⟩ (fun i H' hi hP => ?_) (fun H' hP => ?_)
    · obtain ⟨h1, h2, h3⟩ := hP
      have e0 : (0 : Int) + (i : Int) = (i : Int) := Int.zero_add _
      show wipe ((wipe σ vs).set j (some (.int ((0 : Int) + (i : Int))))) vs = wipe σ vs ∧ te ((wipe σ vs).set j (some (.int ((0 : Int) + (i : Int))))) H' _
      rw [e0]
      have hCi : C * i ≤ C * n := Nat.mul_le_mul_left C (by omega)
      refine ⟨hw _, step i H' (N + C * i) _ hi h3 (by omega) fun H2 k2 b2 => ⟨_, k2.get (by simpa using hDb) h1, ?_, ?_, ?_, ?_⟩⟩
      · rw [List.length_map, List.length_replicate]
        exact Nat.lt_of_le_of_lt (show i ≤ 40000 by omega) (by decide)
      · rw [upd_same, List.replicate_succ', List.map_append]; rfl
      · exact (h2.trans k2).putNew hHD
      · have e : N + C * i + C = N + C * (i + 1) := by rw [Nat.mul_succ]; omega
        rw [← e]
        exact b2.put hDb
    · obtain ⟨h1, h2, h3⟩ := hP
      refine ⟨D, List.replicate n true, rfl, SqL.of h1, ?_⟩
      have e : (List.replicate n true).all id = true := List.all_eq_true.mpr fun x hx => by rw [List.eq_of_mem_replicate hx]; rfl
      rw [e]
      exact k H' h2 h3
  exact go
def spLaw (K : PySem.W.Frag) : Sp := fun vs H Q _ => ∃ (a : Addr) (ns : List Int), vs = [.ref a] ∧ SqL K H a (ns.map V.int) ∧ ns.length ≤ 63 ∧ ∀ H', Q (.bl true) H'
/-- the built-ins that the text asks are the built-ins still -/
structure Bm (mg : Str → Option Value) : Prop where
  int : mg "int" = none
  bool : mg "bool" = none
  list : mg "list" = none
  tuple : mg "tuple" = none
  str : mg "str" = none
  len : mg "len" = none
  all : mg "all" = none
  isinstance : mg "isinstance" = none
  range : mg "range" = none
  enumerate : mg "enumerate" = none
  zip : mg "zip" = none
  repr : mg "repr" = none
  abs : mg "abs" = none
  min : mg "min" = none
  max : mg "max" = none
  divmod : mg "divmod" = none
  sum : mg "sum" = none
  sorted : mg "sorted" = none
  any : mg "any" = none
  set : mg "set" = none
  reversed : mg "reversed" = none
theorem Bm.bl {mg : Str → Option Value} (B : Bm mg) : Bl mg := ⟨B.int, B.bool, B.list, B.tuple, B.str, B.len, B.all, B.isinstance, B.range, B.enumerate, B.zip, B.repr, B.abs, B.min, B.max, B.divmod⟩
section
variable {X : Cx}
theorem ixSK (K : PySem.W.Frag) (hK : X.K = K := by rfl) : IxR X (rIx K) := by subst hK; exact ix_seq
theorem sumK (K : PySem.W.Frag) (hK : X.K = K := by rfl) (hc : X.calm = true := by rfl) : CallR X (.builtin "sum") (rSum K) := by subst hK; exact cr_sum hc
theorem pt_truthK (K : PySem.W.Frag) {a : Expr} {ta : TE} (ha : PE X a ta) (he : ∀ whole, isTrue a X.env whole = (do let v ← whole; standAt a.pos; holding [v] (truthy v))) (hK : X.K = K := by rfl) : PT X a (fun σ H Q => ta σ H fun x H' => ∃ k, TruV K x H' k ∧ Q k H') := by subst hK; exact pt_truth ha he
end
end Cg

set_option Elab.async false
set_option linter.all false
set_option maxRecDepth 100000
set_option maxHeartbeats 1000000
namespace Cg
open PySem PySem.Spec PyProof.Rows L2 Evl
/-! ### equations for reckoning -/
section
variable {ε : Env} {N : Nat} {R : PyData → Nat → Prop} {S : PyData → Prop} {d e : PyData} {i : Nat} {t : T} {D : EW} {ts : List T} {a b : List PyData} {x y : Int} {p q : Bool} {kd : Bool}
def atSh (o : Option Sl) (k : PyData → Prop) : Prop := match o with
  | some (.is (.sh d)) => k d
  | _ => False
def atIs (o : Option Sl) (k : T → Prop) : Prop := match o with
  | some (.is t) => k t
  | _ => False
def atOwn (o : Option Sl) (k : List T → Prop) : Prop := match o with
  | some (.is (.lst ts)) => k ts
  | _ => False
def atBox (o : Option Sl) : Prop := match o with
  | some .box => True
  | _ => False
def bIf (b : Bool) (A B : Prop) : Prop := match b with
  | true => A
  | false => B
def dBool (d : PyData) (k : Bool → Prop) : Prop := match d with
  | .bool b => k b
  | _ => False
def dInt (d : PyData) (k : Int → Prop) : Prop := match d with
  | .int b => k b
  | _ => False
def dTup (d : PyData) (k : List PyData → Prop) : Prop := match d with
  | .tuple b => k b
  | _ => False
def dList (d : PyData) (k : List PyData → Prop) : Prop := match d with
  | .list b => k b
  | _ => False
def dSeq (d : PyData) (k : List PyData → Prop) : Prop := match seqOf d with
  | some ds => k ds
  | none => False
def dTru (d : PyData) (k : Bool → Prop) : Prop := match truD d with
  | some b => k b
  | none => False
def dCons (ds : List PyData) (k : PyData → List PyData → Prop) : Prop := match ds with
  | d :: r => k d r
  | [] => False
section
variable {k : PyData → Prop} {kt : T → Prop} {kl : List T → Prop} {kb : Bool → Prop} {ki : Int → Prop} {kd' : List PyData → Prop} {A B : Prop}
theorem atSh_is : atSh (some (.is (.sh d))) k = k d := propext Iff.rfl
theorem atIs_is : atIs (some (.is t)) kt = kt t := propext Iff.rfl
theorem atOwn_is : atOwn (some (.is (.lst ts))) kl = kl ts := propext Iff.rfl
theorem atBox_is : atBox (some .box) = True := propext Iff.rfl
theorem bIf_t : bIf true A B = A := propext Iff.rfl
theorem bIf_f : bIf false A B = B := propext Iff.rfl
theorem bIf_not : bIf (!p) A B = bIf p B A := by cases p <;> exact propext Iff.rfl
theorem bIf_of (h : p = true → A) (h' : p = false → B) : bIf p A B := by cases p with | true => exact h rfl | false => exact h' rfl
theorem bIf_dec {Q : Prop} [Decidable Q] (h : Q → A) (h' : ¬ Q → B) : bIf (decide Q) A B := bIf_of (fun e => h (of_decide_eq_true e)) fun e => h' (of_decide_eq_false e)
theorem bIf_beq (h : x = y → A) (h' : x ≠ y → B) : bIf (x == y) A B := bIf_of (fun e => h (eq_of_beq e)) fun e => h' (fun z => by rw [z, beq_self_eq_true] at e; cases e)
theorem dBool_is : dBool (.bool p) kb = kb p := propext Iff.rfl
theorem dInt_is : dInt (.int x) ki = ki x := propext Iff.rfl
theorem dTup_is : dTup (.tuple a) kd' = kd' a := propext Iff.rfl
theorem dList_is : dList (.list a) kd' = kd' a := propext Iff.rfl
theorem dSeq_list : dSeq (.list a) kd' = kd' a := propext Iff.rfl
theorem dSeq_tup : dSeq (.tuple a) kd' = kd' a := propext Iff.rfl
theorem dSeq_seq : dSeq (seqD kd a) kd' = kd' a := by cases kd <;> exact propext Iff.rfl
theorem dTru_none : dTru .none kb = kb false := propext Iff.rfl
theorem dTru_bool : dTru (.bool p) kb = kb p := propext Iff.rfl
theorem dTru_int : dTru (.int x) kb = kb (x != 0) := propext Iff.rfl
theorem dTru_list : dTru (.list a) kb = kb (!a.isEmpty) := propext Iff.rfl
theorem dTru_tup : dTru (.tuple a) kb = kb (!a.isEmpty) := propext Iff.rfl
theorem dCons_is {kc : PyData → List PyData → Prop} : dCons (d :: a) kc = kc d a := propext Iff.rfl
end
section
variable {RT : T → Nat → Prop} {RA : List PyData → Nat → Prop} {RB : Bool → Nat → Prop} {RO : Option Int → Nat → Prop} {RTs : List T → Nat → Prop} {RG : Env → Prop} {we wa wb wc : WE} {wt wu : WT} {wts : WTs} {was : WA} {ws wv : WS} {w w' : WB} {wo wo' : WO} {wg : WG} {wgs : WGs} {o o' : O2} {o1 : O1} {oc : OC} {on : PyData → PyData → (List PyData → Prop) → Prop} {ocn : List PyData → (List PyData → Prop) → Prop} {f : WF} {is : List Nat} {j : Nat} {g : PyData → Bool}
theorem wVar_eq : wVar i ε N R = atSh ε[i]? fun d => R d N := propext Iff.rfl
theorem wC_eq : wC d ε N R = R d N := propext Iff.rfl
theorem wRetV_eq : wRetV i D ε N = atIs ε[i]? fun t => D.rt t N := propext Iff.rfl
theorem wFrz_eq : wFrz i ws D ε N = atIs ε[i]? fun t => ws D (ε.set i (.is (.sh t.data))) N := propext Iff.rfl
theorem isBox_eq : (isBox ε i = true) = atBox ε[i]? := by
  unfold isBox atBox
  cases ε[i]? with
  | none => exact propext ⟨(fun h => nomatch h), fun h => h.elim⟩
  | some l => cases l with
    | no => exact propext ⟨(fun h => nomatch h), fun h => h.elim⟩
    | box => exact propext ⟨fun _ => True.intro, fun _ => rfl⟩
    | is t => exact propext ⟨(fun h => nomatch h), fun h => h.elim⟩
    | dic _ => exact propext ⟨(fun h => nomatch h), fun h => h.elim⟩
    | dcF _ => exact propext ⟨(fun h => nomatch h), fun h => h.elim⟩
theorem onOwn_eq {k : List T → Env → Nat → Prop} : onOwn i k ε N = atOwn ε[i]? fun ts => k ts ε N := by
  unfold onOwn ownL atOwn
  cases ε[i]? with
  | none => rfl
  | some l => cases l with
    | no => rfl
    | box => rfl
    | is t => cases t <;> rfl
    | dic _ => rfl
    | dcF _ => rfl
theorem wNil_eq : wNil ε N RA = RA [] N := propext Iff.rfl
theorem wCons_eq : wCons we was ε N RA = we ε N fun d N1 => was ε N1 fun ds N2 => RA (d :: ds) N2 := propext Iff.rfl
theorem wOp_eq : wOp o wa wb ε N R = wa ε N fun d N1 => wb ε N1 fun e N2 => o d e fun f => R f N2 := propext Iff.rfl
theorem wOpT_eq : wOpT on wa wb ε N RT = wa ε N fun d N1 => wb ε N1 fun e N2 => on d e fun ds => RT (.lst (ds.map T.sh)) N2 := propext Iff.rfl
theorem wUn_eq : wUn o1 wa ε N R = wa ε N fun d N1 => o1 d fun f => R f N1 := propext Iff.rfl
theorem wCb_eq : wCb oc was ε N R = was ε N fun ds N1 => oc ds fun f => R f N1 := propext Iff.rfl
theorem wCbT_eq : wCbT ocn was ε N RT = was ε N fun ds N1 => ocn ds fun es => RT (.lst (es.map T.sh)) N1 := propext Iff.rfl
theorem wTest_eq : wTest we ε N RB = we ε N fun d N1 => dBool d fun b => RB b N1 := propext Iff.rfl
theorem wTru_eq : wTru we ε N RB = we ε N fun d N1 => dTru d fun b => RB b N1 := propext Iff.rfl
theorem wYes_eq : wYes ε N RB = RB true N := propext Iff.rfl
theorem wNot_eq : wNot w ε N RB = w ε N fun b N1 => RB (!b) N1 := propext Iff.rfl
theorem wAnd_eq : wAnd w w' ε N RB = w ε N fun b N1 => bIf b (w' ε N1 RB) (RB false N1) := propext Iff.rfl
theorem wOr_eq : wOr w w' ε N RB = w ε N fun b N1 => bIf b (RB true N1) (w' ε N1 RB) := propext Iff.rfl
theorem wAndV_eq : wAndV wa wb ε N R = wa ε N fun d N1 => dBool d fun b => bIf b (wb ε N1 R) (R (.bool false) N1) := by
  refine congrArg (wa ε N) (funext fun d => funext fun N1 => ?_)
  cases d <;> first | rfl | skip
  rename_i b
  cases b <;> rfl
theorem wOrV_eq : wOrV wa wb ε N R = wa ε N fun d N1 => dBool d fun b => bIf b (R (.bool true) N1) (wb ε N1 R) := by
  refine congrArg (wa ε N) (funext fun d => funext fun N1 => ?_)
  cases d <;> first | rfl | skip
  rename_i b
  cases b <;> rfl
theorem wNotV_eq : wNotV wa ε N R = wa ε N fun d N1 => dBool d fun b => R (.bool !b) N1 := propext Iff.rfl
theorem wIf_eq : wIf w wa wb ε N R = w ε N fun b N1 => bIf b (wa ε N1 R) (wb ε N1 R) := propext Iff.rfl
theorem wIfT_eq : wIfT w wt wu ε N RT = w ε N fun b N1 => bIf b (wt ε N1 RT) (wu ε N1 RT) := propext Iff.rfl
theorem wChain_eq : wChain o o' wa wb wc ε N R = wa ε N fun d N1 => wb ε N1 fun e N2 => o d e fun f => dBool f fun b => bIf b (wc ε N2 fun g N3 => o' e g fun f => R f N3) (R (.bool false) N2) := by
  refine congrArg (wa ε N) (funext fun d => funext fun N1 => congrArg (wb ε N1) (funext fun e => funext fun N2 => congrArg (o d e) (funext fun f => ?_)))
  cases f <;> first | rfl | skip
  rename_i b
  cases b <;> rfl
theorem wLst_eq : wLst was ε N R = was ε N fun ds N1 => ds.length ≤ 100000 ∧ R (.list ds) N1 := propext Iff.rfl
theorem wTup_eq : wTup was ε N R = was ε N fun ds N1 => ds.length ≤ 100000 ∧ R (.tuple ds) N1 := propext Iff.rfl
theorem wNilT_eq : wNilT ε N RTs = RTs [] N := propext Iff.rfl
theorem wConsT_eq : wConsT wt wts ε N RTs = wt ε N fun t N1 => wts ε N1 fun ts N2 => RTs (t :: ts) N2 := propext Iff.rfl
theorem wLstT_eq : wLstT wts ε N RT = wts ε N fun ts N1 => ts.length ≤ 100000 ∧ RT (.lst ts) N1 := propext Iff.rfl
theorem wTupT_eq : wTupT wts ε N RT = wts ε N fun ts N1 => ts.length ≤ 100000 ∧ RT (.tup ts) N1 := propext Iff.rfl
theorem wSh_eq : wSh we ε N RT = we ε N fun d N' => RT (.sh d) N' := propext Iff.rfl
theorem wFz_eq : wFz wt ε N R = wt ε N fun t N' => R t.data N' := propext Iff.rfl
theorem wVw_eq : wVw we ε N R = we (viewE ε) N fun d N' => imm d = true ∧ R d N' := propext Iff.rfl
theorem wVb_eq : wVb w ε N RB = w (viewE ε) N RB := propext Iff.rfl
theorem wVt_eq : wVt wt ε N RT = wt (viewE ε) N fun t N' => t.clean = true ∧ RT t N' := propext Iff.rfl
theorem view_nil : viewE [] = [] := by rw [viewE, List.map_nil]
theorem view_cons {l : Sl} : viewE (l :: ε) = l.view :: viewE ε := by rw [viewE, List.map_cons, viewE]
theorem view_no : Sl.view .no = .no := by unfold Sl.view; rfl
theorem view_box : Sl.view .box = .box := by unfold Sl.view; rfl
theorem view_is : Sl.view (.is t) = .is (.sh t.data) := by unfold Sl.view; rfl
theorem wCall_eq : wCall f was ε N R = was ε N fun ds N1 => f ds 0 fun t _ => R t.data N1 := propext Iff.rfl
theorem wCallT_eq : wCallT f was ε N RT = was ε N fun ds N1 => f ds 0 fun t _ => RT t N1 := propext Iff.rfl
theorem wCallB_eq : wCallB i f was ε N R = (isBox ε i = true ∧ was ε N fun ds N1 => f ds N1 fun t N2 => R t.data N2) := propext Iff.rfl
theorem wCallBT_eq : wCallBT i f was ε N RT = (isBox ε i = true ∧ was ε N fun ds N1 => f ds N1 RT) := propext Iff.rfl
theorem wIs_eq : wIs g wa ε N R = wa ε N fun d N1 => R (.bool (g d)) N1 := propext Iff.rfl
theorem wNoPart_eq : wNoPart ε N RO = RO none N := propext Iff.rfl
theorem wPart_eq : wPart we ε N RO = we ε N fun d N1 => dInt d fun i => RO (some i) N1 := propext Iff.rfl
theorem wSl_eq : wSl we wo wo' ε N R = we ε N fun d N1 => wo ε N1 fun lo N2 => wo' ε N2 fun hi N3 => dList d fun a => R (.list (cutG a lo hi)) N3 := propext Iff.rfl
theorem wSlT_eq : wSlT we wo wo' ε N RT = we ε N fun d N1 => wo ε N1 fun lo N2 => wo' ε N2 fun hi N3 => dList d fun a => RT (.lst ((cutG a lo hi).map T.sh)) N3 := propext Iff.rfl
theorem wRevT_eq : wRevT we ε N RT = we ε N fun d N1 => dList d fun a => RT (.lst (a.reverse.map T.sh)) N1 := propext Iff.rfl
theorem wRgL_eq : wRgL we ε N RT = we ε N fun d N1 => dInt d fun n => (0 ≤ n ∧ n ≤ 100000) ∧ RT (.lst ((List.range n.toNat).map fun (k : Nat) => T.sh (.int (k : Int)))) N1 := propext Iff.rfl
theorem wSkip_eq : wSkip D ε N = D.nx ε N := propext Iff.rfl
theorem wBreak_eq : wBreak D ε N = D.bk ε N := propext Iff.rfl
theorem wCont_eq : wCont D ε N = D.ct ε N := propext Iff.rfl
theorem wSeq_eq : wSeq ws wv D ε N = ws (D.seq (wv D)) ε N := propext Iff.rfl
theorem seq_nx {k : Env → Nat → Prop} : (D.seq k).nx ε N = k ε N := propext Iff.rfl
theorem seq_rt {k : Env → Nat → Prop} : (D.seq k).rt t N = D.rt t N := propext Iff.rfl
theorem seq_bk {k : Env → Nat → Prop} : (D.seq k).bk ε N = D.bk ε N := propext Iff.rfl
theorem seq_ct {k : Env → Nat → Prop} : (D.seq k).ct ε N = D.ct ε N := propext Iff.rfl
theorem loop_nx {k : Env → Nat → Prop} : (D.loop k).nx ε N = k ε N := propext Iff.rfl
theorem loop_rt {k : Env → Nat → Prop} : (D.loop k).rt t N = D.rt t N := propext Iff.rfl
theorem loop_bk {k : Env → Nat → Prop} : (D.loop k).bk ε N = D.nx ε N := propext Iff.rfl
theorem loop_ct {k : Env → Nat → Prop} : (D.loop k).ct ε N = k ε N := propext Iff.rfl
theorem fn_nx {R : T → Nat → Prop} : (EW.fn R).nx ε N = R (.sh .none) N := propext Iff.rfl
theorem fn_rt {R : T → Nat → Prop} : (EW.fn R).rt t N = R t N := propext Iff.rfl
theorem wRet_eq : wRet wt D ε N = wt ε N fun t N' => D.rt t N' := propext Iff.rfl
theorem wRetN_eq : wRetN D ε N = D.rt (.sh .none) N := propext Iff.rfl
theorem wIfS_eq : wIfS w ws wv D ε N = w ε N fun b N1 => bIf b (ws D ε N1) (wv D ε N1) := propext Iff.rfl
theorem wAsgT_eq : wAsgT i wt D ε N = wt ε N fun t N' => D.nx (ε.set i (.is t)) N' := propext Iff.rfl
theorem wAsg_eq : wAsg we wg D ε N = we ε N fun d N' => wg d ε fun ε' => D.nx ε' N' := propext Iff.rfl
theorem wParN_eq : wParN is wts D ε N = wts ε N fun ts N' => ts.length = is.length ∧ D.nx (setsE is ts ε) N' := propext Iff.rfl
theorem setsE_cons {i : Nat} {is : List Nat} {t : T} {ts : List T} : setsE (i :: is) (t :: ts) ε = setsE is ts (ε.set i (.is t)) := by rw [setsE]
theorem setsE_nil : setsE [] ts ε = ε := by cases ts <;> rfl
theorem wDrop_eq : wDrop we D ε N = we ε N fun _ N' => D.nx ε N' := propext Iff.rfl
theorem wName_eq : wName i d ε RG = RG (ε.set i (.is (.sh d))) := propext Iff.rfl
theorem wGNil_eq : wGNil a ε RG = (a = [] ∧ RG ε) := propext Iff.rfl
theorem wGCons_eq : wGCons wg wgs a ε RG = dCons a fun d r => wg d ε fun ε' => wgs r ε' RG := propext Iff.rfl
theorem wGTup_eq : wGTup j wgs d ε RG = dTup d fun ds => ds.length = j ∧ wgs ds ε RG := propext Iff.rfl
theorem wApp_eq : wApp i wt D ε N = atOwn ε[i]? fun ts => wt ε N fun t N' => ts.length ≤ 100000 ∧ D.nx (ε.set i (.is (.lst (ts ++ [t])))) N' := onOwn_eq
theorem wRev_eq : wRev i D ε N = atOwn ε[i]? fun ts => D.nx (ε.set i (.is (.lst ts.reverse))) N := onOwn_eq
theorem wClr_eq : wClr i D ε N = atOwn ε[i]? fun ts => D.nx (ε.set i (.is (.lst []))) N := onOwn_eq
theorem wExt_eq : wExt i we D ε N = atOwn ε[i]? fun ts => we ε N fun d N' => dList d fun ds => ts.length + ds.length ≤ 100000 ∧ D.nx (ε.set i (.is (.lst (ts ++ ds.map T.sh)))) N' := onOwn_eq
theorem wSet_eq : wSet i we wt D ε N = atOwn ε[i]? fun ts => wt ε N fun t N1 => we ε N1 fun d N2 => dInt d fun k => ∃ j, ixN ts.length k = some j ∧ D.nx (ε.set i (.is (.lst (ts.set j t)))) N2 := onOwn_eq
theorem wPop_eq : wPop i we wg D ε N = atOwn ε[i]? fun ts => we ε N fun d N1 => dInt d fun k => (0 ≤ k ∧ k < ts.length ∧ k ≤ 1000000) ∧ ∃ d, ts[k.toNat]? = some (.sh d) ∧ wg d (ε.set i (.is (.lst (ts.eraseIdx k.toNat)))) fun ε' => D.nx ε' N1 := onOwn_eq
theorem wipe_nil : wipeE ε [] = ε := by rw [wipeE]
theorem wipe_cons : wipeE ε (i :: is) = (wipeE ε is).set i .no := by rw [wipeE]
theorem env0_f : env0 false a j = a.map (fun d => Sl.is (.sh d)) ++ List.replicate j Sl.no := by
  unfold env0
  rw [if_neg (by decide), List.nil_append]
theorem env0_t : env0 true a j = Sl.box :: (a.map (fun d => Sl.is (.sh d)) ++ List.replicate j Sl.no) := by
  unfold env0
  rw [if_pos rfl]
  rfl
end
theorem oI_int {C : Int → Int → Prop} {g : Int → Int → PyData} : oI C g (.int x) (.int y) S = (C x y ∧ S (g x y)) := propext Iff.rfl
theorem oI0_int {g : Int → Int → PyData} : oI0 g (.int x) (.int y) S = S (g x y) := propext Iff.rfl
theorem oAdd_int : oAdd (.int x) (.int y) S = S (.int (x + y)) := propext Iff.rfl
theorem oAdd_list : oAdd (.list a) (.list b) S = (a.length + b.length ≤ 1000000 ∧ S (.list (a ++ b))) := propext Iff.rfl
theorem oMul_int : oMul (.int x) (.int y) S = (CMul x y ∧ S (.int (x * y))) := propext Iff.rfl
theorem oMul_list : oMul (.list a) (.int x) S = ((0 ≤ x ∧ x ≤ 1000000 ∧ a.length * x.toNat ≤ 1000000) ∧ S (.list (List.replicate x.toNat a).flatten)) := propext Iff.rfl
theorem oNeg_int : oNeg (.int x) S = S (.int (-x)) := propext Iff.rfl
theorem oEq_int : oEq (.int x) (.int y) S = S (.bool (x == y)) := propext Iff.rfl
theorem oEq_bool : oEq (.bool p) (.bool q) S = S (.bool (p == q)) := propext Iff.rfl
theorem oEq_nn : oEq .none .none S = S (.bool true) := propext Iff.rfl
theorem oEq_in : oEq (.int x) .none S = S (.bool false) := propext Iff.rfl
theorem oEq_ni : oEq .none (.int x) S = S (.bool false) := propext Iff.rfl
theorem oNe_int : oNe (.int x) (.int y) S = S (.bool (!(x == y))) := propext Iff.rfl
theorem oNe_bool : oNe (.bool p) (.bool q) S = S (.bool (!(p == q))) := propext Iff.rfl
theorem oNe_nn : oNe .none .none S = S (.bool false) := propext Iff.rfl
theorem oNe_in : oNe (.int x) .none S = S (.bool true) := propext Iff.rfl
theorem oNe_ni : oNe .none (.int x) S = S (.bool true) := propext Iff.rfl
theorem oEq_list : oEq (.list a) (.list b) S = (SeqAt.shaped (.list a) = true ∧ SeqAt.shaped (.list b) = true ∧ S (.bool (PyData.eqv (.list a) (.list b)))) := propext Iff.rfl
theorem oNe_list : oNe (.list a) (.list b) S = (SeqAt.shaped (.list a) = true ∧ SeqAt.shaped (.list b) = true ∧ S (.bool (!PyData.eqv (.list a) (.list b)))) := propext Iff.rfl
theorem oEq_tup : oEq (.tuple a) (.tuple b) S = (SeqAt.shaped (.tuple a) = true ∧ SeqAt.shaped (.tuple b) = true ∧ S (.bool (PyData.eqv (.tuple a) (.tuple b)))) := propext Iff.rfl
theorem oNe_tup : oNe (.tuple a) (.tuple b) S = (SeqAt.shaped (.tuple a) = true ∧ SeqAt.shaped (.tuple b) = true ∧ S (.bool (!PyData.eqv (.tuple a) (.tuple b)))) := propext Iff.rfl
theorem oEq_str {u v : Str} : oEq (.str u) (.str v) S = S (.bool (u == v)) := propext Iff.rfl
theorem oNe_str {u v : Str} : oNe (.str u) (.str v) S = S (.bool (!(u == v))) := propext Iff.rfl
theorem oIx_list : oIx (.list a) (.int x) S = ∃ d, atI a x = some d ∧ S d := propext Iff.rfl
theorem oIx_tup : oIx (.tuple a) (.int x) S = ∃ d, atI a x = some d ∧ S d := propext Iff.rfl
theorem oIx_seq : oIx (seqD kd a) (.int x) S = ∃ d, atI a x = some d ∧ S d := by cases kd <;> exact propext Iff.rfl
theorem oLen_list : oLen [.list a] S = S (.int a.length) := propext Iff.rfl
theorem oLen_tup : oLen [.tuple a] S = S (.int a.length) := propext Iff.rfl
theorem oLen_seq : oLen [seqD kd a] S = S (.int a.length) := by cases kd <;> exact propext Iff.rfl
theorem oInt_int : oInt [.int x] S = S (.int x) := propext Iff.rfl
theorem oInt_bool : oInt [.bool p] S = S (.int (if p then 1 else 0)) := propext Iff.rfl
theorem oAbs_int : oAbs [.int x] S = S (.int (if x < 0 then -x else x)) := propext Iff.rfl
theorem oMin2_int : oMin2 [.int x, .int y] S = S (.int (if y < x then y else x)) := propext Iff.rfl
theorem oMax2_int : oMax2 [.int x, .int y] S = S (.int (if y > x then y else x)) := propext Iff.rfl
theorem oAll_is {bs : List Bool} : oAll [.list (bs.map PyData.bool)] S = S (.bool (bs.all id)) := by
  show (match boolsOf (bs.map PyData.bool) with | some bs => S (.bool (bs.all id)) | none => False) = _
  rw [boolsOf_map]
theorem oSum_is {ns : List Int} : oSum [.list (ns.map PyData.int)] S = S (.int ns.sum) := by
  show (match intsOf (ns.map PyData.int) with | some ns => S (.int ns.sum) | none => False) = _
  rw [intsOf_map]
theorem oListD_list : oListD [.list a] S = S (.list a) := propext Iff.rfl
theorem oListD_tup : oListD [.tuple a] S = S (.list a) := propext Iff.rfl
theorem oListD_seq : oListD [seqD kd a] S = S (.list a) := by cases kd <;> exact propext Iff.rfl
theorem oTuple_list : oTuple [.list a] S = S (.tuple a) := propext Iff.rfl
theorem oTuple_tup : oTuple [.tuple a] S = S (.tuple a) := propext Iff.rfl
theorem oTuple_seq : oTuple [seqD kd a] S = S (.tuple a) := by cases kd <;> exact propext Iff.rfl
theorem oRepr_is : oRepr [d] S = ((okD d = true ∧ d.depth ≤ 40 ∧ wz d ≤ 1000000) ∧ S (.str d.shown)) := propext Iff.rfl
theorem oIs_none : oIs d .none S = S (.bool (isNone d)) := by
  show (isNone .none = true ∧ _) = _
  exact propext ⟨fun h => h.2, fun h => ⟨rfl, h⟩⟩
theorem oIsNot_none : oIsNot d .none S = S (.bool (!isNone d)) := by
  show (isNone .none = true ∧ _) = _
  exact propext ⟨fun h => h.2, fun h => ⟨rfl, h⟩⟩
theorem oIn_list {neg : Bool} {ns : List Int} : oIn neg (.int x) (.list (ns.map PyData.int)) S = S (.bool (if neg then !ns.contains x else ns.contains x)) := by
  show (match intsOf (ns.map PyData.int) with | some ns => S (.bool (if neg then !ns.contains x else ns.contains x)) | none => False) = _
  rw [intsOf_map]
theorem oIn_seq {neg : Bool} {ns : List Int} : oIn neg (.int x) (seqD kd (ns.map PyData.int)) S = S (.bool (if neg then !ns.contains x else ns.contains x)) := by
  cases kd
  · show (match intsOf (ns.map PyData.int) with | some ns => S (.bool (if neg then !ns.contains x else ns.contains x)) | none => False) = _
    rw [intsOf_map]
  · exact oIn_list
variable {SL : List PyData → Prop}
theorem oList_list : oList [.list a] SL = SL a := propext Iff.rfl
theorem oList_tup : oList [.tuple a] SL = SL a := propext Iff.rfl
theorem oList_seq : oList [seqD kd a] SL = SL a := by cases kd <;> exact propext Iff.rfl
theorem oCat_list : oCat (.list a) (.list b) SL = (a.length + b.length ≤ 1000000 ∧ SL (a ++ b)) := propext Iff.rfl
theorem oRep_list : oRep (.list a) (.int x) SL = ((0 ≤ x ∧ x ≤ 1000000 ∧ a.length * x.toNat ≤ 1000000) ∧ SL (List.replicate x.toNat a).flatten) := propext Iff.rfl
theorem w_take_is {RT : T → Nat → Prop} {m : Int} : w_take [.int m] N RT = ((1 ≤ m ∧ m ≤ 10000000 ∧ N ≤ 1000000000) ∧ ∀ k : Nat, (k : Int) < m → RT (.sh (.int (k : Int))) (N + 1)) := propext Iff.rfl
theorem w_same_is {n : Nat} {RT : T → Nat → Prop} : w_same n [d, e] N RT = (d = e ∧ Okn n d ∧ RT (.sh (.bool true)) N) := propext Iff.rfl
theorem atI_l0 {α : Type} {u : α} {l : List α} : atI (u :: l) 0 = some u := atI_nat (j := 0) rfl
theorem atI_l1 {α : Type} {u v : α} {l : List α} : atI (u :: v :: l) 1 = some v := atI_nat (j := 1) rfl
theorem atI_l2 {α : Type} {u v w : α} {l : List α} : atI (u :: v :: w :: l) 2 = some w := atI_nat (j := 2) rfl
theorem seq_list : seqD true a = .list a := rfl
theorem seq_tup : seqD false a = .tuple a := rfl
theorem atI_int {ns : List Int} {j : Nat} (h : j < ns.length) : atI (ns.map PyData.int) (j : Int) = some (.int (ns.getD j 0)) := by
  refine atI_nat ?_
  rw [List.getElem?_map, List.getD_eq_getElem?_getD, List.getElem?_eq_getElem h]
  rfl
/-! ### loops -/
variable {we : WE} {wg : WG} {wb : WS}
/-- for k in range(n) -/
theorem for_r1 {n : Nat} (I : Nat → Env → Nat → Prop) (he : ∀ R, R (.int (n : Int)) N → we ε N R) (hn : n ≤ 1000000) (h0 : I 0 ε N) (hs : ∀ k ε M, k < n → I k ε M → wg (.int (k : Int)) ε fun ε2 => wb (D.loop (I (k + 1))) ε2 M) (hd : ∀ ε M, I n ε M → D.nx ε M) : wFor (wRng1 we) wg wb D ε N := by
  refine he _ ?_
  have toN : ((n : Int)).toNat = n := by omega
  refine ⟨⟨by omega, by omega⟩, I, h0, fun k d ε M hd' hI => ?_, fun ε M hI => hd ε M ?_⟩
  · obtain ⟨hk, rfl⟩ := rng_get hd'
    rw [toN] at hk
    have := hs k ε M hk hI
    rw [Int.zero_add]
    exact this
  · rw [rngD_len, toN] at hI
    exact hI
/-- for x in a list -/
theorem for_it {ds : List PyData} (I : Nat → Env → Nat → Prop) (he : ∀ R, R d N → we ε N R) (hd0 : seqOf d = some ds) (h0 : I 0 ε N) (hs : ∀ k x ε M, ds[k]? = some x → I k ε M → wg x ε fun ε2 => wb (D.loop (I (k + 1))) ε2 M) (hd : ∀ ε M, I ds.length ε M → D.nx ε M) : wFor (wIt we) wg wb D ε N := by
  refine he _ ?_
  show (match seqOf d with | some ds => _ | none => False)
  rw [hd0]
  exact ⟨I, h0, hs, hd⟩
/-- for k, x in enumerate(a list) -/
theorem for_en {ds : List PyData} (I : Nat → Env → Nat → Prop) (he : ∀ R, R d N → we ε N R) (hd0 : seqOf d = some ds) (h0 : I 0 ε N) (hs : ∀ k x ε M, ds[k]? = some x → I k ε M → wg (.tuple [.int (k : Nat), x]) ε fun ε2 => wb (D.loop (I (k + 1))) ε2 M) (hd : ∀ ε M, I ds.length ε M → D.nx ε M) : wFor (wEnum we) wg wb D ε N := by
  refine he _ ?_
  show (match seqOf d with | some ds => _ | none => False)
  rw [hd0]
  refine ⟨I, h0, fun k x ε M hx hI => ?_, fun ε M hI => hd ε M (by rw [enumD_len] at hI; exact hI)⟩
  have hk : k < ds.length := by
    have := (List.getElem?_eq_some_iff.mp hx).1
    rw [enumD_len] at this
    exact this
  have hy := List.getElem?_eq_getElem hk
  rw [enumD_at hy] at hx
  have e := Option.some.inj hx
  subst e
  exact hs k _ ε M hy hI
/-! ### comprehensions -/
variable {wt : WB} {w : WE} {vs : List Nat} {wT : WT} {RT : T → Nat → Prop}
/-- [e for k in range(n)], with draws: what holds so far -/
theorem lc_r1 {n : Nat} (I : Nat → List PyData → Nat → Prop) (he : ∀ R, R (.int (n : Int)) N → we ε N R) (hn : n ≤ 40000) (h0 : I 0 [] N) (hs : ∀ k es M, k < n → I k es M → wg (.int (k : Int)) (wipeE ε vs) fun ε2 => w ε2 M fun e M2 => I (k + 1) (es ++ [e]) M2) (hd : ∀ es M, I n es M → R (.list es) M) : wLc (wRng1 we) wg wYes w vs ε N R := by
  refine he _ ?_
  have toN : ((n : Int)).toNat = n := by omega
  refine ⟨⟨by omega, by omega⟩, by rw [rngD_len]; omega, I, h0, fun k d es M hd' hI => ?_, fun es M hI => hd es M ?_⟩
  · obtain ⟨hk, rfl⟩ := rng_get hd'
    rw [toN] at hk
    have := hs k es M hk hI
    rw [Int.zero_add]
    exact this
  · rw [rngD_len, toN] at hI
    exact hI
theorem lcT_r1 {n : Nat} (I : Nat → List T → Nat → Prop) (he : ∀ R, R (.int (n : Int)) N → we ε N R) (hn : n ≤ 40000) (h0 : I 0 [] N) (hs : ∀ k es M, k < n → I k es M → wg (.int (k : Int)) (wipeE ε vs) fun ε2 => wT ε2 M fun e M2 => I (k + 1) (es ++ [e]) M2) (hd : ∀ es M, I n es M → RT (.lst es) M) : wLcT (wRng1 we) wg wYes wT vs ε N RT := by
  refine he _ ?_
  have toN : ((n : Int)).toNat = n := by omega
  refine ⟨⟨by omega, by omega⟩, by rw [rngD_len]; omega, I, h0, fun k d es M hd' hI => ?_, fun es M hI => hd es M ?_⟩
  · obtain ⟨hk, rfl⟩ := rng_get hd'
    rw [toN] at hk
    have := hs k es M hk hI
    rw [Int.zero_add]
    exact this
  · rw [rngD_len, toN] at hI
    exact hI
/-- [e for k in range(n)], nothing drawn -/
theorem lc_rp {n : Nat} (g : Nat → PyData) (he : ∀ R, R (.int (n : Int)) N → we ε N R) (hn : n ≤ 40000) (hs : ∀ k (R : PyData → Nat → Prop), k < n → R (g k) N → wg (.int (k : Int)) (wipeE ε vs) fun ε2 => w ε2 N R) (hd : R (.list ((List.range n).map g)) N) : wLc (wRng1 we) wg wYes w vs ε N R := by
  refine lc_r1 (fun k es M => es = (List.range k).map g ∧ M = N) he hn ⟨rfl, rfl⟩ (fun k es M hk hI => ?_) fun es M hI => ?_
  · obtain ⟨rfl, rfl⟩ := hI
    refine hs k _ hk ⟨?_, rfl⟩
    rw [List.range_succ, List.map_append]
    rfl
  · obtain ⟨rfl, rfl⟩ := hI
    exact hd
theorem lcT_rp {n : Nat} (g : Nat → T) (he : ∀ R, R (.int (n : Int)) N → we ε N R) (hn : n ≤ 40000) (hs : ∀ k (R : T → Nat → Prop), k < n → R (g k) N → wg (.int (k : Int)) (wipeE ε vs) fun ε2 => wT ε2 N R) (hd : RT (.lst ((List.range n).map g)) N) : wLcT (wRng1 we) wg wYes wT vs ε N RT := by
  refine lcT_r1 (fun k es M => es = (List.range k).map g ∧ M = N) he hn ⟨rfl, rfl⟩ (fun k es M hk hI => ?_) fun es M hI => ?_
  · obtain ⟨rfl, rfl⟩ := hI
    refine hs k _ hk ⟨?_, rfl⟩
    rw [List.range_succ, List.map_append]
    rfl
  · obtain ⟨rfl, rfl⟩ := hI
    exact hd
/-- [e for x in xs], nothing drawn -/
theorem lc_ip {ds : List PyData} (g : PyData → PyData) (he : ∀ R, R d N → we ε N R) (hd0 : seqOf d = some ds) (hn : ds.length ≤ 40000) (hs : ∀ x (R : PyData → Nat → Prop), x ∈ ds → R (g x) N → wg x (wipeE ε vs) fun ε2 => w ε2 N R) (hd : R (.list (ds.map g)) N) : wLc (wIt we) wg wYes w vs ε N R := by
  refine he _ ?_
  show (match seqOf d with | some ds => _ | none => False)
  rw [hd0]
  refine ⟨hn, fun k es M => es = (ds.take k).map g ∧ M = N, ⟨rfl, rfl⟩, fun k x es M hx hI => ?_, fun es M hI => ?_⟩
  · obtain ⟨rfl, rfl⟩ := hI
    refine hs x _ (List.mem_of_getElem? hx) ⟨?_, rfl⟩
    rw [List.take_add_one, hx, List.map_append]
    rfl
  · obtain ⟨rfl, rfl⟩ := hI
    rw [List.take_of_length_le (Nat.le_refl _)]
    exact hd
theorem lcT_ip {ds : List PyData} (g : PyData → T) (he : ∀ R, R d N → we ε N R) (hd0 : seqOf d = some ds) (hn : ds.length ≤ 40000) (hs : ∀ x (R : T → Nat → Prop), x ∈ ds → R (g x) N → wg x (wipeE ε vs) fun ε2 => wT ε2 N R) (hd : RT (.lst (ds.map g)) N) : wLcT (wIt we) wg wYes wT vs ε N RT := by
  refine he _ ?_
  show (match seqOf d with | some ds => _ | none => False)
  rw [hd0]
  refine ⟨hn, fun k es M => es = (ds.take k).map g ∧ M = N, ⟨rfl, rfl⟩, fun k x es M hx hI => ?_, fun es M hI => ?_⟩
  · obtain ⟨rfl, rfl⟩ := hI
    refine hs x _ (List.mem_of_getElem? hx) ⟨?_, rfl⟩
    rw [List.take_add_one, hx, List.map_append]
    rfl
  · obtain ⟨rfl, rfl⟩ := hI
    rw [List.take_of_length_le (Nat.le_refl _)]
    exact hd
/-! ### data alike -/
/-- of few depths, to be compared -/
def Shp (n : Nat) (d : PyData) : Prop := d.canLay0 = true ∧ d.depth ≤ n
theorem Shp.shaped {n : Nat} (h : Shp n d) (hn : n ≤ 64) : SeqAt.shaped d = true := by
  show (d.canLay0 && decide (d.depth ≤ 64)) = true
  rw [h.1, decide_eq_true (Nat.le_trans h.2 hn)]
  rfl
theorem Shp.int {n : Nat} (x : Int) : Shp n (.int x) := ⟨rfl, Nat.zero_le _⟩
theorem Shp.bool {n : Nat} (x : Bool) : Shp n (.bool x) := ⟨rfl, Nat.zero_le _⟩
theorem Shp.none {n : Nat} : Shp n .none := ⟨rfl, Nat.zero_le _⟩
theorem lay_iff : ∀ {xs : List PyData}, PyData.canLayAll0 xs = true ↔ ∀ x ∈ xs, x.canLay0 = true
  | [] => ⟨(fun _ _ z => nomatch z), fun _ => rfl⟩
  | x :: r => by
    show (x.canLay0 && PyData.canLayAll0 r) = true ↔ _
    rw [Bool.and_eq_true, lay_iff (xs := r)]
    exact ⟨fun h y hy => (List.mem_cons.mp hy).elim (fun e => e ▸ h.1) (h.2 y), fun h => ⟨h x (List.mem_cons_self ..), fun y hy => h y (List.mem_cons_of_mem _ hy)⟩⟩
theorem Shp.list {n : Nat} {xs : List PyData} (h : ∀ x ∈ xs, Shp n x) : Shp (n + 1) (.list xs) := ⟨lay_iff.mpr fun x hx => (h x hx).1, by
  show PyData.depthAll xs + 1 ≤ n + 1
  exact Nat.add_le_add_right (depthAll_iff.mpr fun x hx => (h x hx).2) 1⟩
theorem Shp.tuple {n : Nat} {xs : List PyData} (h : ∀ x ∈ xs, Shp n x) : Shp (n + 1) (.tuple xs) := ⟨lay_iff.mpr fun x hx => (h x hx).1, by
  show PyData.depthAll xs + 1 ≤ n + 1
  exact Nat.add_le_add_right (depthAll_iff.mpr fun x hx => (h x hx).2) 1⟩
theorem Shp.up {n m : Nat} (h : Shp n d) (hm : n ≤ m) : Shp m d := ⟨h.1, Nat.le_trans h.2 hm⟩
theorem Shp.ints (ns : List Int) : Shp 1 (.list (ns.map PyData.int)) := Shp.list fun x hx => by
  obtain ⟨i, _, rfl⟩ := List.mem_map.mp hx
  exact Shp.int i
theorem Shp.self {n : Nat} (h : Shp n d) : PyData.eqv d d = true := PySem.SeqAt.eqv_refl d h.1
/-! ### data to be shown -/
def Rp (n b : Nat) (d : PyData) : Prop := okD d = true ∧ d.depth ≤ n ∧ wz d ≤ b
theorem Rp.int {x : Int} (h : x.natAbs < 1048576) : Rp 0 22 (.int x) := by
  have hl : x.natAbs.log2 < 20 := by
    by_cases h0 : x.natAbs = 0
    · rw [h0]; decide
    · exact (Nat.log2_lt h0).mpr h
  refine ⟨?_, Nat.le_refl _, ?_⟩
  · show decide (x.natAbs.log2 < 1920) = true
    exact decide_eq_true (by omega)
  · show x.natAbs.log2 + 2 ≤ 22
    omega
theorem Rp.list {n b m : Nat} {xs : List PyData} (h : ∀ x ∈ xs, Rp n b x) (hm : xs.length ≤ m) : Rp (n + 1) ((b + 2) * m + 3) (.list xs) := by
  refine ⟨okAll_iff.mpr fun x hx => (h x hx).1, ?_, ?_⟩
  · show PyData.depthAll xs + 1 ≤ n + 1
    exact Nat.add_le_add_right (depthAll_iff.mpr fun x hx => (h x hx).2.1) 1
  · show wzAll xs + 3 ≤ _
    have h1 := wzAll_le (R := b) fun x hx => (h x hx).2.2
    have h2 : (b + 2) * xs.length ≤ (b + 2) * m := Nat.mul_le_mul_left _ hm
    omega
theorem Rp.tuple {n b m : Nat} {xs : List PyData} (h : ∀ x ∈ xs, Rp n b x) (hm : xs.length ≤ m) : Rp (n + 1) ((b + 2) * m + 3) (.tuple xs) := by
  refine ⟨okAll_iff.mpr fun x hx => (h x hx).1, ?_, ?_⟩
  · show PyData.depthAll xs + 1 ≤ n + 1
    exact Nat.add_le_add_right (depthAll_iff.mpr fun x hx => (h x hx).2.1) 1
  · show wzAll xs + 3 ≤ _
    have h1 := wzAll_le (R := b) fun x hx => (h x hx).2.2
    have h2 : (b + 2) * xs.length ≤ (b + 2) * m := Nat.mul_le_mul_left _ hm
    omega
theorem Rp.seq {n b m : Nat} {xs : List PyData} (kd : Bool) (h : ∀ x ∈ xs, Rp n b x) (hm : xs.length ≤ m) : Rp (n + 1) ((b + 2) * m + 3) (seqD kd xs) := by
  cases kd
  · exact Rp.tuple h hm
  · exact Rp.list h hm
theorem Rp.up {n b n' b' : Nat} (h : Rp n b d) (hn : n ≤ n') (hb : b ≤ b') : Rp n' b' d := ⟨h.1, Nat.le_trans h.2.1 hn, Nat.le_trans h.2.2 hb⟩
theorem Rp.ok {n b : Nat} (h : Rp n b d) (hn : n ≤ 40) (hb : b ≤ 1000000) : okD d = true ∧ d.depth ≤ 40 ∧ wz d ≤ 1000000 := h.up hn hb
theorem Rp.ints {ns : List Int} {m : Nat} (h : ∀ x ∈ ns, x.natAbs < 1048576) (hm : ns.length ≤ m) : Rp 1 (24 * m + 3) (.list (ns.map PyData.int)) := Rp.list (fun x hx => by
  obtain ⟨i, hi, rfl⟩ := List.mem_map.mp hx
  exact Rp.int (h i hi)) (by rw [List.length_map]; exact hm)
/-! ### data of few depths -/
theorem Okn.int {n : Nat} {x : Int} : Okn (n + 1) (.int x) := True.intro
theorem Okn.none {n : Nat} : Okn (n + 1) .none := True.intro
theorem Okn.bool {n : Nat} {x : Bool} : Okn (n + 1) (.bool x) := True.intro
theorem Okn.str {n : Nat} {x : Str} : Okn (n + 1) (.str x) := True.intro
theorem Okn.list {n : Nat} {xs : List PyData} (h : ∀ x ∈ xs, Okn n x) (hl : xs.length ≤ 40000) : Okn (n + 1) (.list xs) := ⟨hl, h⟩
theorem Okn.tuple {n : Nat} {xs : List PyData} (h : ∀ x ∈ xs, Okn n x) (hl : xs.length ≤ 40000) : Okn (n + 1) (.tuple xs) := ⟨hl, h⟩
theorem Okn.list0 {n : Nat} : Okn (n + 1) (.list []) := ⟨by decide, fun _ z => nomatch z⟩
theorem all_nil {α : Type} {p : α → Prop} : ∀ x ∈ ([] : List α), p x := fun _ z => nomatch z
theorem all_cons {α : Type} {p : α → Prop} {u : α} {l : List α} (h : p u) (k : ∀ x ∈ l, p x) : ∀ x ∈ u :: l, p x := fun x hx => by
  rcases List.mem_cons.mp hx with e | hx
  · rw [e]; exact h
  · exact k x hx
theorem all_map {α β : Type} {p : β → Prop} {f : α → β} {l : List α} (h : ∀ x ∈ l, p (f x)) : ∀ y ∈ l.map f, p y := fun y hy => by
  obtain ⟨x, hx, rfl⟩ := List.mem_map.mp hy
  exact h x hx
end
end Cg

set_option Elab.async false
set_option linter.all false
set_option maxRecDepth 100000
set_option maxHeartbeats 1000000
namespace Cg
open PySem PySem.Spec PyProof.Rows L2 Evl
theorem FnG.imp {P : Program} {w : World} {K : PySem.W.Frag} {mg : Str → Option Value} {base : Heap} {k : Nat} {f : Addr} {fd : FuncData} {ps : List Str} {sp sp' : Sp} (F : FnG P w K mg base k f fd ps sp) (h : ∀ vs H Q E, sp' vs H Q E → sp vs H Q E) : FnG P w K mg base k f fd ps sp' :=
  ⟨fun vs H Q E q => F.len vs H Q E (h _ _ _ _ q), fun A outer s H args us vs Q E hg hr he hb hv hs => F.go A outer s H args us vs Q E hg hr he hb hv (h _ _ _ _ hs)⟩
theorem set_get_ne {σ : L2.St} {i j : Nat} {x : Option V} {y : Option V} (h : σ[i]? = some y) (hne : j ≠ i) : (σ.set j x)[i]? = some y := by rw [List.getElem?_set_ne hne]; exact h
theorem set_get_eq {σ : L2.St} {i : Nat} {x : Option V} (h : i < σ.length) : (σ.set i x)[i]? = some x := by rw [List.getElem?_set_self h]
/-- for k in range(..): box = _law_box(cells, k); if not all([_law_right(box) for turn in range(R)]): return False; return True -/
theorem law_loop {K : PySem.W.Frag} {σ : L2.St} {H : Hp} {D : Ends} {ta : TA} {n s k b j R L C : Nat} {l : Addr} {ms : List Int} (ha : EvA ta σ H [.int (n : Int)]) (hn : n ≤ 1000) (hs : σ[s]? = some (some (.ref l))) (hsk : k ≠ s) (hsb : b ≠ s) (hkb : b ≠ k) (hjb : j ≠ b) (hk : k < σ.length) (hb : b < σ.length)
    (hS : ∀ H', Same H H' → SqL K H' l (ms.map V.int)) (hR : R ≤ 1000) (hL : C * R ≤ L) (hD : ∀ H', D.rt (.bl true) H') :
    tSeq (tFor (iRng1 ta) (gName k) (tSeq (tAsg (tCall (spBox K) [] E0 (tCons (tVar s) (tCons (tVar k) tNil))) (gName b)) (tIfS (tNot (tB (tCB (rAll K) (tCons (tLc (iRng1 (tCons (tC (.int (R : Int))) tNil)) (gName j) tYes (tCall (spRt L C) [] E0 (tCons (tVar b) tNil)) [j]) tNil)))) (tRet (tC (.bl false))) tNext))) (tRet (tC (.bl true))) D σ H := by
  refine ha H (Ex.refl _) _ fun H1 e1 => ⟨n, rfl, by omega, by omega, ?_⟩
  have toN : ((n : Int)).toNat = n := by omega
  rw [toN]
  refine for_range (lo := 0) (n := n) (fun i σ' H' => σ'[s]? = some (some (.ref l)) ∧ σ'.length = σ.length ∧ Same H H') ⟨hs, rfl, e1⟩ (fun i σ' H' hi hP => ?_) fun σ' H' _ => hD H'
  obtain ⟨p1, p2, p3⟩ := hP
  have e0 : (0 : Int) + (i : Int) = (i : Int) := Int.zero_add _
  rw [e0]
  refine ⟨.ref l, set_get_ne p1 hsk, .int (i : Int), set_get_eq (by omega), l, ms, i, rfl, hS H' p3, by omega, fun bx H2 e2 nb hB => ?_⟩
  have hlen : ((σ'.set k (some (.int (i : Int)))).set b (some (.ref bx))).length = σ.length := by rw [List.length_set, List.length_set, p2]
  refine r_rights (L := L) (C := C) (N := 0) (n := R) (ea_cons ev_c ea_nil) (by omega) hB (by omega) (fun x => ?_) (fun t H3 M Q' ht hB3 hM hq => ?_) fun H3 k3 b3 => ?_
  · rw [wipe_set (List.mem_singleton.mpr rfl), wipe_wipe]
  · refine ⟨.ref bx, ?_, bx, M, rfl, hB3, hM, fun H4 k4 b4 => hq H4 k4 b4⟩
    refine set_get_ne ?_ hjb
    rw [wipe_get, if_neg (fun z => hjb (List.mem_singleton.mp z).symm)]
    exact set_get_eq (by rw [List.length_set, p2]; exact hb)
  · refine ⟨true, rfl, ?_⟩
    show (if (!true) = true then _ else _)
    refine iteF ⟨set_get_ne (set_get_ne p1 hsk) hsb, hlen, ?_⟩
    exact same_box (p3.trans e2) (fresh_back p3 nb) k3
/-- return all([_law_right(_law_box(cells, k)) for k in range(..)]) -/
theorem law_comp {K : PySem.W.Frag} {σ : L2.St} {H : Hp} {D : Ends} {ta : TA} {n s j L C : Nat} {l : Addr} {ms : List Int} (ha : EvA ta σ H [.int (n : Int)]) (hn : n ≤ 1000) (hs : σ[s]? = some (some (.ref l))) (hjs : j ≠ s) (hj : j < σ.length)
    (hS : ∀ H', Same H H' → SqL K H' l (ms.map V.int)) (hD : ∀ H', D.rt (.bl true) H') :
    tRet (tCB (rAll K) (tCons (tLc (iRng1 ta) (gName j) tYes (tCall (spRt L C) [] E0 (tCons (tCall (spBox K) [] E0 (tCons (tVar s) (tCons (tVar j) tNil))) tNil)) [j]) tNil)) D σ H := by
  refine r_lawAll ha (by omega) (fun x => by rw [wipe_set (List.mem_singleton.mpr rfl), wipe_wipe]) (fun i H2 Q2 hi e2 k2 => ?_) fun H2 _ => hD H2
  refine ⟨.ref l, ?_, .int (i : Int), ?_, l, ms, i, rfl, hS H2 e2, by omega, fun b H3 e3 nb hB => ⟨b, 0, rfl, hB, Nat.zero_le _, fun H4 k4 b4 => k2 H4 (same_box e3 nb k4)⟩⟩
  · refine set_get_ne ?_ hjs
    rw [wipe_get, if_neg (fun z => hjs (List.mem_singleton.mp z).symm)]
    exact hs
  · exact set_get_eq (by rw [wipe_length]; exact hj)
/-- max(m, len(xs)) -/
theorem ev_maxN {K : PySem.W.Frag} {σ : L2.St} {H : Hp} {i m : Nat} {l : Addr} {xs : List V} (hs : σ[i]? = some (some (.ref l))) (hh : SqL K H l xs) :
    EvA (tCons (tCB (fun xs H Q => ∃ i j, xs = [V.int i, V.int j] ∧ Q (V.int (if j > i then j else i)) H) (tCons (tC (.int (m : Int))) (tCons (tCB (rLenS K) (tCons (tVar i) tNil)) tNil))) tNil) σ H [.int ((max m xs.length : Nat) : Int)] := by
  refine ea_cons (ev_is (ev_cb2 ev_c (ev_len (ev_var hs) hh) fun H1 Q q => ⟨_, _, rfl, q⟩) ?_) ea_nil
  split
  · rw [Nat.max_eq_right (by omega)]
  · rw [Nat.max_eq_left (by omega)]
/-- max(m, min(len(xs), z)) -/
theorem ev_maxMin {K : PySem.W.Frag} {σ : L2.St} {H : Hp} {i m z : Nat} {l : Addr} {xs : List V} (hs : σ[i]? = some (some (.ref l))) (hh : SqL K H l xs) :
    EvA (tCons (tCB (fun xs H Q => ∃ i j, xs = [V.int i, V.int j] ∧ Q (V.int (if j > i then j else i)) H) (tCons (tC (.int (m : Int))) (tCons (tCB (fun xs H Q => ∃ i j, xs = [V.int i, V.int j] ∧ Q (V.int (if j < i then j else i)) H) (tCons (tCB (rLenS K) (tCons (tVar i) tNil)) (tCons (tC (.int (z : Int))) tNil))) tNil))) tNil) σ H [.int ((max m (min xs.length z) : Nat) : Int)] := by
  refine ea_cons (ev_is (ev_cb2 ev_c (ev_is (ev_cb2 (ev_len (ev_var hs) hh) ev_c fun H1 Q q => ⟨_, _, rfl, q⟩) (w := .int ((min xs.length z : Nat) : Int)) ?_) fun H1 Q q => ⟨_, _, rfl, q⟩) ?_) ea_nil
  · split
    · rw [Nat.min_eq_right (by omega)]
    · rw [Nat.min_eq_left (by omega)]
  · split
    · rw [Nat.max_eq_right (by omega)]
    · rw [Nat.max_eq_left (by omega)]
end Cg

set_option Elab.async false
set_option linter.all false
set_option maxRecDepth 100000
set_option maxHeartbeats 1000000
namespace Cg
open PySem PySem.Spec PyProof.Rows L2 Evl
/-! ### zip of several rows into several names -/
theorem go_zip {prog : Program} {w : World} {A : Around} {E : Value → Shared → Prop} {s : Shared} {tg : Expr} {z TI TO T : Addr} {f0 : Value} {f1 : Bool} {Q : Unit → Shared → Prop} (hz : s.heap.get? z = some (zObj f0 f1 TI TO)) (hf : ZF f0)
    (h : ∀ h' f0', h'.get? z = some (zObj f0' f1 TI TO) → ZF f0' → Heap.SameBut z s.heap h' → Q () { s with heap := h' }) : wpAny (model prog w) A (letOwnedTupleGo tg (.ref z) (.ref T)) Q E s := by
  have same : Q () s := h s.heap f0 hz hf ⟨rfl, fun _ _ => rfl⟩
  unfold letOwnedTupleGo
  cases tg <;> first
    | exact wpAny_pure same
    | skip
  all_goals
    refine wpAny_bind (wpAny_load hz ?_)
    show wpAny (model prog w) A (if (["enumerate", "zip", "dict_itemiterator", "dict_reverseitemiterator", "odict_iterator", "itertools.zip_longest", "itertools.pairwise"].contains "zip" && (#[f0, .bool f1, .bool false, .ref TI, .ref TO] : Array Value)[0]? == some (rawInt T)) = true then _ else _) Q E s
    split
    · refine wpAny_bind (wpAny_rule ?_)
      show wpAny (model prog w) A (setField (.ref z) 0 .none) Q E s
      refine wpAny_setField_rec hz ?_ fun h' hz' hs' => h h' .none hz' (.inl rfl) hs'
      show 0 < 5
      decide
    · exact wpAny_pure same
theorem turn_zipT {P : Program} {w : World} {K : PySem.W.Frag} {elts : List Expr} {kk : Nat} {tpos : Pos} {kd : Bool} {rs : List (Addr × List V)} {ps : List (Addr × Addr)} {z TI TO : Addr} (e : ps.map (·.2) = rs.map (·.1)) (hne : rs ≠ []) (hlen : rs.length ≤ 12) (nd : (z :: TI :: TO :: ps.map (·.1)).Nodup)
    (src : ∀ p ∈ ps, p.2 ≠ z ∧ p.2 ≠ TO ∧ p.2 ∉ ps.map (·.1)) :
    Turn P w K (.Tuple elts kk tpos) (ItZ K kd rs) (z :: TI :: TO :: ps.map (·.1)) z (fun i h => ∃ f0 f1 vs, h.get? z = some (zObj f0 f1 TI TO) ∧ ZF f0 ∧ h.get? TI = some (tObj (ps.map fun p => Value.ref p.1).toArray) ∧ h.get? TO = some (tObj vs) ∧ vs.size = ps.length ∧ ∀ p ∈ ps, RIt kd h p.1 p.2 i) where
  mem := List.mem_cons_self ..
  obj := fun i h st b hb => by
    obtain ⟨f0, f1, vs, g1, g2, g3, g4, g5, g6⟩ := st
    rcases List.mem_cons.mp hb with rfl | hb
    · exact ⟨_, g1, fun v q => nomatch q⟩
    · rcases List.mem_cons.mp hb with rfl | hb
      · exact ⟨_, g3, fun v q => nomatch q⟩
      · rcases List.mem_cons.mp hb with rfl | hb
        · exact ⟨_, g4, fun v q => nomatch q⟩
        · obtain ⟨p, hp, rfl⟩ := List.mem_map.mp hb
          exact (g6 p hp).obj
  keep := fun i h h' st k => by
    obtain ⟨f0, f1, vs, g1, g2, g3, g4, g5, g6⟩ := st
    refine ⟨f0, f1, vs, k z (List.mem_cons_self ..) _ g1, g2, k TI (List.mem_cons_of_mem _ (List.mem_cons_self ..)) _ g3, k TO (List.mem_cons_of_mem _ (List.mem_cons_of_mem _ (List.mem_cons_self ..))) _ g4, g5, fun p hp => (g6 p hp).keep fun o q => k p.1 (List.mem_cons_of_mem _ (List.mem_cons_of_mem _ (List.mem_cons_of_mem _ (List.mem_map_of_mem hp)))) o q⟩
  item := by
    intro X hP hw hK hc i pins s σ H E I hf st hg
    subst hP hw hK
    obtain ⟨f0, f1, vs, g1, g2, g3, g4, g5, g6⟩ := st
    obtain ⟨L, l1, l2, l3⟩ := rows_give I e g6 hg
    have lm : L.map (·.1) = ps.map (·.1) := by rw [← l1, List.map_map]; rfl
    have ll : L.length = ps.length := by rw [← l1, List.length_map]
    have lv : L.map (fun t => Value.ref t.1) = ps.map (fun p => Value.ref p.1) := by rw [← l1, List.map_map]; rfl
    have pr : ps.length = rs.length := by
      have := congrArg List.length e
      rw [List.length_map, List.length_map] at this
      exact this
    have D : ZApart z TI TO L := ⟨by rw [lm]; exact nd, fun t ht => by
      rw [lm]
      exact src (t.1, t.2.1) (by rw [← l1]; exact List.mem_map_of_mem (f := fun t : Src => (t.1, t.2.1)) ht)⟩
    refine zipN_next g1 ?_
    refine zipN_item (kd := kd) (Q := fun v s1 => ∃ u, some v = some u ∧ wpAny (model X.prog X.w) X.A (letOwnedTupleGo (.Tuple elts kk tpos) (.ref z) u) (fun _ s2 => ∃ x H', Inv X pins σ H' s2 ∧ RelV x u ∧ (ItZ X.K kd rs).yld i H x H' ∧ (∃ f0 f1 vs, s2.heap.get? z = some (zObj f0 f1 TI TO) ∧ ZF f0 ∧ s2.heap.get? TI = some (tObj (ps.map fun p => Value.ref p.1).toArray) ∧ s2.heap.get? TO = some (tObj vs) ∧ vs.size = ps.length ∧ ∀ p ∈ ps, RIt kd s2.heap p.1 p.2 (i + 1)) ∧ ∀ b ∈ z :: TI :: TO :: ps.map (·.1), H' b = none) E s1)
      D g1 g2 (by rw [lv]; exact g3) g4 (by rw [ll]; exact g5) (fun q => hne ?_) (by omega) l3 fun h' f0' f1' vs' a1 a2 a3 a4 a5 a6 a7 a8 => ?_
    · have l0 : L.length = 0 := by rw [q]; rfl
      exact List.length_eq_zero_iff.mp (by omega)
    · rw [lv] at a3
      rw [lm] at a8
      have lts : ∀ b ∈ z :: TI :: TO :: ps.map (·.1), b < s.heap.objs.size := fun b hb => by
        rcases List.mem_cons.mp hb with rfl | hb
        · exact Heap.lt_size g1
        · rcases List.mem_cons.mp hb with rfl | hb
          · exact Heap.lt_size g3
          · rcases List.mem_cons.mp hb with rfl | hb
            · exact Heap.lt_size g4
            · obtain ⟨p, hp, rfl⟩ := List.mem_map.mp hb
              obtain ⟨o, ho, _⟩ := (g6 p hp).obj
              exact Heap.lt_size ho
      refine ⟨_, rfl, ?_⟩
      refine go_zip (s := { s with heap := h' }) a1 a2 fun h2 f2 b1 b2 sb => ?_
      have nTz : TI ≠ z := fun q => by
        rw [List.nodup_cons] at nd
        exact nd.1 (by rw [← q]; exact List.mem_cons_self ..)
      have nOz : TO ≠ z := fun q => by
        rw [List.nodup_cons] at nd
        exact nd.1 (by rw [← q]; exact List.mem_cons_of_mem _ (List.mem_cons_self ..))
      have nsz : s.heap.objs.size ≠ z := fun q => absurd (lts z (List.mem_cons_self ..)) (by rw [q]; exact Nat.lt_irrefl _)
      have b7 : h2.get? s.heap.objs.size = some _ := (sb.2 _ nsz).trans a7
      have new : ObjOk X.prog X.w (upd H s.heap.objs.size (.tup (rs.map fun r => r.2.getD i .non))) h2 s.heap.objs.size (.tup (rs.map fun r => r.2.getD i .non)) :=
        ⟨by rw [List.length_map]; exact Nat.le_trans hlen (by decide), _, l2, ⟨_, b7, rfl, _, rfl⟩⟩
      have I1 : Inv X pins σ (upd H s.heap.objs.size (.tup (rs.map fun r => r.2.getD i .non))) { s with heap := h2 } :=
        I.turnedNew (t' := s.toks) (ch := z :: TI :: TO :: ps.map (·.1)) (fun c o hb q => (sb.2 c (fun q' => hb (by rw [q']; exact List.mem_cons_self ..))).trans (a8 c o (fun q' => hb (by rw [q']; exact List.mem_cons_self ..)) (fun q' => hb (by rw [q']; exact List.mem_cons_of_mem _ (List.mem_cons_of_mem _ (List.mem_cons_self ..)))) (fun q' => hb (List.mem_cons_of_mem _ (List.mem_cons_of_mem _ (List.mem_cons_of_mem _ q')))) q)) hf (Nat.le_refl _) new
      refine ⟨.ref s.heap.objs.size, _, I1, rfl, ⟨_, rfl, I.hok.fresh (Nat.le_refl _), rfl⟩, ⟨f2, f1', vs', b1, b2, (sb.2 _ nTz).trans a3, (sb.2 _ nOz).trans a4, by rw [a5, ll], fun p hp => ?_⟩, fun b hb => ?_⟩
      · obtain ⟨t, ht, et⟩ := List.mem_map.mp (by rw [l1]; exact hp : p ∈ L.map fun t => (t.1, t.2.1))
        have npz : p.1 ≠ z := fun q => by
          rw [List.nodup_cons] at nd
          exact nd.1 (List.mem_cons_of_mem _ (List.mem_cons_of_mem _ (by rw [← q]; exact List.mem_map_of_mem hp)))
        have := a6 t ht
        rw [← et] at npz ⊢
        exact this.keep fun o q => (sb.2 _ npz).trans q
      · rw [upd_ne (Nat.ne_of_lt (lts b hb))]
        exact (hf b hb).1
  done := by
    intro X hP hw hK hc i pins s σ H E I hf st hg
    subst hP hw hK
    obtain ⟨f0, f1, vs, g1, g2, g3, g4, g5, g6⟩ := st
    cases rs with
    | nil => exact absurd rfl hne
    | cons r rs =>
      cases ps with
      | nil => cases e
      | cons p ps =>
        rw [List.map_cons, List.map_cons, List.cons.injEq] at e
        obtain ⟨sq, hi⟩ := hg r (List.mem_cons_self ..)
        obtain ⟨its, rv, rq⟩ := SqK.get I sq
        rw [← e.1] at rq
        have hl := rv.length
        have nz : p.1 ≠ z := fun q => by
          rw [List.nodup_cons] at nd
          exact nd.1 (List.mem_cons_of_mem _ (List.mem_cons_of_mem _ (by rw [← q]; exact List.mem_cons_self ..)))
        have nt : TI ≠ z := fun q => by
          rw [List.nodup_cons] at nd
          exact nd.1 (by rw [← q]; exact List.mem_cons_self ..)
        obtain ⟨s1, s2, s3⟩ := src p (List.mem_cons_self ..)
        refine zipN_next g1 (zipN_end (kd := kd) (its := ps.map (·.1)) (I.ok.hd hc) g1 g2 nt nz s1 (by rw [g3, List.map_cons, List.map_cons, List.map_map]; rfl) (g6 p (List.mem_cons_self ..)) rq (by simp; omega) fun h' e' hk he => ?_)
        obtain ⟨o, ho, hcl⟩ := he
        exact ⟨⟨e', o, rfl, ho, hcl⟩, rfl, I.turnedL (t' := s.toks) (ch := z :: TI :: TO :: (p :: ps).map (·.1)) (fun c o hb q => hk c o (fun q' => hb (by rw [q']; exact List.mem_cons_self ..)) (fun q' => hb (List.mem_cons_of_mem _ (List.mem_cons_of_mem _ (List.mem_cons_of_mem _ (by rw [q']; exact List.mem_cons_self ..))))) q) hf⟩
  self := fun A i s Q E st h => by
    obtain ⟨f0, f1, vs, g1, _⟩ := st
    have hT : s.TypeIs (.ref z) "zip" := ⟨_, g1, rfl⟩
    refine wpAny_pyIter_slot hT F.slot_zip_iter (wpAny_call_entry F.slot_zip_iter hT F.entry_zip_iter ?_ (F.args_zip_iter_1 _))
    show wpAny _ _ (ret (.ref z)) _ _ s
    exact wpAny_pure ⟨_, rfl, "zip", _, hT, F.slot_zip_next.lookup, h⟩
def iZipM (K : PySem.W.Frag) (ta : TA) : TI := fun σ H R => ta σ H fun vs H1 => ∃ (kd : Bool) (rs : List (Addr × List V)), vs = rs.map (fun r => V.ref r.1) ∧ rs ≠ [] ∧ rs.length ≤ 12 ∧ (∀ r ∈ rs, SqK kd K H1 r.1 r.2) ∧ R (ItZ K kd rs) H1
theorem pi_zip3 (K : PySem.W.Frag) {X : Cx} {e e2 e3 : Expr} {ta : TA} {p pos tpos : Pos} {elts : List Expr} {kk : Nat} (hg : Gl X "zip") (hm : X.mg "zip" = none) (ha : PA X [e, e2, e3] ta) (hK : X.K = K := by rfl)
    (hs : starEach [e, e2, e3] X.env = (false, eval e X.env) :: starEach [e2, e3] X.env := by rfl) (hpl : (backTo pos (starEach [e2, e3] X.env)).any (·.1) = false := by rfl) :
    PI X (.Tuple elts kk tpos) (.Call (.Name "zip" p) [e, e2, e3] [] pos) (iZipM K ta) := by
  subst hK
  refine ⟨fun pins s σ H R I h => Call_ (ld_blt I hg hm PyProof.Rows.boot_zip (PyProof.Rows.callWith_type1 (thn (ha.run pos pins s σ H _ I h) fun us s2 hq => ?_) hs hpl))⟩
  obtain ⟨vs, H1, I2, rv, kd, rs, ev, hne, hlen, hsq, q⟩ := hq
  subst ev
  have rv' : Vals ((rs.map (·.1)).map V.ref) us := by rw [List.map_map]; exact rv
  rw [vals_refs rv']
  refine call_zipN (kd := kd) (fun b hb => ?_) (by rw [List.length_map]; exact hlen) fun h' z hz hk => ?_
  · obtain ⟨r, hr, rfl⟩ := List.mem_map.mp hb
    obtain ⟨its, _, w2⟩ := SqK.get I2 (hsq r hr)
    exact ⟨_, w2⟩
  · obtain ⟨ps, TI, TO, vs, e1, nd, lz, lTI, lTO, lp, g1, g3, g4, g5, g6⟩ := hz
    have old : ∀ q ∈ ps, q.2 < s2.heap.objs.size := fun q hq => by
      have hm2 : q.2 ∈ rs.map (·.1) := by rw [← e1]; exact List.mem_map_of_mem hq
      obtain ⟨r, hr, er⟩ := List.mem_map.mp hm2
      obtain ⟨its, _, w2⟩ := SqK.get I2 (hsq r hr)
      rw [← er]
      exact w2.lt
    have I3 : Inv X pins σ H1 { s2 with heap := h' } := I2.kept (t' := s2.toks) hk
    have T := turn_zipT (P := X.prog) (w := X.w) (K := X.K) (elts := elts) (kk := kk) (tpos := tpos) (kd := kd) e1 hne hlen nd fun q hq => ⟨Nat.ne_of_lt (Nat.lt_of_lt_of_le (old q hq) lz), Nat.ne_of_lt (Nat.lt_of_lt_of_le (old q hq) lTO), fun z' => by
      obtain ⟨q', hq', e'⟩ := List.mem_map.mp z'
      exact Nat.ne_of_lt (Nat.lt_of_lt_of_le (old q hq) (lp q' hq')) e'.symm⟩
    refine T.self X.A 0 { s2 with heap := h' } _ _ ⟨.none, false, vs, g1, .inl rfl, g3, g4, g5, g6⟩ ?_
    refine ⟨z, _, _, _, H1, rfl, I3, T, ⟨.none, false, vs, g1, .inl rfl, g3, g4, g5, g6⟩, fun b hb => ?_, q⟩
    have lb : s2.heap.objs.size ≤ b := by
      rcases List.mem_cons.mp hb with rfl | hb
      · exact lz
      · rcases List.mem_cons.mp hb with rfl | hb
        · exact lTI
        · rcases List.mem_cons.mp hb with rfl | hb
          · exact lTO
          · obtain ⟨q', hq', rfl⟩ := List.mem_map.mp hb
            exact lp q' hq'
    exact I2.fpOk lb (I2.hok.fresh lb)
end Cg

set_option Elab.async false
set_option linter.all false
set_option maxRecDepth 100000
set_option maxHeartbeats 1000000
namespace Cg
open PySem PySem.Spec PyProof.Rows L2 Evl
section
variable {ta tb tc te : TE} {wa wb wc we : WE} {t u : TT} {w w' : WB} {tas : TA} {was : WA} {c : Base} {bs F A B hs : List Addr} {σ : L2.St} {H H1 H2 H' : Hp} {ε : Env} {N N1 N2 N' : Nat} {vs vs1 : List Nat}
/-! ### one list changes, and the box -/
theorem Rel.outD {D : Addr} (r : Rel c (D :: bs) F σ H ε N) (hDF : D ∉ F) (hDb : D ∉ c.b) (hP : c.P D = none) (k : Keep (D :: c.b) H H') (hb : ∀ a ∈ c.b, Box H' a N') (hD : ∃ acc, H' D = some (.lst acc)) : Rel c (D :: bs) F σ H' ε N' := by
  have kb : Keep (D :: bs) H H' := k.more fun a ha => by
    rcases List.mem_cons.mp ha with rfl | ha
    · exact List.mem_cons_self ..
    · exact r.bin a ha
  have get : ∀ a o, a ≠ D → a ∉ c.b → H a = some o → H' a = some o := fun a o h1 h2 e => k.get (fun z => (List.mem_cons.mp z).elim h1 h2) e
  refine ⟨RelE.chg r.nt kb (fun a ha o e => get a o (fun z => hDF (z ▸ ha)) (r.fb a ha) e) r.env, r.nd, r.sub, r.off, r.nb, r.up, r.bb, r.offb, fun a ha => ?_, fun a ha xs z => ?_, hb, fun a o e => ?_, r.vis.trans kb⟩
  · by_cases h1 : a = D
    · obtain ⟨acc, e⟩ := hD
      rw [h1, e]
      exact fun z => nomatch z
    · by_cases h2 : a ∈ c.b
      · exact (hb a h2).is
      · cases e : H a with
        | none => exact absurd e (r.live a ha)
        | some o => rw [get a o h1 h2 e]; exact fun z => nomatch z
  · by_cases h1 : a = D
    · obtain ⟨acc, e⟩ := hD
      rw [h1, e] at z
      cases z
    · by_cases h2 : a ∈ c.b
      · exact box_tup (hb a h2) z
      · cases e : H a with
        | none => exact r.live a ha e
        | some o =>
          rw [get a o h1 h2 e] at z
          exact r.nt a ha xs (e.trans z)
  · refine get a o (fun z => ?_) (fun z => ?_) (r.pin a o e)
    · rw [z, hP] at e; cases e
    · rw [r.offb a z] at e; cases e
theorem Rel.more {D : Addr} (r : Rel c bs F σ H ε N) (h : D ∉ F) (hb : D ∈ bs) : Rel { c with bs0 := D :: c.bs0 } bs F σ H ε N :=
  ⟨r.env, r.nd, r.sub, r.off, fun a ha z => (List.mem_cons.mp z).elim (fun e => h (e ▸ ha)) (r.nb a ha), fun a ha => (List.mem_cons.mp ha).elim (fun e => e ▸ hb) (r.up a), fun a ha => List.mem_cons_of_mem _ (r.bb a ha), r.offb, r.live, r.nt, r.box, r.pin, r.vis⟩
/-- [e for x in .. if .. for y in .. if ..] -/
def wLcT2 (wi : WI) (wg : WG) (wt : WB) (wi1 : WI) (wg1 : WG) (wt1 : WB) (w : WE) (vs vs1 : List Nat) : WT := fun ε N R => wi ε N fun ds N1 => ∃ I : Nat → List PyData → Nat → Prop, I 0 [] N1 ∧
  (∀ k d es M, ds[k]? = some d → I k es M → wg d (wipeE ε vs) fun ε2 => wt ε2 M fun b M2 => bIf b (wi1 ε2 M2 fun ds1 M3 => ∃ I1 : Nat → List PyData → Nat → Prop, I1 0 es M3 ∧
    (∀ j d1 es1 M4, ds1[j]? = some d1 → I1 j es1 M4 → wg1 d1 (wipeE ε2 vs1) fun ε3 => wt1 ε3 M4 fun b1 M5 => bIf b1 (w ε3 M5 fun e M6 => es1.length ≤ 100000 ∧ I1 (j + 1) (es1 ++ [e]) M6) (I1 (j + 1) es1 M5)) ∧ ∀ es1 M4, I1 ds1.length es1 M4 → I (k + 1) es1 M4) (I (k + 1) es M2)) ∧ ∀ es M, I ds.length es M → R (.lst (es.map T.sh)) M
theorem sim_lcT2 {ti ti1 : TI} {wi wi1 : WI} {g g1 : TG} {wg wg1 : WG} {tt tt1 : TT} {wt wt1 : WB} {te : TE} {w : WE} (hi : SimI ti wi) (hg : SimG vs g wg) (ht : SimB tt wt) (hi1 : SimI ti1 wi1) (hg1 : SimG vs1 g1 wg1) (ht1 : SimB tt1 wt1) (he : SimE te w) : SimT (tLc2 ti g tt ti1 g1 tt1 te vs vs1) (wLcT2 wi wg wt wi1 wg1 wt1 w vs vs1) := fun {c bs F σ H ε N R Q} r ww q => hi r ww fun J ds N1 H1 w1 o1 Y D nD => by
  obtain ⟨I, i0, step, fin⟩ := w1
  have r1 := r.out o1
  have Dbs : D ∉ bs := r1.live.out nD
  have Db : D ∉ c.b := fun z => Dbs (r.bin D z)
  have DF : D ∉ F := fun z => Dbs (r.sub D z)
  have DP : c.P D = none := pin_none r1 nD
  let cD : Base := { c with bs0 := D :: c.bs0 }
  have world : ∀ {H' : Hp} {acc : List V} {M : Nat}, H' D = some (.lst acc) → Out c H1 H' M → Rel cD (D :: bs) F σ H' ε M := fun {H' acc M} hD o =>
    (r1.hide (A := [D]) o (fun a ha => by rw [List.mem_singleton.mp ha]; exact nD) (fun a ha => by rw [List.mem_singleton.mp ha]; exact own_lst hD)).more DF (List.mem_cons_self ..)
  have vis : ∀ {H' : Hp} {M : Nat}, Out c H1 H' M → Same (hid bs H1) (hid (D :: bs) H') := fun {H' M} o => vis_step (bs := bs) (B := [D]) o r.bin (fun a ha => by rw [List.mem_singleton.mp ha]; exact nD)
  refine it_by (J := J) (n := ds.length) (Body := fun x H' Nx => g x (L2.wipe σ vs) H' fun σ2 H2 => L2.wipe σ2 vs = L2.wipe σ vs ∧ tt σ2 H2 fun b H3 =>
      if b = true then ti1 σ2 H3 fun J1 H4 => ∃ W1 : Nat → Nat → Hp → Prop, (∃ m, W1 0 m H4) ∧ ∀ j k H, W1 j k H →
        (J1.stop j H ∧ Nx H) ∨ (J1.go j H ∧ ∃ Nx1 : Hp → Prop, (∀ H', Nx1 H' → ∃ k', k' < k ∧ W1 (j + 1) k' H') ∧ ∀ x H', J1.yld j H x H' → g1 x (L2.wipe σ2 vs1) H' fun σ3 H5 => L2.wipe σ3 vs1 = L2.wipe σ2 vs1 ∧ tt1 σ3 H5 fun b H6 =>
          if b = true then te σ3 H6 fun y H7 => ∃ acc, H7 D = some (.lst acc) ∧ acc.length < sizeLine ∧ Nx1 (upd H7 D (.lst (acc ++ [y]))) else Nx1 H6)
      else Nx H3)
    (fun k H' => ∃ (acc : List V) (es : List PyData) (M : Nat), H' D = some (.lst acc) ∧ I k es M ∧ Out c H1 H' M ∧ DqAll (hid (D :: bs) H') acc es) ⟨[], [], N1, upd_same, i0, ⟨(Keep.refl _ _).new nD, fun a ha => (r1.box a ha).upd nD⟩, .nil⟩
    (fun k H' hk hP => ?_) (fun H' hP => ?_) (fun k x H' H'' hk hP hy => ?_) (fun H' hP => ?_)
  · obtain ⟨acc, es, M, hD, hI, o, da⟩ := hP
    exact Y.go k H' _ hk (vis o)
  · obtain ⟨acc, es, M, hD, hI, o, da⟩ := hP
    exact Y.stop H' _ (vis o)
  · obtain ⟨acc, es, M, hD, hI, o, da⟩ := hP
    have rw0 := world hD o
    obtain ⟨sm, d, gd, dx⟩ := Y.yld k x H' H'' _ hk (vis o) rw0.live hy
    have rw1 := rw0.ext sm
    obtain ⟨Fw, rw2⟩ := rel_wipe rw1 vs
    refine hg rw2 dx (step k d es M gd hI) fun F3 σ3 ε3 r3 e3 w3 => ⟨e3.trans (wipe_wipe σ vs), ?_⟩
    refine ht r3 w3 fun b M2 H3 w4 o3 => ?_
    have o3' : Out c H'' H3 M2 := ⟨o3.keep, o3.box⟩
    have oo : Out c H1 H3 M2 := (o.ext sm).trans o3'
    have da3 : DqAll (hid (D :: bs) H3) acc es := da.mono (out_keep ((rw0.ofSame sm).trans o3) rw0.bin)
    have hD3 : H3 D = some (.lst acc) := out_get o3' Db (sm _ _ hD)
    cases b with
    | false => exact iteF ⟨acc, es, M2, hD3, w4, oo, da3⟩
    | true =>
      refine iteT ?_
      have r4 := r3.out o3
      refine hi1 r4 w4 fun J1 ds1 M3 H4 w5 o4 Y1 => ?_
      obtain ⟨I1, j0, step1, fin1⟩ := w5
      have o4' : Out c H3 H4 M3 := ⟨o4.keep, o4.box⟩
      have r5 := r4.out o4
      have DF3 : D ∉ F3 := fun z => r5.nb D z (List.mem_cons_self ..)
      have hD4 : H4 D = some (.lst acc) := out_get o4' Db hD3
      have da4 : DqAll (hid (D :: bs) H4) acc es := da3.mono (out_keep o4 r4.bin)
      refine it_by (J := J1) (n := ds1.length) (Body := fun x H' Nx1 => g1 x (L2.wipe σ3 vs1) H' fun σ4 H5 => L2.wipe σ4 vs1 = L2.wipe σ3 vs1 ∧ tt1 σ4 H5 fun b H6 =>
          if b = true then te σ4 H6 fun y H7 => ∃ acc, H7 D = some (.lst acc) ∧ acc.length < sizeLine ∧ Nx1 (upd H7 D (.lst (acc ++ [y]))) else Nx1 H6)
        (fun j H' => ∃ (acc : List V) (es1 : List PyData) (M : Nat), H' D = some (.lst acc) ∧ I1 j es1 M ∧ Out c H1 H' M ∧ DqAll (hid (D :: bs) H') acc es1 ∧ Keep (D :: c.b) H4 H') ⟨acc, es, M3, hD4, j0, oo.trans o4', da4, Keep.refl _ _⟩
        (fun j H5 hj hP => ?_) (fun H5 hP => ?_) (fun j y H5 H6 hj hP hy1 => ?_) (fun H5 hP => ?_)
      · obtain ⟨ac, es1, M4, a1, a2, a3, a4, a5⟩ := hP
        exact Y1.go j H5 (D :: bs) hj (a5.more fun a ha => (List.mem_cons.mp ha).elim (fun e => e ▸ List.mem_cons_self ..) fun h => r5.bin a h)
      · obtain ⟨ac, es1, M4, a1, a2, a3, a4, a5⟩ := hP
        exact Y1.stop H5 (D :: bs) (a5.more fun a ha => (List.mem_cons.mp ha).elim (fun e => e ▸ List.mem_cons_self ..) fun h => r5.bin a h)
      · obtain ⟨ac, es1, M4, a1, a2, a3, a4, a5⟩ := hP
        have r6 : Rel cD (D :: bs) F3 σ3 H5 ε3 M4 := r5.outD DF3 Db DP a5 a3.box ⟨ac, a1⟩
        obtain ⟨sm1, d1, gd1, dx1⟩ := Y1.yld j y H5 H6 (D :: bs) hj (a5.more fun a ha => (List.mem_cons.mp ha).elim (fun e => e ▸ List.mem_cons_self ..) fun h => r5.bin a h) r6.live hy1
        have r7 := r6.ext sm1
        obtain ⟨F7, r8⟩ := rel_wipe r7 vs1
        refine hg1 r8 dx1 (step1 j d1 es1 M4 gd1 a2) fun F9 σ9 ε9 r9 e9 w9 => ⟨e9.trans (wipe_wipe σ3 vs1), ?_⟩
        refine ht1 r9 w9 fun b1 M5 H7 w10 o7 => ?_
        have o7' : Out c H6 H7 M5 := ⟨o7.keep, o7.box⟩
        have a3' : Out c H1 H7 M5 := (a3.ext sm1).trans o7'
        have a4' : DqAll (hid (D :: bs) H7) ac es1 := a4.mono (out_keep ((r6.ofSame sm1).trans o7) r6.bin)
        have a1' : H7 D = some (.lst ac) := out_get o7' Db (sm1 _ _ a1)
        have a5' : Keep (D :: c.b) H4 H7 := (a5.ext sm1).trans (o7'.keep.more fun a ha => List.mem_cons_of_mem _ ha)
        cases b1 with
        | false => exact iteF ⟨ac, es1, M5, a1', w10, a3', a4', a5'⟩
        | true =>
          refine iteT ?_
          have r10 := r9.out o7
          refine he r10 w10 fun v f M6 H8 w11 o8 hv => ?_
          have o8' : Out c H7 H8 M6 := ⟨o8.keep, o8.box⟩
          have a1'' : H8 D = some (.lst ac) := out_get o8' Db a1'
          have kk : Keep (D :: bs) H8 (upd H8 D (.lst (ac ++ [v]))) := (Keep.refl _ _).put (List.mem_cons_self ..)
          refine ⟨ac, a1'', ?_, ac ++ [v], es1 ++ [f], M6, upd_same, w11.2, ?_, ?_, ?_⟩
          · rw [a4.len]
            exact Nat.lt_of_le_of_lt w11.1 (by decide)
          · exact ⟨(a3'.trans o8').keep.putNew nD, fun a ha => ((a3'.trans o8').box a ha).put (fun z => Db (z ▸ ha))⟩
          · exact ((a4'.mono (out_keep o8 r10.bin)).append (.cons hv .nil)).mono kk
          · exact (a5'.trans (o8'.keep.more fun a ha => List.mem_cons_of_mem _ ha)).put (List.mem_cons_self ..)
      · obtain ⟨ac, es1, M4, a1, a2, a3, a4, a5⟩ := hP
        exact ⟨ac, es1, M4, a1, fin1 es1 M4 a2, a3, a4⟩
  · obtain ⟨acc, es, M, hD, hI, o, da⟩ := hP
    exact q (.ref D) (.lst (es.map T.sh)) [D] M H' (fin es M hI) (o1.trans o) ⟨.lst hD (RepL.shs da), List.nodup_cons.mpr ⟨List.not_mem_nil, List.nodup_nil⟩, fun a ha => by rw [List.mem_singleton.mp ha]; exact out_none o1 nD⟩
def wLc2 (wi : WI) (wg : WG) (wt : WB) (wi1 : WI) (wg1 : WG) (wt1 : WB) (w : WE) (vs vs1 : List Nat) : WE := wFz (wLcT2 wi wg wt wi1 wg1 wt1 w vs vs1)
theorem sim_lc2 {ti ti1 : TI} {wi wi1 : WI} {g g1 : TG} {wg wg1 : WG} {tt tt1 : TT} {wt wt1 : WB} {te : TE} {w : WE} (hi : SimI ti wi) (hg : SimG vs g wg) (ht : SimB tt wt) (hi1 : SimI ti1 wi1) (hg1 : SimG vs1 g1 wg1) (ht1 : SimB tt1 wt1) (he : SimE te w) : SimE (tLc2 ti g tt ti1 g1 tt1 te vs vs1) (wLc2 wi wg wt wi1 wg1 wt1 w vs vs1) := sim_fz (sim_lcT2 hi hg ht hi1 hg1 ht1 he)
/-! ### zip of more rows -/
/-- columns of rows of the same length -/
def colsD (n : Nat) (rows : List (List PyData)) : List PyData := (List.range n).map fun j => .tuple (rows.map fun r => r.getD j .none)
theorem colsD_len (n : Nat) (rows : List (List PyData)) : (colsD n rows).length = n := by unfold colsD; rw [List.length_map, List.length_range]
theorem colsD_at {n j : Nat} {rows : List (List PyData)} (h : j < n) : (colsD n rows)[j]? = some (.tuple (rows.map fun r => r.getD j .none)) := by
  unfold colsD
  rw [List.getElem?_map, List.getElem?_range h]
  rfl
theorem yl_zipN {K : PySem.W.Frag} {kd : Bool} {n : Nat} {rs : List (Addr × List V)} {rows : List (List PyData)} (hne : rs ≠ []) (hr : ∀ r ∈ rows, r.length = n) (hl : rs.length = rows.length)
    (hq : ∀ (i : Nat) (a : Addr) (xs : List V) (ds : List PyData), rs[i]? = some (a, xs) → rows[i]? = some ds → (∀ H' gs, Same (hid hs H) (hid gs H') → SqK kd K H' a xs) ∧ DqAll (hid hs H) xs ds) : Yl hs (ItZ K kd rs) (colsD n rows) H := by
  have pick : ∀ r ∈ rs, ∃ ds, ds.length = n ∧ (∀ H' gs, Same (hid hs H) (hid gs H') → SqK kd K H' r.1 r.2) ∧ DqAll (hid hs H) r.2 ds := fun r hr' => by
    obtain ⟨i, hi, e⟩ := List.mem_iff_getElem.mp hr'
    have e2 : rs[i]? = some (r.1, r.2) := by rw [List.getElem?_eq_getElem hi, e]
    have e3 := List.getElem?_eq_getElem (show i < rows.length by omega)
    obtain ⟨q1, q2⟩ := hq i r.1 r.2 _ e2 e3
    exact ⟨_, hr _ (List.getElem_mem _), q1, q2⟩
  refine ⟨fun k H' gs hk kp r hr' => ?_, fun H' gs kp r hr' => ?_, fun k x H' H'' gs hk kp lv y => ?_⟩
  · obtain ⟨ds, h1, h2, h3⟩ := pick r hr'
    rw [colsD_len] at hk
    exact ⟨h2 H' gs kp, by rw [h3.len, h1]; exact hk⟩
  · obtain ⟨ds, h1, h2, h3⟩ := pick r hr'
    exact ⟨h2 H' gs kp, by rw [h3.len, h1, colsD_len]; exact Nat.le_refl _⟩
  · obtain ⟨T, rfl, hT, rfl⟩ := y
    rw [colsD_len] at hk
    refine ⟨Ex.new hT, _, colsD_at hk, .tup (by rw [hid_out (lv.out hT), upd_same]) ?_⟩
    have go : ∀ (o : HO) (rs : List (Addr × List V)) (rows : List (List PyData)), rs.length = rows.length → (∀ (i : Nat) (a : Addr) (xs : List V) (ds : List PyData), rs[i]? = some (a, xs) → rows[i]? = some ds → DqAll (hid hs H) xs ds ∧ ds.length = n) → DqAll (hid gs (upd H' T o)) (rs.map fun r => r.2.getD k .non) (rows.map fun r => r.getD k .none) := fun o rs => by
      induction rs with
      | nil =>
        intro rows h1 _
        have e : rows = [] := List.length_eq_zero_iff.mp h1.symm
        rw [e]
        exact .nil
      | cons r rs ih =>
        intro rows h1 h2
        cases rows with
        | nil => cases h1
        | cons d rows =>
          obtain ⟨q1, q2⟩ := h2 0 r.1 r.2 d rfl rfl
          refine .cons ?_ (ih rows (Nat.succ.inj h1) fun i a xs ds e1 e2 => h2 (i + 1) a xs ds e1 e2)
          have hx : r.2[k]? = some (r.2.getD k .non) := by rw [List.getD_eq_getElem?_getD, List.getElem?_eq_getElem (by rw [q1.len, q2]; exact hk)]; rfl
          obtain ⟨f, f1, f2⟩ := q1.get hx
          have ef : d.getD k .none = f := by rw [List.getD_eq_getElem?_getD, f1]; rfl
          show Dq (hid gs (upd H' T o)) (r.2.getD k .non) (d.getD k .none)
          rw [ef]
          exact (f2.mono kp).mono (same_hid (Ex.new hT))
    exact go _ rs rows hl fun i a xs ds e1 e2 => ⟨(hq i a xs ds e1 e2).2, hr ds (List.mem_of_getElem? e2)⟩
/-- zip(a, b, c), lists of the same length -/
def wZip3 (wa wb wc : WE) : WI := fun ε N R => wa ε N fun d N1 => wb ε N1 fun e N2 => wc ε N2 fun f N3 => match d, e, f with
  | .list a, .list b, .list c => (b.length = a.length ∧ c.length = a.length) ∧ R (colsD a.length [a, b, c]) N3
  | _, _, _ => False
theorem sim_zip3 {K : PySem.W.Frag} (ha : SimE ta wa) (hb : SimE tb wb) (hc : SimE tc wc) : SimI (iZipM K (tCons ta (tCons tb (tCons tc tNil)))) (wZip3 wa wb wc) := fun {c bs F σ H ε N R Q} r w q => ha r w fun v d N1 H1 w1 o1 hd => hb (r.out o1) w1 fun u e N2 H2 w2 o2 he => hc (r.out (o1.trans o2)) w2 fun y f N3 H3 w3 o3 hf => by
  have hd3 := out_dq (o2.trans o3) r.bin hd
  have he3 := out_dq o3 r.bin he
  cases hd3 <;> first | (cases he3 <;> cases hf <;> exact False.elim w3) | skip
  cases he3 <;> first | (cases hf <;> exact False.elim w3) | skip
  cases hf <;> first | exact False.elim w3 | skip
  rename_i a xs ds e1 h1 a2 xs2 ds2 e2 h2 a3 xs3 ds3 e3 h3
  refine ⟨true, [(a, xs), (a2, xs2), (a3, xs3)], rfl, by simp, by show 3 ≤ 12; decide, fun p hp => ?_, q _ _ N3 H3 w3.2 ((o1.trans o2).trans o3) (yl_zipN (by simp) (fun p hp => ?_) rfl fun i p ys es q1 q2 => ?_)⟩
  · have hp' : p = (a, xs) ∨ p = (a2, xs2) ∨ p = (a3, xs3) := by simpa using hp
    rcases hp' with rfl | rfl | rfl
    · exact SqL.of (hid_some e1).2
    · exact SqL.of (hid_some e2).2
    · exact SqL.of (hid_some e3).2
  · have hp' : p = ds ∨ p = ds2 ∨ p = ds3 := by simpa using hp
    rcases hp' with rfl | rfl | rfl
    · rfl
    · exact w3.1.1
    · exact w3.1.2
  · rcases (by have := (List.getElem?_eq_some_iff.mp q1).1; simp at this; omega : i = 0 ∨ i = 1 ∨ i = 2) with rfl | rfl | rfl
    · cases q1; cases q2
      exact ⟨fun H' gs kp => SqL.of (hid_some (kp _ _ e1)).2, h1⟩
    · cases q1; cases q2
      exact ⟨fun H' gs kp => SqL.of (hid_some (kp _ _ e2)).2, h2⟩
    · cases q1; cases q2
      exact ⟨fun H' gs kp => SqL.of (hid_some (kp _ _ e3)).2, h3⟩
/-- zip(*rows), rows of the same length and kind -/
def wZipN (we : WE) : WI := fun ε N R => we ε N fun d N1 => ∃ (kd : Bool) (n : Nat) (rows : List (List PyData)), seqOf d = some (rows.map (seqD kd)) ∧ rows ≠ [] ∧ rows.length ≤ 12 ∧ (∀ r ∈ rows, r.length = n) ∧ R (colsD n rows) N1
theorem rows_refs {kd : Bool} : ∀ {xs : List V} {rows : List (List PyData)}, DqAll (hid hs H) xs (rows.map (seqD kd)) → ∃ rs : List (Addr × List V), xs = rs.map (fun r => V.ref r.1) ∧ rs.length = rows.length ∧ ∀ (i : Nat) (a : Addr) (ys : List V) (ds : List PyData), rs[i]? = some (a, ys) → rows[i]? = some ds → (∀ {K : PySem.W.Frag} {H' : Hp} {gs : List Addr}, Same (hid hs H) (hid gs H') → SqK kd K H' a ys) ∧ DqAll (hid hs H) ys ds
  | _, [], .nil => ⟨[], rfl, rfl, fun i a ys ds h _ => by cases h⟩
  | _, r :: rows, .cons h t => by
    obtain ⟨rs, e1, e2, e3⟩ := rows_refs t
    obtain ⟨a, ys, e, hsq, hy⟩ := Dq.seq_inv h
    refine ⟨(a, ys) :: rs, by rw [e, e1]; rfl, by rw [List.length_cons, List.length_cons, e2], fun i a' ys' ds q1 q2 => ?_⟩
    cases i with
    | zero =>
      cases q1; cases q2
      exact ⟨fun kp => hsq (kp.trans hid_same), hy⟩
    | succ i => exact e3 i a' ys' ds q1 q2
theorem sim_zipN {K : PySem.W.Frag} (h : SimE te we) : SimI (iZipN K te) (wZipN we) := fun {c bs F σ H ε N R Q} r w q => h r w fun v d N1 H1 w1 o1 hd => by
  obtain ⟨kd, n, rows, e, hne, h12, hr, w2⟩ := w1
  obtain ⟨p, xs, rfl, hs1, hx⟩ := hd.seqOf (K := K) e
  obtain ⟨rs, rfl, hl, hq⟩ := rows_refs hx
  have hne' : rs ≠ [] := fun z => by rw [z] at hl; exact hne (List.length_eq_zero_iff.mp hl.symm)
  refine ⟨p, kd, rs, rfl, (hs1 hid_same).symm, hne', by omega, fun r' hr' => ?_, q _ _ N1 H1 w2 o1 (yl_zipN hne' hr hl fun i a ys ds q1 q2 => ⟨fun H' gs kp => (hq i a ys ds q1 q2).1 kp, (hq i a ys ds q1 q2).2⟩)⟩
  obtain ⟨i, hi, e⟩ := List.mem_iff_getElem.mp hr'
  have e2 : rs[i]? = some (r'.1, r'.2) := by rw [List.getElem?_eq_getElem hi, e]
  exact (hq i r'.1 r'.2 _ e2 (List.getElem?_eq_getElem (by omega))).1 (Same.refl _)
end
end Cg

set_option Elab.async false
set_option linter.all false
set_option maxRecDepth 100000
set_option maxHeartbeats 1000000
namespace Cg
open PySem PySem.Spec PyProof.Rows L2 Evl
section
variable {X : Cx} {ta tb tc te : TE} {wa wb wc we : WE} {tas : TA} {was : WA}
theorem sortedIK (K : PySem.W.Frag) (hK : X.K = K := by rfl) : CallR X (.builtin "sorted") (rSortedI K) := by subst hK; exact cr_sortedI
theorem sortedPK (K : PySem.W.Frag) (hK : X.K = K := by rfl) : CallR X (.builtin "sorted") (rSortedPO K) := by subst hK; exact cr_sortedPO
theorem inDK (K : PySem.W.Frag) (hu : X.A.units + 65 < cLine) (hK : X.K = K := by rfl) : OpR X (compareOp .In) (rInD K) := by subst hK; exact op_inD hu
theorem notInDK (K : PySem.W.Frag) (hu : X.A.units + 65 < cLine) (hK : X.K = K := by rfl) : OpR X (compareOp .NotIn) (rNotInD K) := by subst hK; exact op_notInD hu
theorem ltTK (K : PySem.W.Frag) (hu : X.A.units < cLine) (hK : X.K = K := by rfl) : OpR X (compareOp .Lt) (rLtT K) := by subst hK; exact op_ltT hu
theorem room65 {k : Nat} {A : Around} (r : Room k A) : A.units + 65 < cLine := by have := r.un; omega
/-! sorted -/
def oSortI : List PyData → (List PyData → Prop) → Prop
  | [.list ds], S => ∃ ns, intsOf ds = some ns ∧ ∀ ms : List Int, ms.Perm ns → ms.Pairwise (· ≤ ·) → S (ms.map PyData.int)
  | _, _ => False
theorem cn_sortI {K : PySem.W.Frag} : CbN (rSortedI K) oSortI := fun {hs H xs ds S Q} l hx w q => by
  match ds, w with
  | [.list es], w =>
    obtain ⟨v, rfl, hv⟩ := dq1 hx
    obtain ⟨ns, he, w⟩ := w
    obtain ⟨a, ys, rfl, e1, h1⟩ := hv.list_inv
    have e2 := ints_of h1 he
    subst e2
    exact ⟨a, ns, rfl, SqL.of (hid_some e1).2, fun ms p hp hs np => q p _ _ (w ms hp hs) np (DqAll.ints ms)⟩
def prI (p : Int × Int) : PyData := .tuple [.int p.1, .int p.2]
def lexP (p q : Int × Int) : Prop := p.1 < q.1 ∨ (p.1 = q.1 ∧ p.2 ≤ q.2)
def oSortP : List PyData → (List PyData → Prop) → Prop
  | [.list ds], S => ∃ ps : List (Int × Int), ds = ps.map prI ∧ ∀ qs : List (Int × Int), qs.Perm ps → qs.Pairwise lexP → S (qs.map prI)
  | _, _ => False
def kPr (H : Hp) (v : V) : Int × Int := match v with
  | .ref a => match H a with
    | some (.tup [.int i, .int j]) => (i, j)
    | _ => (0, 0)
  | _ => (0, 0)
theorem pr_dq {H : Hp} {v : V} {p : Int × Int} (h : Dq H v (prI p)) : ∃ t, v = .ref t ∧ H t = some (.tup [.int p.1, .int p.2]) := by
  obtain ⟨a, xs, rfl, e, h⟩ := Dq.tup_inv h
  obtain ⟨v1, v2, rfl, h1, h2⟩ := dq2 h
  cases h1
  cases h2
  exact ⟨a, rfl, e⟩
theorem prs_dq {H H0 : Hp} (s : Same H H0) : ∀ {xs : List V} {ps : List (Int × Int)}, DqAll H xs (ps.map prI) → (∀ x ∈ xs, ∃ t, x = .ref t ∧ H0 t = some (.tup [.int (kPr H0 x).1, .int (kPr H0 x).2])) ∧ xs.map (kPr H0) = ps
  | _, [], .nil => ⟨(fun _ z => nomatch z), rfl⟩
  | _, p :: ps, .cons h t => by
    obtain ⟨h1, h2⟩ := prs_dq s t
    obtain ⟨a, rfl, e⟩ := pr_dq h
    have ek : kPr H0 (.ref a) = p := by
      show (match H0 a with | some (.tup [.int i, .int j]) => (i, j) | _ => (0, 0)) = p
      rw [s _ _ e]
    refine ⟨fun x hx => ?_, by rw [List.map_cons, ek, h2]⟩
    rcases List.mem_cons.mp hx with rfl | hx
    · exact ⟨a, rfl, by rw [ek]; exact s _ _ e⟩
    · exact h1 x hx
theorem dq_of_all {H : Hp} {f : V → PyData} : ∀ {xs : List V}, (∀ x ∈ xs, Dq H x (f x)) → DqAll H xs (xs.map f)
  | [], _ => .nil
  | x :: xs, h => .cons (h x (List.mem_cons_self ..)) (dq_of_all fun y hy => h y (List.mem_cons_of_mem _ hy))
theorem all_of_dq {H : Hp} {f : V → PyData} : ∀ {xs : List V}, DqAll H xs (xs.map f) → ∀ x ∈ xs, Dq H x (f x)
  | [], _ => fun _ z => nomatch z
  | x :: xs, .cons h t => fun y hy => by
    rcases List.mem_cons.mp hy with rfl | hy
    · exact h
    · exact all_of_dq t y hy
theorem cn_sortP {K : PySem.W.Frag} : CbN (rSortedPO K) oSortP := fun {hs H xs ds S Q} l hx w q => by
  match ds, w with
  | [.list es], w =>
    obtain ⟨v, rfl, hv⟩ := dq1 hx
    obtain ⟨ps, rfl, w⟩ := w
    obtain ⟨a, ys, rfl, e1, h1⟩ := hv.list_inv
    obtain ⟨k1, k2⟩ := prs_dq hid_same h1
    refine ⟨a, ys, kPr H, rfl, SqL.of (hid_some e1).2, k1, fun zs p hs hst np => ?_⟩
    have hp := hst.perm
    have ed : ps.map prI = ys.map fun x => prI (kPr H x) := by rw [← k2, List.map_map]; rfl
    have each := all_of_dq (f := fun x => prI (kPr H x)) (by rw [← ed]; exact h1)
    have dz : DqAll (hid _ H) zs (zs.map fun x => prI (kPr H x)) := dq_of_all fun x hx => each x (hp.mem_iff.mp hx)
    have ez : (zs.map fun x => prI (kPr H x)) = (zs.map (kPr H)).map prI := by rw [List.map_map]; rfl
    rw [ez] at dz
    refine q p zs _ (w (zs.map (kPr H)) (by rw [← k2]; exact hp.map _) ?_) np dz
    rw [List.pairwise_map]
    refine List.Pairwise.imp (fun {x y} h => ?_) hs
    have := SrtO.lexB_no.mp h
    unfold lexP
    omega
/-! in, of data; < of tuples -/
def oInD : O2 := fun d e S => match e with
  | .list ds => SeqAt.shaped d = true ∧ SeqAt.shaped (.list ds) = true ∧ S (.bool (ds.any fun z => PyData.eqv z d))
  | _ => False
def oNotInD : O2 := fun d e S => match e with
  | .list ds => SeqAt.shaped d = true ∧ SeqAt.shaped (.list ds) = true ∧ S (.bool (!ds.any fun z => PyData.eqv z d))
  | _ => False
theorem od_inD {K : PySem.W.Frag} : OpD (rInD K) oInD := fun {hs H x y d e S Q} l hx hy w q => by
  cases e <;> first | exact False.elim w | skip
  exact ⟨d, _, (dq_vis hx).dp (noD_shaped w.1), (dq_vis hy).dp (noD_shaped w.2.1), w.1, w.2.1, q _ _ H w.2.2 (Same.refl _) (.bl _)⟩
theorem od_notInD {K : PySem.W.Frag} : OpD (rNotInD K) oNotInD := fun {hs H x y d e S Q} l hx hy w q => by
  cases e <;> first | exact False.elim w | skip
  exact ⟨d, _, (dq_vis hx).dp (noD_shaped w.1), (dq_vis hy).dp (noD_shaped w.2.1), w.1, w.2.1, q _ _ H w.2.2 (Same.refl _) (.bl _)⟩
def oLtT : O2 := fun d e S => match d, e with
  | .tuple a, .tuple b => match intsOf a, intsOf b with
    | some ns, some ms => S (.bool (HT.lexLt ns ms))
    | _, _ => False
  | _, _ => False
theorem od_ltT {K : PySem.W.Frag} : OpD (rLtT K) oLtT := fun {hs H x y d e S Q} l hx hy w q => by
  unfold oLtT at w
  split at w
  · rename_i a b
    split at w
    · rename_i ns ms e1 e2
      obtain ⟨p, xs, rfl, hp, h1⟩ := hx.tup_inv
      obtain ⟨p2, xs2, rfl, hp2, h2⟩ := hy.tup_inv
      have f1 := ints_of h1 e1
      have f2 := ints_of h2 e2
      subst f1 f2
      exact ⟨p, p2, ns, ms, rfl, rfl, SqT.of (hid_some hp).2, SqT.of (hid_some hp2).2, q _ _ H w (Same.refl _) (.bl _)⟩
    · exact w.elim
  · exact w.elim
/-! xs.count(k), ints -/
theorem countK (K : PySem.W.Frag) (hK : X.K = K := by rfl) : MtR X "list.count" (rCntI K) := by subst hK; exact mt_lcount
def oCount : PyData → List PyData → (PyData → Prop) → Prop := fun d es S => match d, es with
  | .list ds, [.int k] => match intsOf ds with
    | some ns => S (.int (ns.count k : Nat))
    | none => False
  | _, _ => False
theorem bm_count {K : PySem.W.Frag} : BmD (rCntI K) oCount := fun {hs H x xs d ds S Q} l hx hxs w q => by
  unfold oCount at w
  split at w
  · rename_i es k
    split at w
    · rename_i ns e
      obtain ⟨v, rfl, hv⟩ := dq1 hxs
      cases hv
      obtain ⟨a, ys, rfl, e1, h1⟩ := hx.list_inv
      have e2 := ints_of h1 e
      subst e2
      exact ⟨a, ns, k, rfl, rfl, SqL.of (hid_some e1).2, q _ _ H w (Same.refl _) (.int _)⟩
    · exact w.elim
  · exact w.elim
/-! x.insert(k, e) -/
def rIns : V → List V → Hp → VK → Prop := fun x vs H Q => ∃ (l : Addr) (xs : List V) (i : Int) (y : V), x = .ref l ∧ vs = [.int i, y] ∧ H l = some (.lst xs) ∧ xs.length < sizeLine ∧ 0 ≤ i ∧ i < 2 ^ 63 ∧ Q .non (upd H l (.lst (xs.take i.toNat ++ [y] ++ xs.drop i.toNat)))
theorem mt_ins : MtR X "list.insert" rIns := mt_insert
def wIns (i : Nat) (wk we : WE) : WS := fun D => onOwn i fun ts ε N => wk ε N fun d N1 => we ε N1 fun e N2 => match d with
  | .int k => (0 ≤ k ∧ k ≤ 1000000 ∧ ts.length ≤ 100000) ∧ D.nx (ε.set i (.is (.lst (ts.take k.toNat ++ [.sh e] ++ ts.drop k.toNat)))) N2
  | _ => False
theorem RepL.cut {bs : List Addr} {H : Hp} : ∀ {vs : List V} {ts : List T} {A : List Addr}, RepL bs H vs ts A → ∀ n : Nat, ∃ A1 A2, A = A1 ++ A2 ∧ RepL bs H (vs.take n) (ts.take n) A1 ∧ RepL bs H (vs.drop n) (ts.drop n) A2
  | _, _, A, h, 0 => ⟨[], A, rfl, .nil, h⟩
  | _, _, _, .nil, n + 1 => ⟨[], [], rfl, .nil, .nil⟩
  | _, _, _, .cons (A := A) h t, n + 1 => by
    obtain ⟨A1, A2, e, h1, h2⟩ := t.cut n
    exact ⟨A ++ A1, A2, by rw [e, List.append_assoc], .cons h h1, h2⟩
theorem sim_ins {K : PySem.W.Frag} {i : Nat} {tk : TE} {wk : WE} (hk : SimE tk wk) (h : SimE te we) : SimS (tDrop (tBM K "list" rIns (tVar i) (tCons tk (tCons te tNil)))) (wIns i wk we) := fun {c bs F σ H ε N DW D} r w m => by
  obtain ⟨ts, hl, w⟩ := onOwn_some w
  obtain ⟨a, hs, hab, us, hH⟩ := slot_own r hl
  refine ⟨.ref a, hs, .inl ⟨rfl, us, SqL.of hH⟩, hk r w fun u d N1 H1 w1 o1 hd => h (r.out o1) w1 fun v e N2 H2 w2 o2 he => ?_⟩
  have o := o1.trans o2
  have r1 := r.out o
  obtain ⟨a2, vs2, A0, g1, g2, g3, g4, g5, g6, g7, g8, g9, g10, g11⟩ := r1.mutate hl
  have ea : a2 = a := by
    have := g1.symm.trans hs
    cases this
    rfl
  subst ea
  have hd2 := out_dq o2 r.bin hd
  cases hd2 <;> first | exact False.elim w2 | skip
  rename_i k
  obtain ⟨⟨k0, k1, k2⟩, w3⟩ := w2
  obtain ⟨A1, A2, e0, c1, c2⟩ := g3.cut k.toNat
  have hh : RepL bs H2 (vs2.take k.toNat ++ [v] ++ vs2.drop k.toNat) (ts.take k.toNat ++ [.sh e] ++ ts.drop k.toNat) (A1 ++ [] ++ A2) := (c1.append (RepL.one (.sh he))).append c2
  rw [List.append_nil, ← e0] at hh
  obtain ⟨F', r2⟩ := g11 hh g4 g5 fun x hx => .inl hx
  exact ⟨a2, vs2, k, v, rfl, rfl, g2, by rw [g3.len]; exact Nat.lt_of_le_of_lt k2 (by decide), k0, by omega, m.nx r2 w3⟩
/-! len(set(xs)), ints -/
def dedN (ns : List Int) : Nat := (ns.foldl step_dedup []).length
theorem ded_mem : ∀ (ns acc : List Int) (x : Int), x ∈ ns.foldl step_dedup acc ↔ x ∈ acc ∨ x ∈ ns
  | [], acc, x => by simp
  | n :: r, acc, x => by
    show x ∈ r.foldl step_dedup (step_dedup acc n) ↔ _
    rw [ded_mem r]
    unfold step_dedup
    split
    · rename_i h
      have hn : n ∈ acc := by simpa using h
      rw [List.mem_cons]
      constructor
      · rintro (h | h)
        · exact .inl h
        · exact .inr (.inr h)
      · rintro (h | h | h)
        · exact .inl h
        · rw [h]; exact .inl hn
        · exact .inr h
    · rw [List.mem_append, List.mem_singleton, List.mem_cons]
      constructor
      · rintro ((h | h) | h)
        · exact .inl h
        · exact .inr (.inl h)
        · exact .inr (.inr h)
      · rintro (h | h | h)
        · exact .inl (.inl h)
        · exact .inl (.inr h)
        · exact .inr h
theorem ded_len : ∀ (ns acc : List Int), (ns.foldl step_dedup acc).length ≤ acc.length + ns.length
  | [], acc => Nat.le_refl _
  | n :: r, acc => by
    show (r.foldl step_dedup (step_dedup acc n)).length ≤ _
    have := ded_len r (step_dedup acc n)
    have h2 : (step_dedup acc n).length ≤ acc.length + 1 := by
      unfold step_dedup
      split
      · omega
      · rw [List.length_append]; exact Nat.le_refl _
    rw [List.length_cons]
    omega
theorem ded_full : ∀ (ns acc : List Int), acc.Nodup → ((ns.foldl step_dedup acc).length = acc.length + ns.length ↔ (acc ++ ns).Nodup)
  | [], acc, h => by simp [h]
  | n :: r, acc, h => by
    show (r.foldl step_dedup (step_dedup acc n)).length = _ ↔ _
    by_cases hn : n ∈ acc
    · have e : step_dedup acc n = acc := by
        unfold step_dedup
        rw [if_pos (by simpa using hn)]
      rw [e]
      have := ded_len r acc
      rw [List.length_cons]
      constructor
      · intro z; omega
      · intro z
        exact absurd rfl ((List.nodup_append.mp z).2.2 n hn n (List.mem_cons_self ..))
    · have e : step_dedup acc n = acc ++ [n] := by
        unfold step_dedup
        rw [if_neg (by simpa using hn)]
      have nd : (acc ++ [n]).Nodup := List.nodup_append.mpr ⟨h, by simp, fun a ha b hb z => hn (by rw [← List.mem_singleton.mp hb, ← z]; exact ha)⟩
      have := ded_full r (acc ++ [n]) nd
      rw [e, List.length_cons]
      rw [List.length_append, List.append_assoc] at this
      have e2 : acc.length + [n].length + r.length = acc.length + (r.length + 1) := by
        show acc.length + 1 + r.length = _
        omega
      rw [e2] at this
      exact this
theorem dedN_iff (ns : List Int) : dedN ns = ns.length ↔ ns.Nodup := by
  have := ded_full ns [] List.nodup_nil
  rw [List.length_nil, Nat.zero_add, List.nil_append] at this
  exact this
def tLenSet (K : PySem.W.Frag) (ta : TE) : TE := fun σ H Q => ta σ H fun x H1 => ∃ (l : Addr) (ns : List Int), x = .ref l ∧ SqL K H1 l (ns.map V.int) ∧ ns.length ≤ 4000 ∧ Q (.int (dedN ns : Nat)) H1
theorem first_fold (ns : List Int) : firstMet (fun i => ns.getD i 0) ns.length = ns.foldl step_dedup [] := by
  unfold firstMet
  rw [row_range]
theorem pe_lenSet (K : PySem.W.Frag) {a : Expr} {p p2 q pos : Pos} (hg : Gl X "len") (hm : X.mg "len" = none) (hg2 : Gl X "set") (hm2 : X.mg "set" = none) (ha : PE X a ta) (hK : X.K = K := by rfl) (hc : X.calm = true := by rfl)
    (na : starEach [a] X.env = (false, eval a X.env) :: starEach [] X.env := by rfl) : PE X (.Call (.Name "len" p) [.Call (.Name "set" p2) [a] [] q] [] pos) (tLenSet K ta) := by
  subst hK
  constructor
  intro pins s σ H Q I h
  refine Call_ (ld_blt I hg hm boot_len (PyProof.Rows.callWith_builtin1 (PyProof.Rows.args_cons ?_ rfl) rfl rfl))
  refine Call_ (ld_blt I hg2 hm2 boot_set (PyProof.Rows.callWith_type1 (PyProof.Rows.args_cons (thn (ha.run pins s σ H _ I h) fun v s1 got => PyProof.Rows.args_nil ?_) na) na rfl))
  obtain ⟨x, H1, I1, r1, l, ns, rfl, hq, hl, q1⟩ := got
  cases r1
  obtain ⟨its, r, pl, hz⟩ := I1.list hq
  have hlen : its.toArray.size = ns.length := by rw [List.size_toArray, ← r.length, List.length_map]
  refine call_set_list (I1.ok.hd hc) pl.isList (by simpa using RZ.intsAre_vals r) (by rw [hlen]; unfold scanBound; omega) fun h' tk hS hk => PyProof.Rows.args_nil ?_
  rw [hlen, first_fold] at hS
  obtain ⟨o, es, ep, t, ho, hex, hd, _, _, _, hf, hn⟩ := hS
  have hdl : dedN ns ≤ ns.length := by
    have := ded_len ns []
    rw [List.length_nil, Nat.zero_add] at this
    exact this
  have I2 : Inv X pins σ H1 { s1 with heap := h', toks := tk } := I1.kept fun b o e => hk b o (Heap.lt_size e) e
  exact call_len_set ho hex hd hf (by rw [hn]; show ((dedN ns : Nat) : Int) < 2 ^ 63; omega) ⟨.int (dedN ns : Nat), H1, I2.tok _, ⟨_, by rw [hn]; rfl⟩, q1⟩
def wLenSet (we : WE) : WE := fun ε N R => we ε N fun d N1 => match d with
  | .list ds => ∃ ns, intsOf ds = some ns ∧ ns.length ≤ 4000 ∧ R (.int (dedN ns : Nat)) N1
  | _ => False
theorem sim_lenSet {K : PySem.W.Frag} (h : SimE te we) : SimE (tLenSet K te) (wLenSet we) := fun {c bs F σ H ε N R Q} r w q => h r w fun v d N1 H1 w1 o1 hd => by
  cases hd <;> first | exact False.elim w1 | skip
  rename_i a xs ds e1 h1
  obtain ⟨ns, e, hl, w2⟩ := w1
  have e2 := ints_of h1 e
  subst e2
  exact ⟨a, ns, rfl, SqL.of (hid_some e1).2, hl, q _ _ N1 H1 w2 o1 (.int _)⟩
end
end Cg

set_option Elab.async false
set_option linter.all false
set_option maxRecDepth 100000
set_option maxHeartbeats 1000000
namespace Cg
open PySem PySem.Spec PyProof.Rows L2 Evl
/-! ### how far reckoning goes: no further than the values -/
section
variable {d d' e e' : PyData} {ds ds' : List PyData} {S : PyData → Prop} {SL : List PyData → Prop} {N N' : Nat} {R : T → Nat → Prop} {RD : PyData → Nat → Prop} {o o' : Option Sl} {D : EW} {ε ε' : Env}
theorem cg_oSub (h : d = d') (h' : e = e') : oSub d e S = oSub d' e' S := by rw [h, h']
theorem cg_oFdiv (h : d = d') (h' : e = e') : oFdiv d e S = oFdiv d' e' S := by rw [h, h']
theorem cg_oMod (h : d = d') (h' : e = e') : oMod d e S = oMod d' e' S := by rw [h, h']
theorem cg_oPow (h : d = d') (h' : e = e') : oPow d e S = oPow d' e' S := by rw [h, h']
theorem cg_oLt (h : d = d') (h' : e = e') : oLt d e S = oLt d' e' S := by rw [h, h']
theorem cg_oLe (h : d = d') (h' : e = e') : oLe d e S = oLe d' e' S := by rw [h, h']
theorem cg_oGt (h : d = d') (h' : e = e') : oGt d e S = oGt d' e' S := by rw [h, h']
theorem cg_oGe (h : d = d') (h' : e = e') : oGe d e S = oGe d' e' S := by rw [h, h']
theorem cg_oMulI (h : d = d') (h' : e = e') : oMulI d e S = oMulI d' e' S := by rw [h, h']
theorem cg_oAddI (h : d = d') (h' : e = e') : oAddI d e S = oAddI d' e' S := by rw [h, h']
theorem cg_oAdd (h : d = d') (h' : e = e') : oAdd d e S = oAdd d' e' S := by rw [h, h']
theorem cg_oMul (h : d = d') (h' : e = e') : oMul d e S = oMul d' e' S := by rw [h, h']
theorem cg_oEq (h : d = d') (h' : e = e') : oEq d e S = oEq d' e' S := by rw [h, h']
theorem cg_oNe (h : d = d') (h' : e = e') : oNe d e S = oNe d' e' S := by rw [h, h']
theorem cg_oIs (h : d = d') (h' : e = e') : oIs d e S = oIs d' e' S := by rw [h, h']
theorem cg_oIsNot (h : d = d') (h' : e = e') : oIsNot d e S = oIsNot d' e' S := by rw [h, h']
theorem cg_oIx (h : d = d') (h' : e = e') : oIx d e S = oIx d' e' S := by rw [h, h']
theorem cg_oInD (h : d = d') (h' : e = e') : oInD d e S = oInD d' e' S := by rw [h, h']
theorem cg_oNotInD (h : d = d') (h' : e = e') : oNotInD d e S = oNotInD d' e' S := by rw [h, h']
theorem cg_oLtT (h : d = d') (h' : e = e') : oLtT d e S = oLtT d' e' S := by rw [h, h']
theorem cg_oI {C : Int → Int → Prop} {g : Int → Int → PyData} (h : d = d') (h' : e = e') : oI C g d e S = oI C g d' e' S := by rw [h, h']
theorem cg_oI0 {g : Int → Int → PyData} (h : d = d') (h' : e = e') : oI0 g d e S = oI0 g d' e' S := by rw [h, h']
theorem cg_oIn {neg : Bool} (h : d = d') (h' : e = e') : oIn neg d e S = oIn neg d' e' S := by rw [h, h']
theorem cg_oNeg (h : d = d') : oNeg d S = oNeg d' S := by rw [h]
theorem cg_oCat (h : d = d') (h' : e = e') : oCat d e SL = oCat d' e' SL := by rw [h, h']
theorem cg_oRep (h : d = d') (h' : e = e') : oRep d e SL = oRep d' e' SL := by rw [h, h']
theorem cg_oLen (h : ds = ds') : oLen ds S = oLen ds' S := by rw [h]
theorem cg_oInt (h : ds = ds') : oInt ds S = oInt ds' S := by rw [h]
theorem cg_oAbs (h : ds = ds') : oAbs ds S = oAbs ds' S := by rw [h]
theorem cg_oMin2 (h : ds = ds') : oMin2 ds S = oMin2 ds' S := by rw [h]
theorem cg_oMax2 (h : ds = ds') : oMax2 ds S = oMax2 ds' S := by rw [h]
theorem cg_oAll (h : ds = ds') : oAll ds S = oAll ds' S := by rw [h]
theorem cg_oAny (h : ds = ds') : oAny ds S = oAny ds' S := by rw [h]
theorem cg_oSum (h : ds = ds') : oSum ds S = oSum ds' S := by rw [h]
theorem cg_oListD (h : ds = ds') : oListD ds S = oListD ds' S := by rw [h]
theorem cg_oTuple (h : ds = ds') : oTuple ds S = oTuple ds' S := by rw [h]
theorem cg_oRepr (h : ds = ds') : oRepr ds S = oRepr ds' S := by rw [h]
theorem cg_oList (h : ds = ds') : oList ds SL = oList ds' SL := by rw [h]
theorem cg_oSortI (h : ds = ds') : oSortI ds SL = oSortI ds' SL := by rw [h]
theorem cg_oSortP (h : ds = ds') : oSortP ds SL = oSortP ds' SL := by rw [h]
theorem cg_oCount (h : d = d') (h' : ds = ds') : oCount d ds S = oCount d' ds' S := by rw [h, h']
theorem cg_take (h : ds = ds') (h' : N = N') : w_take ds N R = w_take ds' N' R := by rw [h, h']
theorem cg_same {n : Nat} (h : ds = ds') (h' : N = N') : w_same n ds N R = w_same n ds' N' R := by rw [h, h']
theorem cg_atSh {k : PyData → Prop} (h : o = o') : atSh o k = atSh o' k := by rw [h]
theorem cg_atIs {k : T → Prop} (h : o = o') : atIs o k = atIs o' k := by rw [h]
theorem cg_atOwn {k : List T → Prop} (h : o = o') : atOwn o k = atOwn o' k := by rw [h]
theorem cg_dBool {k : Bool → Prop} (h : d = d') : dBool d k = dBool d' k := by rw [h]
theorem cg_dInt {k : Int → Prop} (h : d = d') : dInt d k = dInt d' k := by rw [h]
theorem cg_dTup {k : List PyData → Prop} (h : d = d') : dTup d k = dTup d' k := by rw [h]
theorem cg_dList {k : List PyData → Prop} (h : d = d') : dList d k = dList d' k := by rw [h]
theorem cg_dSeq {k : List PyData → Prop} (h : d = d') : dSeq d k = dSeq d' k := by rw [h]
theorem cg_dTru {k : Bool → Prop} (h : d = d') : dTru d k = dTru d' k := by rw [h]
theorem cg_dCons {k : PyData → List PyData → Prop} (h : ds = ds') : dCons ds k = dCons ds' k := by rw [h]
theorem cg_wFor {wi : WI} {wg : WG} {ws : WS} (h : ε = ε') (h' : N = N') : wFor wi wg ws D ε N = wFor wi wg ws D ε' N' := by rw [h, h']
theorem cg_wWhile {w : WB} {ws : WS} (h : ε = ε') (h' : N = N') : wWhile w ws D ε N = wWhile w ws D ε' N' := by rw [h, h']
theorem cg_wLc {wi : WI} {wg : WG} {wt : WB} {w : WE} {vs : List Nat} (h : ε = ε') (h' : N = N') : wLc wi wg wt w vs ε N RD = wLc wi wg wt w vs ε' N' RD := by rw [h, h']
theorem cg_wLcT {wi : WI} {wg : WG} {wt : WB} {w : WT} {vs : List Nat} (h : ε = ε') (h' : N = N') : wLcT wi wg wt w vs ε N R = wLcT wi wg wt w vs ε' N' R := by rw [h, h']
theorem cg_wLc2 {wi wi1 : WI} {wg wg1 : WG} {wt wt1 : WB} {w : WE} {vs vs1 : List Nat} (h : ε = ε') (h' : N = N') : wLc2 wi wg wt wi1 wg1 wt1 w vs vs1 ε N RD = wLc2 wi wg wt wi1 wg1 wt1 w vs vs1 ε' N' RD := by rw [h, h']
theorem cg_wLcT2 {wi wi1 : WI} {wg wg1 : WG} {wt wt1 : WB} {w : WE} {vs vs1 : List Nat} (h : ε = ε') (h' : N = N') : wLcT2 wi wg wt wi1 wg1 wt1 w vs vs1 ε N R = wLcT2 wi wg wt wi1 wg1 wt1 w vs vs1 ε' N' R := by rw [h, h']
end
/-! what kind it is -/
section
variable {p : Bool} {x : Int} {u : Str} {a : List PyData} {kd : Bool}
theorem isNone_none : isNone .none = true := by simp [isNone]
theorem isNone_bool : isNone (.bool p) = false := by simp [isNone]
theorem isNone_int : isNone (.int x) = false := by simp [isNone]
theorem isNone_str : isNone (.str u) = false := by simp [isNone]
theorem isNone_list : isNone (.list a) = false := by simp [isNone]
theorem isNone_tup : isNone (.tuple a) = false := by simp [isNone]
theorem isInt_none : isInt .none = false := by simp [isInt]
theorem isInt_bool : isInt (.bool p) = true := by simp [isInt]
theorem isInt_int : isInt (.int x) = true := by simp [isInt]
theorem isInt_str : isInt (.str u) = false := by simp [isInt]
theorem isInt_list : isInt (.list a) = false := by simp [isInt]
theorem isInt_tup : isInt (.tuple a) = false := by simp [isInt]
theorem isBool_none : isBool .none = false := by simp [isBool]
theorem isBool_bool : isBool (.bool p) = true := by simp [isBool]
theorem isBool_int : isBool (.int x) = false := by simp [isBool]
theorem isBool_str : isBool (.str u) = false := by simp [isBool]
theorem isBool_list : isBool (.list a) = false := by simp [isBool]
theorem isBool_tup : isBool (.tuple a) = false := by simp [isBool]
theorem isList_none : isList .none = false := by simp [isList]
theorem isList_bool : isList (.bool p) = false := by simp [isList]
theorem isList_int : isList (.int x) = false := by simp [isList]
theorem isList_str : isList (.str u) = false := by simp [isList]
theorem isList_list : isList (.list a) = true := by simp [isList]
theorem isList_tup : isList (.tuple a) = false := by simp [isList]
theorem isTuple_none : isTuple .none = false := by simp [isTuple]
theorem isTuple_bool : isTuple (.bool p) = false := by simp [isTuple]
theorem isTuple_int : isTuple (.int x) = false := by simp [isTuple]
theorem isTuple_str : isTuple (.str u) = false := by simp [isTuple]
theorem isTuple_list : isTuple (.list a) = false := by simp [isTuple]
theorem isTuple_tup : isTuple (.tuple a) = true := by simp [isTuple]
theorem isStr_none : isStr .none = false := by simp [isStr]
theorem isStr_bool : isStr (.bool p) = false := by simp [isStr]
theorem isStr_int : isStr (.int x) = false := by simp [isStr]
theorem isStr_str : isStr (.str u) = true := by simp [isStr]
theorem isStr_list : isStr (.list a) = false := by simp [isStr]
theorem isStr_tup : isStr (.tuple a) = false := by simp [isStr]
theorem isNone_seq : isNone (seqD kd a) = false := by cases kd <;> simp [seqD, isNone]
theorem isList_seq : isList (seqD kd a) = kd := by cases kd <;> simp [seqD, isList]
theorem isTuple_seq : isTuple (seqD kd a) = !kd := by cases kd <;> simp [seqD, isTuple]
theorem isInt_seq : isInt (seqD kd a) = false := by cases kd <;> simp [seqD, isInt]
theorem isBool_seq : isBool (seqD kd a) = false := by cases kd <;> simp [seqD, isBool]
theorem isStr_seq : isStr (seqD kd a) = false := by cases kd <;> simp [seqD, isStr]
theorem dTru_seq {kb : Bool → Prop} : dTru (seqD kd a) kb = kb (!a.isEmpty) := by cases kd <;> exact propext Iff.rfl
theorem len2_2 : (((0 + 1 + 1 : Nat) : Int) == 2) = true := by decide
theorem len3_2 : (((0 + 1 + 1 + 1 : Nat) : Int) == 2) = false := by decide
theorem len3_3 : (((0 + 1 + 1 + 1 : Nat) : Int) == 3) = true := by decide
theorem len0_0 : (((0 : Nat) : Int) == 0) = true := by decide
end
/-! ### walks that draw nothing -/
section
variable {α β : Type} {ε : Env} {N : Nat} {R : PyData → Nat → Prop} {RT : T → Nat → Prop} {D : EW} {we wa wb : WE} {wg wg1 : WG} {ws : WS} {wt wt1 : WB} {w : WE} {wT : WT} {vs vs1 : List Nat} {wi wi1 : WI} {d d' : PyData} {ds es : List PyData}
/-- it gives these, and draws nothing -/
def Gv (wi : WI) (ε : Env) (N : Nat) (ds : List PyData) : Prop := ∀ R : List PyData → Nat → Prop, R ds N → wi ε N R
/-- its value -/
def Ge (we : WE) (ε : Env) (N : Nat) (d : PyData) : Prop := ∀ R : PyData → Nat → Prop, R d N → we ε N R
theorem gv_it (h : Ge we ε N d) (hd : seqOf d = some ds) : Gv (wIt we) ε N ds := fun R hR => h _ (by
  show (match seqOf d with | some ds => R ds N | none => False)
  rw [hd]; exact hR)
theorem gv_en (h : Ge we ε N d) (hd : seqOf d = some ds) : Gv (wEnum we) ε N (enumD ds) := fun R hR => h _ (by
  show (match seqOf d with | some ds => R (enumD ds) N | none => False)
  rw [hd]; exact hR)
theorem gv_r1 {n : Nat} (h : Ge we ε N (.int (n : Int))) (hn : n ≤ 1000000) : Gv (wRng1 we) ε N ((List.range n).map fun k : Nat => PyData.int (k : Int)) := fun R hR => h _ (by
  refine ⟨⟨by omega, by omega⟩, ?_⟩
  have e : rngD 0 ((n : Int)).toNat = (List.range n).map fun k : Nat => PyData.int (k : Int) := by
    have e1 : ((n : Int)).toNat = n := by omega
    unfold rngD
    rw [e1]
    refine List.map_congr_left fun k _ => ?_
    rw [Int.zero_add]
  rw [e]; exact hR)
theorem gv_r2 {a b : Nat} (h : Ge wa ε N (.int (a : Int))) (h' : Ge wb ε N (.int (b : Int))) (ha : a ≤ 1000000) (hb : b ≤ 1000000) : Gv (wRng2 wa wb) ε N ((List.range (b - a)).map fun k : Nat => PyData.int ((a + k : Nat) : Int)) := fun R hR => h _ (h' _ (by
  refine ⟨⟨by omega, by omega, by omega, by omega⟩, ?_⟩
  have e : rngD (a : Int) ((b : Int) - (a : Int)).toNat = (List.range (b - a)).map fun k : Nat => PyData.int ((a + k : Nat) : Int) := by
    have e1 : ((b : Int) - (a : Int)).toNat = b - a := by omega
    unfold rngD
    rw [e1]
    refine List.map_congr_left fun k _ => ?_
    rw [Int.natCast_add]
  rw [e]; exact hR))
theorem gv_zip (h : Ge wa ε N (.list ds)) (h' : Ge wb ε N (.list es)) : Gv (wZip wa wb) ε N (zipD ds es) := fun R hR => h _ (h' _ hR)
theorem gv_zipS {kd : Bool} (h : Ge wa ε N (seqD kd ds)) (h' : Ge wb ε N (seqD kd es)) : Gv (wZip wa wb) ε N (zipD ds es) := fun R hR => h _ (h' _ (by cases kd <;> exact hR))
theorem enum_map (f : α → PyData) (xs : List α) : enumD (xs.map f) = xs.zipIdx.map fun p => .tuple [.int (p.2 : Nat), f p.1] := by
  unfold enumD
  apply List.ext_getElem
  · simp
  · intro i h1 h2
    simp
theorem zip_map (f : α → PyData) (g : β → PyData) (xs : List α) (ys : List β) : zipD (xs.map f) (ys.map g) = (xs.zip ys).map fun p => .tuple [f p.1, g p.2] := by
  unfold zipD
  apply List.ext_getElem
  · simp
  · intro i h1 h2
    simp
theorem take_succ_map {γ : Type} {xs : List α} {k : Nat} {x : α} (h : xs[k]? = some x) (g : α → Option γ) : (xs.take (k + 1)).filterMap g = (xs.take k).filterMap g ++ (g x).toList := by
  have e1 : List.filterMap g [x] = (g x).toList := by
    cases e : g x with
    | none => rw [List.filterMap_cons_none e]; rfl
    | some y => rw [List.filterMap_cons_some e]; rfl
  rw [List.take_add_one, h, List.filterMap_append, ← e1]
  rfl
theorem lcT_f (xs : List α) (e : α → PyData) (g : α → Option T) (hg : Gv wi ε N (xs.map e)) (hn : xs.length ≤ 40000)
    (hs : ∀ (x : α) (A : T → Nat → Prop) (B : Nat → Prop), x ∈ xs → (∀ t, g x = some t → A t N) → (g x = none → B N) → wg (e x) (wipeE ε vs) fun ε2 => wt ε2 N fun b M2 => bIf b (wT ε2 M2 A) (B M2)) (hd : RT (.lst (xs.filterMap g)) N) : wLcT wi wg wt wT vs ε N RT := by
  refine hg _ ⟨by rw [List.length_map]; exact hn, fun k ts M => ts = (xs.take k).filterMap g ∧ M = N, ⟨rfl, rfl⟩, fun k d ts M hx hI => ?_, fun ts M hI => ?_⟩
  · obtain ⟨rfl, rfl⟩ := hI
    rw [List.getElem?_map] at hx
    cases hk : xs[k]? with
    | none => rw [hk] at hx; cases hx
    | some x =>
      rw [hk] at hx
      have ed : e x = d := Option.some.inj hx
      subst ed
      refine hs x (fun t M3 => (xs.take k).filterMap g ++ [t] = (xs.take (k + 1)).filterMap g ∧ M3 = M) (fun M2 => (xs.take k).filterMap g = (xs.take (k + 1)).filterMap g ∧ M2 = M) (List.mem_of_getElem? hk) (fun t ht => ⟨by rw [take_succ_map hk, ht]; rfl, rfl⟩) fun ht => ⟨by rw [take_succ_map hk, ht]; exact (List.append_nil _).symm, rfl⟩
  · obtain ⟨rfl, rfl⟩ := hI
    rw [List.length_map, List.take_of_length_le (Nat.le_refl _)]
    exact hd
theorem lc_f (xs : List α) (e : α → PyData) (g : α → Option PyData) (hg : Gv wi ε N (xs.map e)) (hn : xs.length ≤ 40000)
    (hs : ∀ (x : α) (A : PyData → Nat → Prop) (B : Nat → Prop), x ∈ xs → (∀ t, g x = some t → A t N) → (g x = none → B N) → wg (e x) (wipeE ε vs) fun ε2 => wt ε2 N fun b M2 => bIf b (w ε2 M2 A) (B M2)) (hd : R (.list (xs.filterMap g)) N) : wLc wi wg wt w vs ε N R := by
  refine hg _ ⟨by rw [List.length_map]; exact hn, fun k ts M => ts = (xs.take k).filterMap g ∧ M = N, ⟨rfl, rfl⟩, fun k d ts M hx hI => ?_, fun ts M hI => ?_⟩
  · obtain ⟨rfl, rfl⟩ := hI
    rw [List.getElem?_map] at hx
    cases hk : xs[k]? with
    | none => rw [hk] at hx; cases hx
    | some x =>
      rw [hk] at hx
      have ed : e x = d := Option.some.inj hx
      subst ed
      refine hs x (fun t M3 => (xs.take k).filterMap g ++ [t] = (xs.take (k + 1)).filterMap g ∧ M3 = M) (fun M2 => (xs.take k).filterMap g = (xs.take (k + 1)).filterMap g ∧ M2 = M) (List.mem_of_getElem? hk) (fun t ht => ⟨by rw [take_succ_map hk, ht]; rfl, rfl⟩) fun ht => ⟨by rw [take_succ_map hk, ht]; exact (List.append_nil _).symm, rfl⟩
  · obtain ⟨rfl, rfl⟩ := hI
    rw [List.length_map, List.take_of_length_le (Nat.le_refl _)]
    exact hd
theorem lcT_m (xs : List α) (e : α → PyData) (g : α → T) (hg : Gv wi ε N (xs.map e)) (hn : xs.length ≤ 40000)
    (hs : ∀ (x : α) (A : T → Nat → Prop), x ∈ xs → A (g x) N → wg (e x) (wipeE ε vs) fun ε2 => wT ε2 N A) (hd : RT (.lst (xs.map g)) N) : wLcT wi wg wYes wT vs ε N RT := by
  refine lcT_f xs e (fun x => some (g x)) hg hn (fun x A B hx hA hB => hs x A hx (hA _ rfl)) ?_
  rw [List.filterMap_eq_map']
  exact hd
theorem lc_m (xs : List α) (e : α → PyData) (g : α → PyData) (hg : Gv wi ε N (xs.map e)) (hn : xs.length ≤ 40000)
    (hs : ∀ (x : α) (A : PyData → Nat → Prop), x ∈ xs → A (g x) N → wg (e x) (wipeE ε vs) fun ε2 => w ε2 N A) (hd : R (.list (xs.map g)) N) : wLc wi wg wYes w vs ε N R := by
  refine lc_f xs e (fun x => some (g x)) hg hn (fun x A B hx hA hB => hs x A hx (hA _ rfl)) ?_
  rw [List.filterMap_eq_map']
  exact hd
theorem take_succ_flat {γ : Type} {xs : List α} {k : Nat} {x : α} (h : xs[k]? = some x) (g : α → List γ) : (xs.take (k + 1)).flatMap g = (xs.take k).flatMap g ++ g x := by
  rw [List.take_add_one, h, List.flatMap_append]
  congr 1
  show List.flatMap g [x] = _
  simp
theorem len_pre {γ : Type} {xs : List α} {k : Nat} {x : α} (h : xs[k]? = some x) (g : α → List γ) : ((xs.take k).flatMap g ++ g x).length ≤ (xs.flatMap g).length := by
  rw [← take_succ_flat h g]
  have e : xs.flatMap g = (xs.take (k + 1)).flatMap g ++ (xs.drop (k + 1)).flatMap g := by rw [← List.flatMap_append, List.take_append_drop]
  rw [e, List.length_append]
  omega
/-- [e for x in xs if p for y in ys if q] -/
theorem lcT2_f (xs : List α) (e : α → PyData) (ys : α → List β) (e1 : α → β → PyData) (g : α → β → Option PyData) (p : α → Bool) (hg : Gv wi ε N (xs.map e))
    (hs : ∀ (x : α) (X : Env → List PyData → Nat → Prop) (B : Nat → Prop), x ∈ xs → (p x = true → ∀ ε2, (∀ (y : β) (A : PyData → Nat → Prop) (B : Nat → Prop), y ∈ ys x → (∀ t, g x y = some t → A t N) → (g x y = none → B N) → wg1 (e1 x y) (wipeE ε2 vs1) fun ε3 => wt1 ε3 N fun b1 M5 => bIf b1 (w ε3 M5 A) (B M5)) → X ε2 ((ys x).map (e1 x)) N) → (p x = false → B N) → wg (e x) (wipeE ε vs) fun ε2 => wt ε2 N fun b M2 => bIf b (wi1 ε2 M2 (X ε2)) (B M2))
    (hl : (xs.flatMap fun x => if p x then (ys x).filterMap (g x) else []).length ≤ 100000)
    (hd : RT (.lst ((xs.flatMap fun x => if p x then (ys x).filterMap (g x) else []).map T.sh)) N) : wLcT2 wi wg wt wi1 wg1 wt1 w vs vs1 ε N RT := by
  refine hg _ ⟨fun k ts M => ts = (xs.take k).flatMap (fun x => if p x then (ys x).filterMap (g x) else []) ∧ M = N, ⟨rfl, rfl⟩, fun k d ts M0 hx hI => ?_, fun ts M hI => ?_⟩
  · obtain ⟨rfl, rfl⟩ := hI
    rw [List.getElem?_map] at hx
    cases hk : xs[k]? with
    | none => rw [hk] at hx; cases hx
    | some x =>
      rw [hk] at hx
      have ed : e x = d := Option.some.inj hx
      subst ed
      have hb := len_pre hk (fun x => if p x then (ys x).filterMap (g x) else [])
      refine hs x _ _ (List.mem_of_getElem? hk) (fun hp ε2 body => ?_) fun hp => ?_
      · simp only [hp, if_true] at hb
        rw [List.length_append] at hb
        refine ⟨fun j es M => es = (xs.take k).flatMap (fun x => if p x then (ys x).filterMap (g x) else []) ++ ((ys x).take j).filterMap (g x) ∧ M = M0, ⟨(List.append_nil _).symm, rfl⟩, fun j d1 es1 M4 hy hI1 => ?_, fun es1 M4 hI1 => ?_⟩
        · obtain ⟨rfl, rfl⟩ := hI1
          rw [List.getElem?_map] at hy
          cases hj : (ys x)[j]? with
          | none => rw [hj] at hy; cases hy
          | some y =>
            rw [hj] at hy
            have ed : e1 x y = d1 := Option.some.inj hy
            subst ed
            refine body y _ _ (List.mem_of_getElem? hj) (fun t ht => ⟨?_, ?_, rfl⟩) fun ht => ⟨?_, rfl⟩
            · rw [List.length_append]
              have e2 : (ys x).filterMap (g x) = ((ys x).take j).filterMap (g x) ++ ((ys x).drop j).filterMap (g x) := by rw [← List.filterMap_append, List.take_append_drop]
              rw [e2, List.length_append] at hb
              omega
            · rw [take_succ_map hj, ht, List.append_assoc]; rfl
            · rw [take_succ_map hj, ht]; exact congrArg _ (List.append_nil _).symm
        · obtain ⟨rfl, rfl⟩ := hI1
          refine ⟨?_, rfl⟩
          rw [List.length_map, List.take_of_length_le (Nat.le_refl _), take_succ_flat hk, hp]
          rfl
      · refine ⟨?_, rfl⟩
        rw [take_succ_flat hk, hp]
        exact (List.append_nil _).symm
  · obtain ⟨rfl, rfl⟩ := hI
    rw [List.length_map, List.take_of_length_le (Nat.le_refl _)]
    exact hd
theorem lc2_f (xs : List α) (e : α → PyData) (ys : α → List β) (e1 : α → β → PyData) (g : α → β → Option PyData) (p : α → Bool) (hg : Gv wi ε N (xs.map e))
    (hs : ∀ (x : α) (X : Env → List PyData → Nat → Prop) (B : Nat → Prop), x ∈ xs → (p x = true → ∀ ε2, (∀ (y : β) (A : PyData → Nat → Prop) (B : Nat → Prop), y ∈ ys x → (∀ t, g x y = some t → A t N) → (g x y = none → B N) → wg1 (e1 x y) (wipeE ε2 vs1) fun ε3 => wt1 ε3 N fun b1 M5 => bIf b1 (w ε3 M5 A) (B M5)) → X ε2 ((ys x).map (e1 x)) N) → (p x = false → B N) → wg (e x) (wipeE ε vs) fun ε2 => wt ε2 N fun b M2 => bIf b (wi1 ε2 M2 (X ε2)) (B M2))
    (hl : (xs.flatMap fun x => if p x then (ys x).filterMap (g x) else []).length ≤ 100000)
    (hd : R (.list (xs.flatMap fun x => if p x then (ys x).filterMap (g x) else [])) N) : wLc2 wi wg wt wi1 wg1 wt1 w vs vs1 ε N R := by
  show wLcT2 wi wg wt wi1 wg1 wt1 w vs vs1 ε N fun t N' => R t.data N'
  refine lcT2_f xs e ys e1 g p hg hs hl ?_
  show R (T.lst _).data N
  rw [data_shs]
  exact hd
/-- for x in a typed list -/
theorem for_f (xs : List α) (e : α → PyData) (I : Nat → Env → Nat → Prop) (hg : Gv wi ε N (xs.map e)) (h0 : I 0 ε N) (hs : ∀ k x ε M, xs[k]? = some x → I k ε M → wg (e x) ε fun ε2 => ws (D.loop (I (k + 1))) ε2 M) (hd : ∀ ε M, I xs.length ε M → D.nx ε M) : wFor wi wg ws D ε N := by
  refine hg _ ⟨I, h0, fun k d ε M hx hI => ?_, fun ε M hI => hd ε M (by rw [List.length_map] at hI; exact hI)⟩
  rw [List.getElem?_map] at hx
  cases hk : xs[k]? with
  | none => rw [hk] at hx; cases hx
  | some x =>
    rw [hk] at hx
    have ed : e x = d := Option.some.inj hx
    subst ed
    exact hs k x ε M hk hI
/-- while -/
theorem while_i (I : Nat → Env → Nat → Prop) (m : Nat) (h0 : I m ε N) (hs : ∀ m ε M, I m ε M → wt ε M fun b M1 => bIf b (ws (D.loop fun ε N => ∃ m', m' < m ∧ I m' ε N) ε M1) (D.nx ε M1)) : wWhile wt ws D ε N := ⟨I, ⟨m, h0⟩, fun m ε M hI => hs m ε M hI⟩
end
end Cg

set_option Elab.async false
set_option linter.all false
set_option maxRecDepth 100000
set_option maxHeartbeats 1000000
namespace Cg
open PySem PySem.Spec PyProof.Rows L2 Evl
/-! ### places, pairs and tables as data -/
abbrev Pr := Nat × Nat
def pD (p : Pr) : PyData := .tuple [.int (p.1 : Nat), .int (p.2 : Nat)]
def nD (n : Nat) : PyData := .int (n : Int)
def oD : Option Pr → PyData
  | none => .none
  | some p => pD p
/-- of at most 100 rows of at most 100 -/
def Sz (M : Mat) : Prop := M.length ≤ 100 ∧ ∀ r ∈ M, r.length ≤ 100
theorem Small.sz {M : Mat} (h : Small M) : Sz M := ⟨by have := h.1; omega, fun r hr => by have := h.2 r hr; omega⟩
def askRow (r : List Int) (i : Nat) : List Pr := r.zipIdx.filterMap fun q => if q.1 == 1 then some (i, q.2) else none
def asksN (M : Mat) : List Pr := M.zipIdx.flatMap fun p => askRow p.1 p.2
def cutB (I O : List Nat) (i j : Nat) : Bool := I.contains i || O.contains j
def leftN (I O : List Nat) (M : Mat) : Mat := M.zipIdx.map fun p => p.1.zipIdx.map fun q => if cutB I O p.2 q.2 then 0 else q.1
/-- neither of its places stands in these -/
def freeB (ps : List Pr) (p : Pr) : Bool := !cutB (ps.map (·.1)) (ps.map (·.2)) p.1 p.2
theorem zipIdx_map_zipIdx {α β : Type} (f : α × Nat → β) (xs : List α) : (xs.zipIdx.map f).zipIdx = xs.zipIdx.map fun p => (f p, p.2) := by
  apply List.ext_getElem
  · simp
  · intro i h1 h2
    simp
theorem ask_left_row (I O : List Nat) (r : List Int) (i : Nat) : askRow (r.zipIdx.map fun q => if cutB I O i q.2 then 0 else q.1) i = (askRow r i).filter fun p => !cutB I O p.1 p.2 := by
  unfold askRow
  rw [zipIdx_map_zipIdx, List.filterMap_map]
  generalize r.zipIdx = l
  induction l with
  | nil => rfl
  | cons q l ih =>
    rw [List.filterMap_cons, List.filterMap_cons]
    cases hq : (q.1 == 1) <;> cases hc : cutB I O i q.2 <;> simp_all
theorem asks_left_eq (I O : List Nat) (M : Mat) : asksN (leftN I O M) = (asksN M).filter fun p => !cutB I O p.1 p.2 := by
  unfold asksN leftN
  rw [zipIdx_map_zipIdx, List.flatMap_map, List.filter_flatMap]
  congr 1
  funext p
  exact ask_left_row I O p.1 p.2
theorem asks_free (ps : List Pr) (M : Mat) : (asksN (leftN (ps.map (·.1)) (ps.map (·.2)) M)).head? = (asksN M).find? (freeB ps) := by
  rw [asks_left_eq, List.head?_filter]
  rfl
theorem ask_len_row (r : List Int) (i : Nat) : (askRow r i).length ≤ r.length := by
  unfold askRow
  exact Nat.le_trans (List.length_filterMap_le _ _) (by rw [List.length_zipIdx]; exact Nat.le_refl _)
theorem flat_len {α β : Type} (f : α → List β) (b : Nat) : ∀ xs : List α, (∀ x ∈ xs, (f x).length ≤ b) → (xs.flatMap f).length ≤ b * xs.length
  | [], _ => Nat.zero_le _
  | x :: xs, h => by
    have h1 := flat_len f b xs fun y hy => h y (List.mem_cons_of_mem _ hy)
    have h2 := h x (List.mem_cons_self ..)
    rw [List.flatMap_cons, List.length_append, List.length_cons, Nat.mul_succ]
    omega
theorem zipIdx_fst {α : Type} {xs : List α} {p : α × Nat} (h : p ∈ xs.zipIdx) : p.1 ∈ xs := by
  obtain ⟨_, hj, he⟩ := List.mem_zipIdx h
  rw [he]
  exact List.getElem_mem _
theorem asks_len {M : Mat} (h : Sz M) : (asksN M).length ≤ 10000 := by
  have h1 := flat_len (fun p : List Int × Nat => askRow p.1 p.2) 100 M.zipIdx fun p hp => Nat.le_trans (ask_len_row _ _) (h.2 _ (zipIdx_fst hp))
  rw [List.length_zipIdx] at h1
  have h2 := h.1
  show ((M.zipIdx).flatMap _).length ≤ 10000
  omega
theorem left_len (I O : List Nat) (M : Mat) : (leftN I O M).length = M.length := by unfold leftN; rw [List.length_map, List.length_zipIdx]
theorem left_row {I O : List Nat} {M : Mat} {r : List Int} (h : r ∈ leftN I O M) : ∃ s ∈ M, r.length = s.length := by
  obtain ⟨p, hp, rfl⟩ := List.mem_map.mp h
  exact ⟨p.1, zipIdx_fst hp, by rw [List.length_map, List.length_zipIdx]⟩
theorem Sz.left {I O : List Nat} {M : Mat} (h : Sz M) : Sz (leftN I O M) := ⟨by rw [left_len]; exact h.1, fun r hr => by
  obtain ⟨s, hs, e⟩ := left_row hr
  rw [e]; exact h.2 s hs⟩
/-- what stands there -/
def cell (M : Mat) (i j : Nat) : Int := (M.getD i []).getD j 0
theorem mem_asks {M : Mat} {p : Pr} : p ∈ asksN M ↔ cell M p.1 p.2 = 1 := by
  unfold asksN askRow cell
  simp only [List.mem_flatMap, List.mem_filterMap, Prod.exists, List.mem_zipIdx_iff_getElem?]
  constructor
  · rintro ⟨r, i, hr, x, j, hx, hq⟩
    split at hq
    · rename_i h1
      have e := Option.some.inj hq
      subst e
      rw [List.getD_eq_getElem?_getD, List.getD_eq_getElem?_getD, hr]
      show (r[j]?).getD 0 = 1
      rw [hx]
      exact eq_of_beq h1
    · cases hq
  · intro h
    rw [List.getD_eq_getElem?_getD, List.getD_eq_getElem?_getD] at h
    cases hr : M[p.1]? with
    | none => rw [hr] at h; simp at h
    | some r =>
      rw [hr] at h
      have h' : (r[p.2]?).getD 0 = 1 := h
      cases hx : r[p.2]? with
      | none => rw [hx] at h'; simp at h'
      | some x =>
        rw [hx] at h'
        have h2 : x = 1 := h'
        exact ⟨r, p.1, hr, x, p.2, hx, by rw [h2]; rfl⟩
/-- rising -/
def lexN (p q : Pr) : Prop := p.1 < q.1 ∨ (p.1 = q.1 ∧ p.2 < q.2)
theorem pw_zipIdx {α : Type} (xs : List α) : xs.zipIdx.Pairwise fun p q => p.2 < q.2 := by
  rw [List.pairwise_iff_getElem]
  intro i j hi hj hij
  simp
  exact hij
theorem asks_lex (M : Mat) : (asksN M).Pairwise lexN := by
  unfold asksN
  rw [List.pairwise_flatMap]
  refine ⟨fun p _ => ?_, ?_⟩
  · unfold askRow
    rw [List.pairwise_filterMap]
    refine (pw_zipIdx p.1).imp fun {a b} hab x hx y hy => ?_
    split at hx
    · split at hy
      · have e1 := Option.some.inj hx
        have e2 := Option.some.inj hy
        subst e1 e2
        exact .inr ⟨rfl, hab⟩
      · cases hy
    · cases hx
  · refine (pw_zipIdx M).imp fun {a b} hab x hx y hy => ?_
    have row : ∀ {r : List Int} {i : Nat} {x : Pr}, x ∈ askRow r i → x.1 = i := fun {r i x} h => by
      obtain ⟨q, _, hq⟩ := List.mem_filterMap.mp h
      split at hq
      · rw [← Option.some.inj hq]
      · cases hq
    exact .inl (by rw [row hx, row hy]; exact hab)
/-! ### taken one by one -/
def gstep (acc : List Pr) (p : Pr) : List Pr := if freeB acc p then acc ++ [p] else acc
theorem gstep_t {acc : List Pr} {p : Pr} (h : freeB acc p = true) : gstep acc p = acc ++ [p] := if_pos h
theorem gstep_f {acc : List Pr} {p : Pr} (h : freeB acc p = false) : gstep acc p = acc := if_neg (by rw [h]; decide)
def greedy (L : List Pr) : List Pr := L.foldl gstep []
theorem free_iff {ps : List Pr} {p : Pr} : freeB ps p = true ↔ ∀ q ∈ ps, q.1 ≠ p.1 ∧ q.2 ≠ p.2 := by
  unfold freeB cutB
  simp only [Bool.not_eq_true', Bool.or_eq_false_iff, List.contains_eq_mem, decide_eq_false_iff_not, List.mem_map, not_exists, not_and]
  exact ⟨fun h q hq => ⟨fun e => h.1 q ⟨hq, e⟩, fun e => h.2 q ⟨hq, e⟩⟩, fun h => ⟨fun q hq => (h q hq.1).1 hq.2, fun q hq => (h q hq.1).2 hq.2⟩⟩
theorem free_more {ps qs : List Pr} {p : Pr} (h : freeB (ps ++ qs) p = true) : freeB ps p = true := free_iff.mpr fun q hq => free_iff.mp h q (List.mem_append_left _ hq)
theorem free_self {ps : List Pr} {p : Pr} : freeB (ps ++ [p]) p = false := by
  cases h : freeB (ps ++ [p]) p with
  | false => rfl
  | true => exact absurd rfl (free_iff.mp h p (by simp)).1
theorem gfold_grow : ∀ (L acc : List Pr), ∃ s, L.foldl gstep acc = acc ++ s ∧ s.Sublist L
  | [], acc => ⟨[], by simp, List.Sublist.refl _⟩
  | p :: L, acc => by
    show ∃ s, L.foldl gstep (gstep acc p) = acc ++ s ∧ _
    cases h : freeB acc p with
    | true =>
      rw [gstep_t h]
      obtain ⟨s, h1, h2⟩ := gfold_grow L (acc ++ [p])
      exact ⟨p :: s, by rw [h1]; simp, h2.cons₂ _⟩
    | false =>
      rw [gstep_f h]
      obtain ⟨s, h1, h2⟩ := gfold_grow L acc
      exact ⟨s, h1, h2.cons _⟩
theorem not_free_more {ps qs : List Pr} {p : Pr} (h : freeB ps p = false) : freeB (ps ++ qs) p = false := by
  cases e : freeB (ps ++ qs) p with
  | false => rfl
  | true => rw [free_more e] at h; cases h
/-- all that was met is not free -/
theorem gfold_full : ∀ (L acc : List Pr), ∀ p ∈ L, freeB (L.foldl gstep acc) p = false
  | [], _, _, h => nomatch h
  | q :: L, acc, p, h => by
    show freeB (L.foldl gstep (gstep acc q)) p = false
    rcases List.mem_cons.mp h with rfl | h
    · obtain ⟨s, h1, _⟩ := gfold_grow L (gstep acc p)
      rw [h1]
      refine not_free_more ?_
      unfold gstep
      split
      · exact free_self
      · rename_i h2
        exact Bool.eq_false_iff.mpr h2
    · exact gfold_full L _ p h
theorem gfold_skip : ∀ (L acc : List Pr), (∀ p ∈ L, freeB acc p = false) → L.foldl gstep acc = acc
  | [], _, _ => rfl
  | q :: L, acc, h => by
    show L.foldl gstep (gstep acc q) = acc
    unfold gstep
    rw [if_neg (by rw [h q (List.mem_cons_self ..)]; decide)]
    exact gfold_skip L acc fun p hp => h p (List.mem_cons_of_mem _ hp)
/-- no place twice -/
def Apart (ps : List Pr) : Prop := ps.Pairwise fun p q => p.1 ≠ q.1 ∧ p.2 ≠ q.2
theorem gfold_apart : ∀ (L acc : List Pr), Apart acc → Apart (L.foldl gstep acc)
  | [], _, h => h
  | q :: L, acc, h => by
    show Apart (L.foldl gstep (gstep acc q))
    refine gfold_apart L _ ?_
    unfold gstep
    split
    · rename_i h2
      refine List.pairwise_append.mpr ⟨h, List.pairwise_singleton _ _, fun a ha b hb => ?_⟩
      rw [List.mem_singleton.mp hb]
      exact free_iff.mp h2 a ha
    · exact h
/-- the first that is free, put to those of a beginning -/
theorem first_free {L pre suf : List Pr} (hL : L = pre ++ suf) : (L.find? (freeB (greedy pre)) = none ∧ greedy L = greedy pre) ∨ ∃ p s1 s2, L.find? (freeB (greedy pre)) = some p ∧ suf = s1 ++ p :: s2 ∧ greedy (pre ++ s1 ++ [p]) = greedy pre ++ [p] := by
  have e : L.find? (freeB (greedy pre)) = suf.find? (freeB (greedy pre)) := by
    rw [hL, List.find?_append, List.find?_eq_none.mpr fun p hp => by rw [show freeB (greedy pre) p = false from gfold_full pre [] p hp]; decide]
    rfl
  rw [e]
  cases h : suf.find? (freeB (greedy pre)) with
  | none =>
    refine .inl ⟨rfl, ?_⟩
    rw [hL]
    show (pre ++ suf).foldl gstep [] = _
    rw [List.foldl_append]
    exact gfold_skip suf _ fun p hp => by
      have := List.find?_eq_none.mp h p hp
      exact Bool.eq_false_iff.mpr this
  | some p =>
    obtain ⟨hp, s1, s2, hs, h1⟩ := List.find?_eq_some_iff_append.mp h
    refine .inr ⟨p, s1, s2, rfl, hs, ?_⟩
    show (pre ++ s1 ++ [p]).foldl gstep [] = _
    rw [List.foldl_append, List.foldl_append]
    have e1 : s1.foldl gstep (pre.foldl gstep []) = pre.foldl gstep [] := gfold_skip s1 _ fun q hq => by
      have h2 := h1 q hq
      show freeB (greedy pre) q = false
      simpa using h2
    rw [e1]
    exact gstep_t hp
/-! ### pairs -/
structure Prs (M : Mat) (ps : List Pr) : Prop where
  ask : ∀ p ∈ ps, cell M p.1 p.2 = 1
  rise : (ps.map (·.1)).Pairwise (· < ·)
  once : (ps.map (·.2)).Nodup
theorem prs_of {M : Mat} {ps : List Pr} (h1 : ∀ p ∈ ps, cell M p.1 p.2 = 1) (h2 : ps.Pairwise lexN) (h3 : Apart ps) : Prs M ps := by
  refine ⟨h1, List.pairwise_map.mpr ?_, ?_⟩
  · refine (h2.and h3).imp fun {p q} h => ?_
    rcases h.1 with h4 | h4
    · exact h4
    · exact absurd h4.1 h.2.1
  · exact List.pairwise_map.mpr (h3.imp fun {p q} h => h.2)
theorem greedy_prs (M : Mat) : Prs M (greedy (asksN M)) := by
  obtain ⟨s, h1, h2⟩ := gfold_grow (asksN M) []
  have e : greedy (asksN M) = s := h1
  refine prs_of (fun p hp => mem_asks.mp ?_) ?_ (gfold_apart _ _ List.Pairwise.nil)
  · rw [e] at hp
    exact h2.subset hp
  · rw [e]
    exact (asks_lex M).sublist h2
/-- none is free -/
def Full (M : Mat) (ps : List Pr) : Prop := (asksN M).find? (freeB ps) = none
theorem greedy_full (M : Mat) : Full M (greedy (asksN M)) := List.find?_eq_none.mpr fun p hp => by
  rw [show freeB (greedy (asksN M)) p = false from gfold_full _ [] p hp]; decide
theorem Prs.lt {M : Mat} {ps : List Pr} (h : Prs M ps) {p : Pr} (hp : p ∈ ps) : p.1 < M.length ∧ p.2 < (M.getD p.1 []).length := by
  have h1 := h.ask p hp
  unfold cell at h1
  constructor
  · rw [List.getD_eq_getElem?_getD (l := M)] at h1
    cases e : M[p.1]? with
    | none => rw [e] at h1; simp at h1
    | some r => exact (List.getElem?_eq_some_iff.mp e).1
  · rw [List.getD_eq_getElem?_getD] at h1
    cases e : (M.getD p.1 [])[p.2]? with
    | none => rw [e] at h1; simp at h1
    | some r => exact (List.getElem?_eq_some_iff.mp e).1
theorem sub_len {α : Type} [DecidableEq α] : ∀ {xs ys : List α}, xs.Nodup → (∀ x ∈ xs, x ∈ ys) → xs.length ≤ ys.length
  | [], _, _, _ => Nat.zero_le _
  | x :: xs, ys, h, hs => by
    obtain ⟨h1, h2⟩ := List.nodup_cons.mp h
    have hx := hs x (List.mem_cons_self ..)
    have := sub_len (xs := xs) (ys := ys.erase x) h2 fun y hy => (List.mem_erase_of_ne (fun (e : y = x) => h1 (e ▸ hy))).mpr (hs y (List.mem_cons_of_mem _ hy))
    rw [List.length_erase_of_mem hx] at this
    have hp : 0 < ys.length := List.length_pos_of_mem hx
    rw [List.length_cons]
    omega
theorem nodup_len {ns : List Nat} {n : Nat} (h : ns.Nodup) (hn : ∀ x ∈ ns, x < n) : ns.length ≤ n := by
  have := sub_len h (ys := List.range n) fun x hx => List.mem_range.mpr (hn x hx)
  rwa [List.length_range] at this
theorem rise_len {ns : List Nat} {n : Nat} (h : ns.Pairwise (· < ·)) (hn : ∀ x ∈ ns, x < n) : ns.length ≤ n := nodup_len (h.imp fun {a b} hab => Nat.ne_of_lt hab) hn
theorem Prs.len {M : Mat} {ps : List Pr} (h : Prs M ps) : ps.length ≤ M.length := by
  have := rise_len h.rise (n := M.length) fun x hx => by
    obtain ⟨p, hp, rfl⟩ := List.mem_map.mp hx
    exact (h.lt hp).1
  rwa [List.length_map] at this
/-! ### rising -/
def risesB : List Int → Bool
  | a :: b :: r => decide (a < b) && risesB (b :: r)
  | _ => true
theorem rises_iff : ∀ {ns : List Int}, risesB ns = true ↔ ns.Pairwise (· < ·)
  | [] => by simp [risesB]
  | [a] => by simp [risesB]
  | a :: b :: r => by
    have ih := rises_iff (ns := b :: r)
    rw [risesB, Bool.and_eq_true, decide_eq_true_eq, ih, List.pairwise_cons (a := a)]
    constructor
    · rintro ⟨h1, h2⟩
      refine ⟨fun x hx => ?_, h2⟩
      rcases List.mem_cons.mp hx with rfl | hx
      · exact h1
      · exact Int.lt_trans h1 ((List.pairwise_cons.mp h2).1 x hx)
    · rintro ⟨h1, h2⟩
      exact ⟨h1 b (List.mem_cons_self ..), h2⟩
theorem rises_zip : ∀ ns : List Int, ((ns.zip (ns.drop 1)).map fun p => decide (p.1 < p.2)).all id = risesB ns
  | [] => rfl
  | [a] => rfl
  | a :: b :: r => by
    have ih := rises_zip (b :: r)
    show ((a, b) :: (b :: r).zip r |>.map fun p => decide (p.1 < p.2)).all id = _
    rw [List.map_cons, List.all_cons]
    show (decide (a < b) && (((b :: r).zip ((b :: r).drop 1)).map _).all id) = _
    rw [ih, risesB]
theorem rises_nat {ns : List Nat} (h : ns.Pairwise (· < ·)) : risesB (ns.map fun n : Nat => (n : Int)) = true := rises_iff.mpr (List.pairwise_map.mpr (h.imp fun {a b} hab => by omega))
theorem rises_sorted {ns : List Nat} (h : ns.Nodup) {ms : List Int} (hp : ms.Perm (ns.map fun n : Nat => (n : Int))) (hs : ms.Pairwise (· ≤ ·)) : risesB ms = true := by
  refine rises_iff.mpr ?_
  have hn : ms.Nodup := hp.nodup_iff.mpr (List.pairwise_map.mpr (h.imp fun {a b} hab => by omega))
  exact (hs.and hn).imp fun {a b} hab => by omega
theorem contains_nat {ns : List Nat} {k : Nat} : (ns.map fun n : Nat => (n : Int)).contains (k : Int) = ns.contains k := by
  rw [Bool.eq_iff_iff, List.contains_iff_mem, List.contains_iff_mem, List.mem_map]
  exact ⟨fun ⟨a, ha, e⟩ => by
    have e' : a = k := by omega
    rw [← e']; exact ha, fun h => ⟨k, h, rfl⟩⟩
end Cg

set_option Elab.async false
set_option linter.all false
set_option maxRecDepth 100000
set_option maxHeartbeats 1000000
namespace Cg
open PySem PySem.Spec PyProof.Rows L2 Evl
/-! ### one of a new list: [a, b, ..][k] -/
theorem RepL.get {bs : List Addr} {H : Hp} : ∀ {vs : List V} {ts : List T} {A : List Addr}, RepL bs H vs ts A → ∀ {j : Nat} {t : T}, ts[j]? = some t → ∃ v B, vs[j]? = some v ∧ Rep bs H v t B ∧ B.Sublist A
  | _, _, _, .nil, j, t, e => by simp at e
  | _, _, _, .cons (A := A) (B := B) h k, 0, t, e => by
    have e' := Option.some.inj e
    subst e'
    exact ⟨_, A, rfl, h, List.sublist_append_left _ _⟩
  | _, _, _, .cons (A := A) (B := B) h k, j + 1, t, e => by
    obtain ⟨v, C, h1, h2, h3⟩ := RepL.get k (j := j) (t := t) e
    exact ⟨v, C, h1, h2, h3.trans (List.sublist_append_right _ _)⟩
theorem RepL.getI {bs : List Addr} {H : Hp} {vs : List V} {ts : List T} {A : List Addr} {i : Int} {t : T} (h : RepL bs H vs ts A) (e : L2.atI ts i = some t) : ∃ v B, L2.atI vs i = some v ∧ Rep bs H v t B ∧ B.Sublist A := by
  unfold L2.atI at e ⊢
  rw [h.len]
  cases hn : ixN ts.length i with
  | none => rw [hn] at e; cases e
  | some j =>
    rw [hn] at e
    exact h.get e
def wPickT (ws : WTs) (we : WE) : WT := fun ε N R => ws ε N fun ts N1 => ts.length ≤ 100000 ∧ we ε N1 fun d N2 => dInt d fun k => ∃ t, L2.atI ts k = some t ∧ R t N2
theorem wPickT_eq {ws : WTs} {we : WE} {ε : Env} {N : Nat} {R : T → Nat → Prop} : wPickT ws we ε N R = ws ε N fun ts N1 => ts.length ≤ 100000 ∧ we ε N1 fun d N2 => dInt d fun k => ∃ t, L2.atI ts k = some t ∧ R t N2 := propext Iff.rfl
theorem sim_pickT {K : PySem.W.Frag} {tas : TA} {te : TE} {ws : WTs} {we : WE} (h : SimTs tas ws) (k : SimE te we) : SimT (tOp (rIx K) (tLst tas) te) (wPickT ws we) := fun {c bs F σ H ε N R Q} r w q => h r w fun vs ts A N1 H1 w1 o1 n => ⟨by rw [n.rep.len]; exact Nat.le_trans w1.1 (by decide), fun p np => by
  have n1 := Nw.lst r o1 n np
  have o2 := o1.ext (Ex.new (o := .lst vs) np)
  have r2 := r.hide o2 n1.new n1.rep.own
  refine k r2 w1.2 fun y d N2 H3 w2 o3 hy => ?_
  cases d <;> first | exact False.elim w2 | skip
  rename_i i
  obtain ⟨t, ht, hR⟩ := w2
  cases hy
  have n3 := n1.step o3 r.live (out_notup o2 r.live r.nt) r.bin
  cases n3.rep with
  | lst e hrep =>
    obtain ⟨v, B, hv, hB, hs⟩ := hrep.getI ht
    have hs' : B.Sublist (p :: A) := hs.cons _
    refine .inl ⟨p, _, i, v, rfl, rfl, SqL.of e, hv, q v t B N2 H3 hR (o2.trans o3) ⟨?_, n3.nd.sublist hs', fun a ha => n3.new a (hs'.subset ha)⟩⟩
    refine Rep.perm (own_notup n3.rep.own (out_notup (o2.trans o3) r.live r.nt)) (fun a ha => ?_) hB
    rcases List.mem_append.mp ha with ha | ha
    · exact List.mem_append_left _ (hs'.subset ha)
    · exact List.mem_append_right _ ha⟩
end Cg

set_option Elab.async false
set_option linter.all false
set_option maxRecDepth 100000
set_option maxHeartbeats 1000000
namespace Cg
open PySem PySem.Spec PyProof.Rows L2 Evl
/-! ### lists within what is its own, changed in place -/
section
variable {c : Base} {bs F A : List Addr} {σ : L2.St} {H H' : Hp} {ε : Env} {N N' : Nat} {te ta tb : TE} {wt : WT} {wa wb : WE}
/-- part k of a row, and the row when that part stands otherwise -/
theorem RepL.splitC : ∀ {vs : List V} {ts : List T} {A : List Addr}, RepL bs H vs ts A → ∀ {k : Nat} {t : T}, ts[k]? = some t → ∃ v A1 Av A2, vs[k]? = some v ∧ Rep bs H v t Av ∧ A = A1 ++ (Av ++ A2) ∧
    ∀ {H' : Hp} {t' : T} {B : List Addr}, NoTup bs H → Same (hid bs H) (hid bs H') → (∀ x ∈ A1 ++ A2, ∀ o, H x = some o → H' x = some o) → Rep bs H' v t' B → RepL bs H' vs (ts.set k t') (A1 ++ (B ++ A2))
  | _, _, _, .nil, k, t, e => by cases e
  | _, _, _, .cons (v := v) (A := A) (B := B) h q, 0, t, e => by
    have e' := Option.some.inj e
    subst e'
    refine ⟨v, [], A, B, rfl, h, rfl, fun {H' t' B'} hn k hx h' => ?_⟩
    exact RepL.cons (A := B') (B := B) h' (RepL.chg hn k (fun a ha o e => hx a ha o e) q)
  | _, _, _, .cons (v := v) (A := A) (B := B) h q, k + 1, t, e => by
    obtain ⟨v2, A1, Av, A2, p1, p2, p3, p4⟩ := q.splitC (k := k) (t := t) e
    refine ⟨v2, A ++ A1, Av, A2, p1, p2, by rw [p3, List.append_assoc], fun {H' t' B'} hn kk hx h' => ?_⟩
    rw [List.append_assoc]
    exact .cons (Rep.chg hn kk (fun a ha o e => hx a (List.mem_append_left _ (List.mem_append_left _ ha)) o e) h) (p4 hn kk (fun a ha o e => hx a (by
      rcases List.mem_append.mp ha with z | z
      · exact List.mem_append_left _ (List.mem_append_right _ z)
      · exact List.mem_append_right _ z) o e) h')
theorem keep_put {a : Addr} {o : HO} (h : a ∈ bs) : Same (hid bs H) (hid bs (upd H a o)) := (Keep.refl bs H).put h
/-- one of the lists that the slots own stands otherwise -/
theorem Rel.swap {pre post A0 A' : List Addr} {a : Addr} {vs' : List V} {ε' : Env} (r : Rel c bs (pre ++ (a :: A0 ++ post)) σ H ε N) (nd' : A'.Nodup) (ha' : a ∉ A') (hx' : ∀ x ∈ A', x ∈ A0 ∨ (x ∈ bs ∧ x ∉ pre ++ (a :: A0 ++ post) ∧ c.P x = none ∧ x ∉ c.bs0))
    (env : RelE c.b bs (upd H a (.lst vs')) σ ε' (pre ++ (a :: A' ++ post))) : Rel c bs (pre ++ (a :: A' ++ post)) σ (upd H a (.lst vs')) ε' N := by
  have hmem : ∀ x ∈ a :: A0, x ∈ pre ++ (a :: A0 ++ post) := fun x hx => List.mem_append_right _ (List.mem_append_left _ hx)
  have ain := hmem a (List.mem_cons_self ..)
  have abs := r.sub a ain
  have aout : ∀ x ∈ pre ++ post, x ≠ a := fun x hx z => by
    subst z
    obtain ⟨_, p2, p3⟩ := List.nodup_append.mp r.nd
    rcases List.mem_append.mp hx with h | h
    · exact p3 x h x (List.mem_append_left _ (List.mem_cons_self ..)) rfl
    · exact (List.nodup_append.mp p2).2.2 x (List.mem_cons_self ..) x h rfl
  have A0out : ∀ x ∈ A0, x ∉ pre ∧ x ∉ post := fun x hx => by
    obtain ⟨_, p2, p3⟩ := List.nodup_append.mp r.nd
    exact ⟨fun z => p3 x z x (List.mem_append_left _ (List.mem_cons_of_mem _ hx)) rfl, fun z => (List.nodup_append.mp p2).2.2 x (List.mem_cons_of_mem _ hx) x z rfl⟩
  have kk : Keep bs H (upd H a (.lst vs')) := (Keep.refl _ _).put abs
  have hm : ∀ x ∈ pre ++ (a :: A' ++ post), x ∈ pre ++ (a :: A0 ++ post) ∨ (x ∈ A' ∧ x ∉ A0) := fun x hx => by
    rcases mem_mid hx with h | h | h | h
    · exact .inl (List.mem_append_left _ h)
    · rw [h]; exact .inl ain
    · by_cases hA : x ∈ A0
      · exact .inl (hmem x (List.mem_cons_of_mem _ hA))
      · exact .inr ⟨h, hA⟩
    · exact .inl (List.mem_append_right _ (List.mem_append_right _ h))
  have hnew : ∀ x, x ∈ A' ∧ x ∉ A0 → x ∈ bs ∧ x ∉ pre ++ (a :: A0 ++ post) ∧ c.P x = none ∧ x ∉ c.bs0 := fun x hx => (hx' x hx.1).elim (fun z => absurd z hx.2) id
  refine ⟨env, nodup_mid r.nd (List.nodup_cons.mpr ⟨ha', nd'⟩) fun x hx => ?_, fun x hx => (hm x hx).elim (r.sub x) fun z => (hnew x z).1, fun x hx => (hm x hx).elim (r.off x) fun z => (hnew x z).2.2.1, fun x hx => (hm x hx).elim (r.nb x) fun z => (hnew x z).2.2.2, r.up, r.bb, r.offb, fun x hx => ?_, fun x hx xs z => ?_, fun x hx => ?_, fun x o e => ?_, r.vis.trans kk⟩
  · rcases List.mem_cons.mp hx with h | h
    · subst h
      exact ⟨fun z => aout x (List.mem_append_left _ z) rfl, fun z => aout x (List.mem_append_right _ z) rfl⟩
    · by_cases hA : x ∈ A0
      · exact A0out x hA
      · have := (hnew x ⟨h, hA⟩).2.1
        exact ⟨fun z => this (List.mem_append_left _ z), fun z => this (List.mem_append_right _ (List.mem_append_right _ z))⟩
  · by_cases hxa : x = a
    · subst hxa; rw [upd_same]; exact fun z => nomatch z
    · rw [upd_ne hxa]; exact r.live x hx
  · by_cases hxa : x = a
    · subst hxa; rw [upd_same] at z; cases z
    · rw [upd_ne hxa] at z; exact r.nt x hx xs z
  · exact (r.box x hx).put (fun z => r.fb a ain (z ▸ hx))
  · rw [upd_ne (fun (z : x = a) => by rw [z, r.off a ain] at e; cases e)]
    exact r.pin x o e
/-- a list or a tuple that is its own -/
def mkT (b : Bool) (ts : List T) : T := match b with
  | true => .lst ts
  | false => .tup ts
def mkO (b : Bool) (vs : List V) : HO := match b with
  | true => .lst vs
  | false => .tup vs
theorem mut2_core {i k : Nat} {b : Bool} {ts us : List T} {a0 : Addr} {vs0 : List V} {B hd F1 F2 : List Addr} (r : Rel c bs (F1 ++ ((hd ++ B) ++ F2)) σ H ε N) (h : RepL bs H vs0 ts B) (hk : ts[k]? = some (.lst us)) (hH : H a0 = some (mkO b vs0)) (hab : a0 ∉ c.b)
    (build : ∀ {H' : Hp} {B' : List Addr} {ts' : List T}, H' a0 = some (mkO b vs0) → RepL bs H' vs0 ts' B' → RepS c.b bs H' (some (.ref a0)) (.is (mkT b ts')) (hd ++ B')) (q1 : σ[i]? = some (some (.ref a0)))
    (q4 : ∀ {cs : List Addr} {H' : Hp} {y : Option V} {m : Sl} {B : List Addr}, NoTup bs H → Same (hid bs H) (hid cs H') → (∀ a ∈ F1 ++ F2, ∀ o, H a = some o → H' a = some o) → RepS c.b cs H' y m B → RelE c.b cs H' (σ.set i y) (ε.set i m) (F1 ++ (B ++ F2)))
    (hne : ∀ a ∈ B, a ≠ a0) : ∃ a0 vs0 a vs A0, σ[i]? = some (some (.ref a0)) ∧ H a0 = some (mkO b vs0) ∧ a0 ∉ c.b ∧ vs0.length = ts.length ∧ vs0[k]? = some (.ref a) ∧ H a = some (.lst vs) ∧ RepL bs H vs us A0 ∧ A0.Nodup ∧ a ∉ A0 ∧ a ∉ c.b ∧ a ∈ F1 ++ ((hd ++ B) ++ F2) ∧ (∀ x ∈ A0, x ∈ F1 ++ ((hd ++ B) ++ F2)) ∧
    ∀ {vs' : List V} {us' : List T} {A' : List Addr}, RepL bs H vs' us' A' → A'.Nodup → a ∉ A' → (∀ x ∈ A', x ∈ A0 ∨ (x ∈ bs ∧ x ∉ F1 ++ ((hd ++ B) ++ F2) ∧ c.P x = none ∧ x ∉ c.bs0)) → ∃ F', Rel c bs F' σ (upd H a (.lst vs')) (ε.set i (.is (mkT b (ts.set k (.lst us'))))) N := by
  obtain ⟨v, B1, Av, B2, p1, p2, rfl, p4⟩ := h.splitC hk
  cases p2 with
  | lst e hr =>
    rename_i a vs A0
    have eF : F1 ++ ((hd ++ (B1 ++ ((a :: A0) ++ B2))) ++ F2) = (F1 ++ hd ++ B1) ++ (a :: A0 ++ (B2 ++ F2)) := by simp
    rw [eF] at r ⊢
    have nd := r.nd
    have nd2 := (List.nodup_append.mp (List.nodup_append.mp nd).2.1).1
    have hnd := List.nodup_cons.mp nd2
    have hmem : ∀ x ∈ a :: A0, x ∈ (F1 ++ hd ++ B1) ++ (a :: A0 ++ (B2 ++ F2)) := fun x hx => List.mem_append_right _ (List.mem_append_left _ hx)
    have ain := hmem a (List.mem_cons_self ..)
    have aout : ∀ x ∈ (F1 ++ hd ++ B1) ++ (B2 ++ F2), x ≠ a := fun x hx z => by
      subst z
      obtain ⟨_, p2, p3⟩ := List.nodup_append.mp nd
      rcases List.mem_append.mp hx with h | h
      · exact p3 x h x (List.mem_append_left _ (List.mem_cons_self ..)) rfl
      · exact (List.nodup_append.mp p2).2.2 x (List.mem_cons_self ..) x h rfl
    have a0a : a0 ≠ a := fun z => hne a (List.mem_append_right _ (List.mem_append_left _ (List.mem_cons_self ..))) z.symm
    refine ⟨a0, vs0, a, vs, A0, q1, hH, hab, h.len, p1, e, hr, hnd.2, hnd.1, r.fb a ain, ain, fun x hx => hmem x (List.mem_cons_of_mem _ hx), fun {vs' us' A'} h' nd' ha' hx' => ?_⟩
    have kk : Keep bs H (upd H a (.lst vs')) := (Keep.refl _ _).put (r.sub a ain)
    have rr : RepL bs (upd H a (.lst vs')) vs' us' A' := RepL.chg r.nt kk (fun x hx o e => by rw [upd_ne (fun (z : x = a) => ha' (z ▸ hx))]; exact e) h'
    have rl : RepL bs (upd H a (.lst vs')) vs0 (ts.set k (.lst us')) (B1 ++ ((a :: A') ++ B2)) := p4 r.nt kk (fun x hx o e => by
      rw [upd_ne (aout x (by
        rcases List.mem_append.mp hx with z | z
        · exact List.mem_append_left _ (List.mem_append_right _ z)
        · exact List.mem_append_right _ (List.mem_append_left _ z)))]
      exact e) (.lst upd_same rr)
    have env := q4 (cs := bs) (H' := upd H a (.lst vs')) r.nt kk (fun x hx o e => by
      rw [upd_ne (aout x (by
        rcases List.mem_append.mp hx with z | z
        · exact List.mem_append_left _ (List.mem_append_left _ (List.mem_append_left _ z))
        · exact List.mem_append_right _ (List.mem_append_right _ z)))]
      exact e) (build (by rw [upd_ne a0a]; exact hH) rl)
    rw [set_same q1] at env
    have eF2 : F1 ++ ((hd ++ (B1 ++ ((a :: A') ++ B2))) ++ F2) = (F1 ++ hd ++ B1) ++ (a :: A' ++ (B2 ++ F2)) := by simp
    rw [eF2] at env
    exact ⟨_, r.swap nd' ha' hx' env⟩
/-- the list at k of what is in slot i -/
theorem Rel.mutate2 {i k : Nat} {b : Bool} {ts us : List T} (r : Rel c bs F σ H ε N) (hl : ε[i]? = some (.is (mkT b ts))) (hk : ts[k]? = some (.lst us)) : ∃ a0 vs0 a vs A0, σ[i]? = some (some (.ref a0)) ∧ H a0 = some (mkO b vs0) ∧ a0 ∉ c.b ∧ vs0.length = ts.length ∧ vs0[k]? = some (.ref a) ∧ H a = some (.lst vs) ∧ RepL bs H vs us A0 ∧ A0.Nodup ∧ a ∉ A0 ∧ a ∉ c.b ∧ a ∈ F ∧ (∀ x ∈ A0, x ∈ F) ∧
    ∀ {vs' : List V} {us' : List T} {A' : List Addr}, RepL bs H vs' us' A' → A'.Nodup → a ∉ A' → (∀ x ∈ A', x ∈ A0 ∨ (x ∈ bs ∧ x ∉ F ∧ c.P x = none ∧ x ∉ c.bs0)) → ∃ F', Rel c bs F' σ (upd H a (.lst vs')) (ε.set i (.is (mkT b (ts.set k (.lst us'))))) N := by
  obtain ⟨y, A, F1, F2, q1, q2, rfl, q4⟩ := r.env.at hl
  cases b with
  | true => cases q2 with
    | is q2 => cases q2 with
      | lst e h =>
        rename_i a0 vs0 B
        have nd2 := (List.nodup_append.mp (List.nodup_append.mp r.nd).2.1).1
        have hnd := List.nodup_cons.mp nd2
        exact mut2_core (b := true) (hd := [a0]) r h hk e (r.fb a0 (List.mem_append_right _ (List.mem_append_left _ (List.mem_cons_self ..)))) (fun {H' B' ts'} e' h' => .is (.lst e' h')) q1 q4 fun a ha z => hnd.1 (z ▸ ha)
  | false => cases q2 with
    | is q2 => cases q2 with
      | tup e h =>
        rename_i a0 vs0
        exact mut2_core (b := false) (hd := []) r h hk e (fun z => box_tup (r.box a0 z) e) (fun {H' B' ts'} e' h' => .is (.tup e' h')) q1 q4 fun a ha z => by
          subst z
          obtain ⟨o2, e2, no2⟩ := h.own a ha
          rw [e] at e2
          exact no2 _ (Option.some.inj e2).symm
def atOwnB (o : Option Sl) (k : Bool → List T → Prop) : Prop := match o with
  | some (.is (.lst ts)) => k true ts
  | some (.is (.tup ts)) => k false ts
  | _ => False
theorem atOwnB_lst {ts : List T} {k : Bool → List T → Prop} : atOwnB (some (.is (.lst ts))) k = k true ts := propext Iff.rfl
theorem atOwnB_tup {ts : List T} {k : Bool → List T → Prop} : atOwnB (some (.is (.tup ts))) k = k false ts := propext Iff.rfl
theorem atOwnB_some {o : Option Sl} {k : Bool → List T → Prop} (h : atOwnB o k) : ∃ b ts, o = some (.is (mkT b ts)) ∧ k b ts := by
  unfold atOwnB at h
  split at h
  · exact ⟨true, _, rfl, h⟩
  · exact ⟨false, _, rfl, h⟩
  · exact h.elim
/-- the list at this index -/
def atL (ts : List T) (d : PyData) (k : Nat → List T → Prop) : Prop := match d with
  | .int i => ∃ j us, ixN ts.length i = some j ∧ ts[j]? = some (.lst us) ∧ k j us
  | _ => False
theorem atL_int {ts : List T} {i : Int} {k : Nat → List T → Prop} : atL ts (.int i) k = ∃ j us, ixN ts.length i = some j ∧ ts[j]? = some (.lst us) ∧ k j us := propext Iff.rfl
theorem mkT_t {ts : List T} : mkT true ts = .lst ts := rfl
theorem mkT_f {ts : List T} : mkT false ts = .tup ts := rfl
theorem rIx_own {K : PySem.W.Frag} {b : Bool} {a0 : Addr} {vs0 : List V} {i : Int} {j : Nat} {v : V} {Q : VK} (hH : H a0 = some (mkO b vs0)) (hi : ixN vs0.length i = some j) (hv : vs0[j]? = some v) (q : Q v H) : rIx K (.ref a0) (.int i) H Q := by
  have hat : atI vs0 i = some v := by
    unfold atI
    rw [hi]
    exact hv
  cases b with
  | true => exact .inl ⟨_, _, _, v, rfl, rfl, SqL.of hH, hat, q⟩
  | false => exact .inr (.inl ⟨_, _, _, v, rfl, rfl, SqT.of hH, hat, q⟩)
/-- x[k1].append(e) -/
def wApp2 (i : Nat) (wk : WE) (wt : WT) : WS := fun D ε N => atOwnB ε[i]? fun b ts => wk ε N fun d N1 => atL ts d fun j us => wt ε N1 fun t N2 => us.length ≤ 100000 ∧ D.nx (ε.set i (.is (mkT b (ts.set j (.lst (us ++ [t])))))) N2
theorem sim_app2 {K : PySem.W.Frag} {i : Nat} {tk : TE} {wk : WE} (hk : SimE tk wk) (h : SimT te wt) : SimS (tDrop (tBM K "list" rAppend (tOp (rIx K) (tVar i) tk) (tCons te tNil))) (wApp2 i wk wt) := fun {c bs F σ H ε N DW D} r w m => by
  obtain ⟨b, ts, hl, w⟩ := atOwnB_some w
  obtain ⟨y, A, F1, F2, q1, q2, _, _⟩ := r.env.at hl
  have hy : ∃ a0, y = some (.ref a0) := by
    cases b
    · cases q2 with | is q2 => cases q2 with | tup e h => exact ⟨_, rfl⟩
    · cases q2 with | is q2 => cases q2 with | lst e h => exact ⟨_, rfl⟩
  obtain ⟨a0, rfl⟩ := hy
  refine ⟨.ref a0, q1, hk r w fun u d N1 H1 w1 o1 hd => ?_⟩
  cases d <;> first | exact False.elim w1 | skip
  rename_i ii
  obtain ⟨j, us, hj, hu, w1⟩ := w1
  cases hd
  have r1 := r.out o1
  obtain ⟨a0', vs0, a, vs, A0, g0, gH, g0b, gl, gk, g2, g3, g4, g5, g6, g7, g8, _⟩ := r1.mutate2 hl hu
  have e0 : a0' = a0 := by
    have := g0.symm.trans q1
    cases this
    rfl
  subst e0
  refine rIx_own gH (by rw [gl]; exact hj) gk ⟨.inl ⟨rfl, vs, SqL.of g2⟩, ?_⟩
  refine h r1 w1 fun v t B N2 H2 hR o n => ?_
  have r2 := r1.hide o n.new n.rep.own
  obtain ⟨b0, vs1, a2, vs2, A1, k0, kH, k0b, kl, kk, k2, k3, k4, k5, k6, k7, k8, k9⟩ := r2.mutate2 hl hu
  have e1 : b0 = a0' := by
    have := k0.symm.trans q1
    cases this
    rfl
  subst e1
  have e2 : vs1 = vs0 := by
    have := kH.symm.trans (out_get o g0b gH)
    cases b <;> (cases this; rfl)
  subst e2
  have e3 : a2 = a := by
    have := kk.symm.trans gk
    cases this
    rfl
  subst e3
  have dis : ∀ x ∈ A1, x ∉ B := fun x hx z => r1.live x (r1.sub x (k8 x hx)) (n.new x z)
  obtain ⟨F', r3⟩ := k9 (k3.append (RepL.one n.rep)) (nodup_app k4 n.nd dis) (fun z => (List.mem_append.mp z).elim k5 fun h => r1.live a2 (r1.sub a2 k7) (n.new a2 h)) (fun x hx => (List.mem_append.mp hx).elim .inl fun h => .inr (nw_fact r1 (n.new x h) h))
  exact ⟨a2, vs2, v, rfl, rfl, k2, by rw [k3.len]; exact Nat.lt_of_le_of_lt hR.1 (by decide), m.nx r3 hR.2⟩
theorem wApp2_eq {i : Nat} {wk : WE} {wt : WT} {D : EW} : wApp2 i wk wt D ε N = atOwnB ε[i]? fun b ts => wk ε N fun d N1 => atL ts d fun j us => wt ε N1 fun t N2 => us.length ≤ 100000 ∧ D.nx (ε.set i (.is (mkT b (ts.set j (.lst (us ++ [t])))))) N2 := propext Iff.rfl
/-- x[k1][k] = e -/
def wSet2 (i : Nat) (wk wl : WE) (wt : WT) : WS := fun D ε N => atOwnB ε[i]? fun b ts => wt ε N fun t N1 => wk ε N1 fun d N2 => atL ts d fun j us => wl ε N2 fun f N3 => dInt f fun k => ∃ l, ixN us.length k = some l ∧ D.nx (ε.set i (.is (mkT b (ts.set j (.lst (us.set l t)))))) N3
theorem wSet2_eq {i : Nat} {wk wl : WE} {wt : WT} {D : EW} : wSet2 i wk wl wt D ε N = atOwnB ε[i]? fun b ts => wt ε N fun t N1 => wk ε N1 fun d N2 => atL ts d fun j us => wl ε N2 fun f N3 => dInt f fun k => ∃ l, ixN us.length k = some l ∧ D.nx (ε.set i (.is (mkT b (ts.set j (.lst (us.set l t)))))) N3 := propext Iff.rfl
theorem sim_set2 {K : PySem.W.Frag} {i : Nat} {tk tl : TE} {wk wl : WE} (hk : SimE tk wk) (hl2 : SimE tl wl) (h : SimT te wt) : SimS (tAsg te (gSub (tOp (rIx K) (tVar i) tk) tl rSetL)) (wSet2 i wk wl wt) := fun {c bs F σ H ε N DW D} r w m => by
  obtain ⟨b, ts, hl, w⟩ := atOwnB_some w
  refine h r w fun v t B N1 H1 w1 o1 n => ?_
  have r1 := r.hide o1 n.new n.rep.own
  obtain ⟨y, A, F1, F2, q1, q2, _, _⟩ := r1.env.at hl
  have hy : ∃ a0, y = some (.ref a0) := by
    cases b
    · cases q2 with | is q2 => cases q2 with | tup e h => exact ⟨_, rfl⟩
    · cases q2 with | is q2 => cases q2 with | lst e h => exact ⟨_, rfl⟩
  obtain ⟨a0, rfl⟩ := hy
  refine ⟨.ref a0, q1, hk r1 w1 fun u d N2 H2 w2 o2 hd => ?_⟩
  cases d <;> first | exact False.elim w2 | skip
  rename_i ii
  obtain ⟨j, us, hj, hu, w2⟩ := w2
  cases hd
  have r2 := r1.out o2
  obtain ⟨a0', vs0, a, vs, A0, g0, gH, g0b, gl, gk, g2, g3, g4, g5, g6, g7, g8, _⟩ := r2.mutate2 hl hu
  have e0 : a0' = a0 := by
    have := g0.symm.trans q1
    cases this
    rfl
  subst e0
  refine rIx_own gH (by rw [gl]; exact hj) gk ?_
  refine hl2 r2 w2 fun u2 f N3 H3 w3 o3 hf => ?_
  cases f <;> first | exact False.elim w3 | skip
  rename_i k
  obtain ⟨l, hll, w3⟩ := w3
  cases hf
  have r3 := r2.out o3
  obtain ⟨b0, vs1, a2, vs2, A1, k0, kH, k0b, kl, kk, k2, k3, k4, k5, k6, k7, k8, k9⟩ := r3.mutate2 hl hu
  have e1 : b0 = a0' := by
    have := k0.symm.trans q1
    cases this
    rfl
  subst e1
  have e2 : vs1 = vs0 := by
    have := kH.symm.trans (out_get o3 g0b gH)
    cases b <;> (cases this; rfl)
  subst e2
  have e3 : a2 = a := by
    have := kk.symm.trans gk
    cases this
    rfl
  subst e3
  have hjl : l < us.length := (ixN_seq hll).2.1
  obtain ⟨v0, C1, Cv, C2, p1, p2, p3, p4, p5⟩ := k3.split (List.getElem?_eq_getElem hjl)
  have o23 := o2.trans o3
  have nv : Rep (B ++ bs) H3 v t B := Rep.chg r1.nt (out_keep o23 r1.bin) (fun x hx y e => out_get o23 (fun z => r.live x (r.bin x z) (n.new x hx)) e) n.rep
  have dis : ∀ x ∈ A1, x ∉ B := fun x hx z => r.live x (r.sub x (k8 x hx)) (n.new x z)
  subst p3
  obtain ⟨F', r4⟩ := k9 (p5 nv) (nodup_mid k4 n.nd fun x hx => ⟨fun z => dis x (List.mem_append_left _ z) hx, fun z => dis x (List.mem_append_right _ (List.mem_append_right _ z)) hx⟩) (fun z => by
    rcases List.mem_append.mp z with h | h
    · exact k5 (List.mem_append_left _ h)
    · rcases List.mem_append.mp h with h | h
      · exact r.live a2 (r.sub a2 k7) (n.new a2 h)
      · exact k5 (List.mem_append_right _ (List.mem_append_right _ h))) (fun x hx => by
    rcases List.mem_append.mp hx with h | h
    · exact .inl (List.mem_append_left _ h)
    · rcases List.mem_append.mp h with h | h
      · exact .inr (nw_fact r (n.new x h) h)
      · exact .inl (List.mem_append_right _ (List.mem_append_right _ h)))
  exact ⟨a2, vs2, k, l, rfl, rfl, k2, by rw [k3.len]; exact hll, m.nx r4 w3⟩
/-- x[k], y[l] = (d, e), both shared -/
def wSetP (i : Nat) (wk wa : WE) (j : Nat) (wl wb : WE) : WS := fun D ε N => wa ε N fun d N1 => wb ε N1 fun e N2 => atOwn ε[i]? fun ts => wk ε N2 fun f N3 => dInt f fun k => ∃ p, ixN ts.length k = some p ∧ atOwn (ε.set i (.is (.lst (ts.set p (.sh d)))))[j]? fun us => wl (ε.set i (.is (.lst (ts.set p (.sh d))))) N3 fun g N4 => dInt g fun l => ∃ q, ixN us.length l = some q ∧ D.nx ((ε.set i (.is (.lst (ts.set p (.sh d))))).set j (.is (.lst (us.set q (.sh e))))) N4
theorem wSetP_eq {i : Nat} {wk wa : WE} {j : Nat} {wl wb : WE} {D : EW} : wSetP i wk wa j wl wb D ε N = wa ε N fun d N1 => wb ε N1 fun e N2 => atOwn ε[i]? fun ts => wk ε N2 fun f N3 => dInt f fun k => ∃ p, ixN ts.length k = some p ∧ atOwn (ε.set i (.is (.lst (ts.set p (.sh d)))))[j]? fun us => wl (ε.set i (.is (.lst (ts.set p (.sh d))))) N3 fun g N4 => dInt g fun l => ∃ q, ixN us.length l = some q ∧ D.nx ((ε.set i (.is (.lst (ts.set p (.sh d))))).set j (.is (.lst (us.set q (.sh e))))) N4 := propext Iff.rfl
theorem atOwn_some {o : Option Sl} {k : List T → Prop} (h : atOwn o k) : ∃ ts, o = some (.is (.lst ts)) ∧ k ts := by
  unfold atOwn at h
  split at h
  · exact ⟨_, rfl, h⟩
  · exact h.elim
theorem Rel.putsh {i : Nat} {ts : List T} {p : Nat} {v : V} {d : PyData} (r : Rel c bs F σ H ε N) (hl : ε[i]? = some (.is (.lst ts))) (hp : p < ts.length) (hd : Dq (hid bs H) v d) : ∃ a vs F', σ[i]? = some (some (.ref a)) ∧ a ∈ bs ∧ H a = some (.lst vs) ∧ vs.length = ts.length ∧ Rel c bs F' σ (upd H a (.lst (vs.set p v))) (ε.set i (.is (.lst (ts.set p (.sh d))))) N := by
  obtain ⟨a, vs, A0, g1, g2, g3, g4, g5, g6, g7, g8, g9, g10, g11⟩ := r.mutate hl
  obtain ⟨v0, A1, Av, A2, p1, p2, p3, p4, p5⟩ := g3.split (List.getElem?_eq_getElem hp)
  subst p3
  obtain ⟨F', r3⟩ := g11 (p5 (.sh hd)) (nodup_mid g4 List.nodup_nil fun x hx => nomatch hx) (fun z => by
    rcases List.mem_append.mp z with h | h
    · exact g5 (List.mem_append_left _ h)
    · exact g5 (List.mem_append_right _ (List.mem_append_right _ h))) (fun x hx => by
    rcases List.mem_append.mp hx with h | h
    · exact .inl (List.mem_append_left _ h)
    · exact .inl (List.mem_append_right _ (List.mem_append_right _ h)))
  exact ⟨a, vs, F', g1, g6, g2, g3.len, r3⟩
theorem sim_setP {K : PySem.W.Frag} {i j : Nat} {tk tl : TE} {wk wl : WE} (hk : SimE tk wk) (ha : SimE ta wa) (hl : SimE tl wl) (hb : SimE tb wb) : SimS (tAsg (tTup (tCons ta (tCons tb tNil))) (gTup K 2 (gCons (gSub (tVar i) tk rSetL) (gCons (gSub (tVar j) tl rSetL) gNil)))) (wSetP i wk wa j wl wb) := fun {c bs F σ H ε N DW D} r w m => by
  refine ha r w fun v1 d N1 H1 w o1 hd => ?_
  have r1 := r.out o1
  refine hb r1 w fun v2 e N2 H2 w o2 he => ?_
  have r2 := r1.out o2
  have hd2 := out_dq o2 r1.bin hd
  refine ⟨by show 2 ≤ sizeLine; decide, fun p np => ?_⟩
  have ex : Same H2 (upd H2 p (.tup [v1, v2])) := Ex.new np
  have r3 := r2.ext ex
  have hd3 := hd2.mono (same_hid (bs := bs) ex)
  have he3 := he.mono (same_hid (bs := bs) ex)
  refine ⟨p, [v1, v2], rfl, SqT.of upd_same, rfl, v1, [v2], rfl, ?_⟩
  obtain ⟨ts, hl1, w⟩ := atOwn_some w
  obtain ⟨a, vs, A0, g1, g2, _⟩ := r3.mutate hl1
  refine ⟨.ref a, g1, hk r3 w fun u f N3 H3 w o3 hf => ?_⟩
  cases f <;> first | exact False.elim w | skip
  rename_i k
  obtain ⟨q, hq, w⟩ := w
  cases hf
  have r4 := r3.out o3
  obtain ⟨a', vs', F', h1, h2, h3, h4, r5⟩ := r4.putsh hl1 (ixN_seq hq).2.1 (out_dq o3 r3.bin hd3)
  have ea : a' = a := by
    have := h1.symm.trans g1
    cases this
    rfl
  subst ea
  refine ⟨a', vs', k, q, rfl, rfl, h3, by rw [h4]; exact hq, ?_⟩
  refine ⟨v2, [], rfl, ?_⟩
  have he4 : Dq (hid bs (upd H3 a' (.lst (vs'.set q v1)))) v2 e := (out_dq o3 r3.bin he3).mono (keep_put (bs := bs) h2)
  obtain ⟨us, hl2, w⟩ := atOwn_some w
  obtain ⟨b, ws, B0, k1, k2, _⟩ := r5.mutate hl2
  refine ⟨.ref b, k1, hl r5 w fun u2 g N4 H4 w o4 hg => ?_⟩
  cases g <;> first | exact False.elim w | skip
  rename_i l
  obtain ⟨q2, hq2, w⟩ := w
  cases hg
  have r6 := r5.out o4
  obtain ⟨b', ws', F2', j1, j2, j3, j4, r7⟩ := r6.putsh hl2 (ixN_seq hq2).2.1 (out_dq o4 r5.bin he4)
  have eb : b' = b := by
    have := j1.symm.trans k1
    cases this
    rfl
  subst eb
  exact ⟨b', ws', l, q2, rfl, rfl, j3, by rw [j4]; exact hq2, rfl, m.nx r7 w⟩
/-- x += e, two ints -/
def wAug (i : Nat) (we : WE) : WS := fun D ε N => atSh ε[i]? fun d => dInt d fun x => we ε N fun e N1 => dInt e fun y => D.nx (ε.set i (.is (.sh (.int (x + y))))) N1
theorem wAug_eq {i : Nat} {we : WE} {D : EW} : wAug i we D ε N = atSh ε[i]? fun d => dInt d fun x => we ε N fun e N1 => dInt e fun y => D.nx (ε.set i (.is (.sh (.int (x + y))))) N1 := propext Iff.rfl
theorem atSh_some {o : Option Sl} {k : PyData → Prop} (h : atSh o k) : ∃ d, o = some (.is (.sh d)) ∧ k d := by
  unfold atSh at h
  split at h
  · exact ⟨_, rfl, h⟩
  · exact h.elim
theorem sim_aug {i : Nat} {we : WE} (h : SimE te we) : SimS (tAug i te (ipI fun i j => i + j)) (wAug i we) := fun {c bs F σ H ε N DW D} r w m => by
  obtain ⟨d, hl, w⟩ := atSh_some w
  obtain ⟨x, A, F1, F2, q1, q2, _, _⟩ := r.env.at hl
  cases q2 with
  | is q2 => cases q2 with
    | sh hd =>
      rename_i v
      cases d <;> first | exact False.elim w | skip
      rename_i a
      cases hd
      refine ⟨_, q1, h r w fun u e N1 H1 w1 o1 he => ?_⟩
      cases e <;> first | exact False.elim w1 | skip
      rename_i b
      cases he
      refine ⟨a, b, rfl, rfl, ?_⟩
      obtain ⟨F', r'⟩ := Rel.set (i := i) r o1 (Nw.sh (d := .int (a + b)) (v := .int (a + b)) (.int _))
      exact m.nx r' w1
theorem atIs_some {o : Option Sl} {k : T → Prop} (h : atIs o k) : ∃ t, o = some (.is t) ∧ k t := by
  unfold atIs at h
  split at h
  · exact ⟨_, rfl, h⟩
  · exact h.elim
/-- return (x, y), both its own -/
def wRetV2 (i j : Nat) : WS := fun D ε N => atIs ε[i]? fun t => atIs ε[j]? fun u => D.rt (.tup [t, u]) N
theorem wRetV2_eq {i j : Nat} {D : EW} : wRetV2 i j D ε N = atIs ε[i]? fun t => atIs ε[j]? fun u => D.rt (.tup [t, u]) N := propext Iff.rfl
theorem sim_retV2 {i j : Nat} (hij : i ≠ j) : SimS (tRet (tTup (tCons (tVar i) (tCons (tVar j) tNil)))) (wRetV2 i j) := fun {c bs F σ H ε N DW D} r w m => by
  obtain ⟨t, e1, w⟩ := atIs_some w
  obtain ⟨u, e2, w⟩ := atIs_some w
  obtain ⟨y, A, F1, F2, hx, hr, rfl, q4⟩ := r.env.at e1
  cases hr with
  | is hr =>
    rename_i v
    have env2 := q4 (cs := bs) (H' := H) (y := some v) (m := .no) (B := []) r.nt (Same.refl _) (fun _ _ _ e => e) .no
    have e2' : (ε.set i .no)[j]? = some (.is u) := by rw [List.getElem?_set_ne hij]; exact e2
    obtain ⟨y2, B, G1, G2, hx2, hr2, eF, _⟩ := env2.at e2'
    cases hr2 with
    | is hr2 =>
      rename_i v2
      rw [List.getElem?_set_ne hij] at hx2
      refine ⟨v, hx, v2, hx2, by show 2 ≤ sizeLine; decide, fun p np => ?_⟩
      have ex : Same H (upd H p (.tup [v, v2])) := Ex.new np
      have hA : ∀ a ∈ A, a ∈ F1 ++ (A ++ F2) := fun a ha => List.mem_append_right _ (List.mem_append_left _ ha)
      have hB0 : ∀ a ∈ B, a ∈ F1 ++ F2 := fun a ha => by
        have : a ∈ F1 ++ ([] ++ F2) := by rw [eF]; exact List.mem_append_right _ (List.mem_append_left _ ha)
        exact this
      have hB : ∀ a ∈ B, a ∈ F1 ++ (A ++ F2) := fun a ha => (List.mem_append.mp (hB0 a ha)).elim (List.mem_append_left _) fun h => List.mem_append_right _ (List.mem_append_right _ h)
      obtain ⟨n1, n2, n3⟩ := List.nodup_append.mp r.nd
      obtain ⟨m1, m2, m3⟩ := List.nodup_append.mp n2
      have ndA : A.Nodup := m1
      have ndB : B.Nodup := by
        have h1 : (F1 ++ ([] ++ F2)).Nodup := List.nodup_append.mpr ⟨n1, m2, fun a ha b hb => n3 a ha b (List.mem_append_right _ hb)⟩
        rw [eF] at h1
        exact (List.nodup_append.mp (List.nodup_append.mp h1).2.1).1
      have dis : ∀ a ∈ A, a ∉ B := fun a ha hb => by
        rcases List.mem_append.mp (hB0 a hb) with z | z
        · exact n3 a z a (List.mem_append_left _ ha) rfl
        · exact m3 a ha a z rfl
      have hall : ∀ a ∈ A ++ (B ++ []), a ∈ F1 ++ (A ++ F2) := fun a ha => (List.mem_append.mp ha).elim (hA a) fun h => hB a (by rw [List.append_nil] at h; exact h)
      have kp : Same (hid bs H) (hid ((A ++ (B ++ [])) ++ c.bs0) (upd H p (.tup [v, v2]))) := (hid_perm (fun a ha => (List.mem_append.mp ha).elim (fun h => r.sub a (hall a h)) (r.up a))).trans (same_hid ex)
      refine m.rt ⟨.tup upd_same (.cons (Rep.chg r.nt kp (fun a _ o e => ex a o e) hr) (.cons (Rep.chg r.nt kp (fun a _ o e => ex a o e) hr2) .nil)), ?_, fun a ha => r.off a (hall a ha), fun a ha => r.nb a (hall a ha), fun a ha => (r.box a ha).mono ex, r.pin.trans ex⟩ w
      rw [List.append_nil]
      exact nodup_app ndA ndB dis
end
/-! ### sum of a list or a tuple of ints -/
section
variable {prog : Program} {w : World} {A : Around} {E : Value → Shared → Prop} {s : Shared} {l : Addr} {its : List Value} {ns : List Int} {Q : Value → Shared → Prop}
theorem sum_tup (hh : A.handled = none) (hl : s.heap.IsTuple l its.toArray) (hi : IntsAre its ns)
    (h : ∀ h' tk t', (∀ b o, s.heap.get? b = some o → h'.get? b = some o) → Q (.int ns.sum t') { s with heap := h', toks := tk }) : wpAny (model prog w) A (call (.builtin "sum") [.ref l]) Q E s := by
  obtain ⟨xs, e⟩ := hi.allInts.items
  have hn : numsOf (intItems xs).toList = ns := by rw [← e]; exact hi.numsOf
  rw [nums_intItems] at hn
  rw [e] at hl
  have hlt : l < s.heap.objs.size := by obtain ⟨_, e, _⟩ := hl; exact Heap.lt_size e
  refine call_sum_walkG (wpAny_pyIter_tuple hl ?_)
  refine ⟨_, _, _, _, _, _, numAt xs, rfl, Walks.tuple (A := A.in1) hh _ l (Nat.ne_of_lt hlt) (intItems xs), ⟨⟨_, Heap.get?_push_size _ rfl, rfl, rfl⟩, hl.push _⟩, (fun b hb => ?_), (fun _ _ => intItems_at), fun h' tk t' hk => ?_⟩
  · show b < (s.heap.push _).objs.size
    rw [Heap.size_push]
    rcases List.mem_cons.mp hb with rfl | hb
    · exact Nat.lt_succ_self _
    · rcases List.mem_cons.mp hb with rfl | hb
      · exact Nat.lt_succ_of_lt hlt
      · cases hb
  · have := h h' tk t' (fun b o e => hk b o (fun hb => absurd (Heap.lt_size e) ((List.mem_singleton.mp hb) ▸ Nat.lt_irrefl _)) (Heap.get?_push_of_some _ e))
    have es : preSum (numAt xs) (intItems xs).size = ns.sum := by
      rw [preSum_eq, List.take_of_length_le (by simp [intItems]), hn]
    rw [es]
    exact this
end
def rSumS (K : PySem.W.Frag) : List V → Hp → VK → Prop := fun vs H Q => ∃ (a : Addr) (ns : List Int), vs = [V.ref a] ∧ (SqL K H a (ns.map V.int) ∨ SqT K H a (ns.map V.int)) ∧ Q (.int ns.sum) H
theorem cr_sumS {X : Cx} (hc : X.calm = true) : CallR X (.builtin "sum") (rSumS X.K) := by
  intro pins s σ H vs us Q I r h
  obtain ⟨a, ns, rfl, hs, q⟩ := h
  rcases hs with hs | hs
  · exact cr_sum hc pins s σ H _ us Q I r ⟨a, ns, rfl, hs, q⟩
  · obtain ⟨its, rv, hl, _⟩ := I.tuple hs
    rw [Vals.ref1 r]
    exact sum_tup (I.ok.hd hc) hl rv.ints fun h' tk t' hk => ⟨.int _, H, I.kept hk, ⟨_, rfl⟩, q⟩
theorem sumSK {X : Cx} (K : PySem.W.Frag) (hK : X.K = K := by rfl) (hc : X.calm = true := by rfl) : CallR X (.builtin "sum") (rSumS K) := by subst hK; exact cr_sumS hc
def oSumS : OC
  | [d], S => match seqOf d with
    | some ds => match intsOf ds with
      | some ns => S (.int ns.sum)
      | none => False
    | none => False
  | _, _ => False
theorem cb_sumS {K : PySem.W.Frag} : CbD (rSumS K) oSumS := fun {hs H xs ds S Q} l hx w q => by
  match ds, w with
  | [d], w =>
    obtain ⟨v, rfl, hv⟩ := dq1 hx
    have w' : (match seqOf d with | some ds => (match intsOf ds with | some ns => S (.int ns.sum) | none => False) | none => False) := w
    split at w'
    · rename_i ds e
      split at w'
      · rename_i ns e2
        obtain ⟨a, ys, rfl, hsq, hy⟩ := hv.seqOf (K := K) e
        have e3 := ints_of hy e2
        subst e3
        exact ⟨a, ns, rfl, hsq hid_same, q _ _ H w' (Same.refl _) (.int _)⟩
      · exact w'.elim
    · exact w'.elim
theorem oSumS_list {ns : List Int} {S : PyData → Prop} : oSumS [.list (ns.map PyData.int)] S = S (.int ns.sum) := by
  show (match intsOf (ns.map PyData.int) with | some ns => S (.int ns.sum) | none => False) = _
  rw [intsOf_map]
theorem oSumS_tup {ns : List Int} {S : PyData → Prop} : oSumS [.tuple (ns.map PyData.int)] S = S (.int ns.sum) := by
  show (match intsOf (ns.map PyData.int) with | some ns => S (.int ns.sum) | none => False) = _
  rw [intsOf_map]
theorem oSumS_seq {kd : Bool} {ns : List Int} {S : PyData → Prop} : oSumS [seqD kd (ns.map PyData.int)] S = S (.int ns.sum) := by
  cases kd
  · exact oSumS_tup
  · exact oSumS_list
end Cg

set_option Elab.async false
set_option linter.all false
set_option maxRecDepth 100000
set_option maxHeartbeats 1000000
namespace Cg
open PySem PySem.Spec PyProof.Rows L2 Evl
section
variable {c : Base} {bs F A : List Addr} {σ : L2.St} {H H' : Hp} {ε : Env} {N N' : Nat} {te ta tb tk : TE} {wt : WT} {we wa wb wk : WE}
theorem Rel.appsh {i : Nat} {ts : List T} {v : V} {d : PyData} (r : Rel c bs F σ H ε N) (hl : ε[i]? = some (.is (.lst ts))) (hd : Dq (hid bs H) v d) : ∃ a vs F', σ[i]? = some (some (.ref a)) ∧ H a = some (.lst vs) ∧ vs.length = ts.length ∧ Rel c bs F' σ (upd H a (.lst (vs ++ [v]))) (ε.set i (.is (.lst (ts ++ [.sh d])))) N := by
  obtain ⟨a, vs, A0, g1, g2, g3, g4, g5, g6, g7, g8, g9, g10, g11⟩ := r.mutate hl
  have h := g3.append (RepL.one (.sh hd))
  rw [List.append_nil] at h
  obtain ⟨F', r3⟩ := g11 h g4 g5 fun x hx => .inl hx
  exact ⟨a, vs, F', g1, g2, g3.len, r3⟩
theorem Rel.popsh {j k : Nat} {us : List T} {d : PyData} (r : Rel c bs F σ H ε N) (hl : ε[j]? = some (.is (.lst us))) (hk : us[k]? = some (.sh d)) : ∃ b ws F' v, σ[j]? = some (some (.ref b)) ∧ b ∈ bs ∧ H b = some (.lst ws) ∧ ws.length = us.length ∧ ws[k]? = some v ∧ Dq (hid bs (upd H b (.lst (ws.eraseIdx k)))) v d ∧ Rel c bs F' σ (upd H b (.lst (ws.eraseIdx k))) (ε.set j (.is (.lst (us.eraseIdx k)))) N := by
  obtain ⟨a2, vs2, A0, g1, g2, g3, g4, g5, g6, g7, g8, g9, g10, g11⟩ := r.mutate hl
  obtain ⟨v0, A1, Av, A2, p1, p2, p3, p4, p5⟩ := g3.split hk
  cases p2 with
  | sh hv =>
    have p3' : A0 = A1 ++ A2 := p3
    subst p3'
    obtain ⟨F', r2⟩ := g11 p4 g4 g5 fun x hx => .inl hx
    exact ⟨a2, vs2, F', v0, g1, g6, g2, g3.len, p1, hv.mono ((Keep.refl _ _).put g6), r2⟩
/-- x.append(y.pop(k)), what is popped being shared -/
def wAppPop (i j : Nat) (wk : WE) : WS := fun D ε N => atOwn ε[i]? fun ts => atOwn ε[j]? fun us => wk ε N fun f N1 => dInt f fun k => (0 ≤ k ∧ k < us.length ∧ k ≤ 1000000 ∧ ts.length ≤ 100000) ∧ ∃ d, us[k.toNat]? = some (.sh d) ∧ D.nx ((ε.set j (.is (.lst (us.eraseIdx k.toNat)))).set i (.is (.lst (ts ++ [.sh d])))) N1
theorem wAppPop_eq {i j : Nat} {D : EW} : wAppPop i j wk D ε N = atOwn ε[i]? fun ts => atOwn ε[j]? fun us => wk ε N fun f N1 => dInt f fun k => (0 ≤ k ∧ k < us.length ∧ k ≤ 1000000 ∧ ts.length ≤ 100000) ∧ ∃ d, us[k.toNat]? = some (.sh d) ∧ D.nx ((ε.set j (.is (.lst (us.eraseIdx k.toNat)))).set i (.is (.lst (ts ++ [.sh d])))) N1 := propext Iff.rfl
theorem sim_appPop {K : PySem.W.Frag} {i j : Nat} (hij : j ≠ i) (hk : SimE tk wk) : SimS (tDrop (tBM K "list" rAppend (tVar i) (tCons (tBM K "list" rPopAt (tVar j) (tCons tk tNil)) tNil))) (wAppPop i j wk) := fun {c bs F σ H ε N DW D} r w m => by
  obtain ⟨ts, hl1, w⟩ := atOwn_some w
  obtain ⟨us, hl2, w⟩ := atOwn_some w
  obtain ⟨a, hs, hab, vs, hH⟩ := slot_own r hl1
  obtain ⟨b, hs2, hbb, ws, hH2⟩ := slot_own r hl2
  refine ⟨.ref a, hs, .inl ⟨rfl, vs, SqL.of hH⟩, .ref b, hs2, .inl ⟨rfl, ws, SqL.of hH2⟩, hk r w fun u d N1 H1 w1 o1 hd => ?_⟩
  cases d <;> first | exact False.elim w1 | skip
  rename_i k
  obtain ⟨⟨k0, k1, k2, k3⟩, f, hf, w2⟩ := w1
  cases hd
  have r1 := r.out o1
  obtain ⟨b', ws', F', v0, g1, g2, g3, g4, g5, g6, r2⟩ := r1.popsh hl2 hf
  have eb : b' = b := by
    have := g1.symm.trans hs2
    cases this
    rfl
  subst eb
  have hl1' : (ε.set j (.is (.lst (us.eraseIdx k.toNat))))[i]? = some (.is (.lst ts)) := by rw [List.getElem?_set_ne hij]; exact hl1
  obtain ⟨a', vs', F2, h1, h2, h3, r3⟩ := r2.appsh hl1' g6
  have ea : a' = a := by
    have := h1.symm.trans hs
    cases this
    rfl
  subst ea
  have ek : k = ((k.toNat : Nat) : Int) := by omega
  refine ⟨b', ws', k, k.toNat, v0, rfl, rfl, g3, by omega, by omega, ?_, g5, ?_⟩
  · rw [ek]
    exact seqIx' (by rw [g4]; omega)
  · exact ⟨a', vs', v0, rfl, rfl, h2, by rw [h3]; exact Nat.lt_of_le_of_lt k3 (by decide), m.nx r3 w2⟩
/-- x.append((e, y.pop(k))) -/
def wAppPopT (i j : Nat) (we wk : WE) : WS := fun D ε N => atOwn ε[i]? fun ts => we ε N fun e N1 => atOwn ε[j]? fun us => wk ε N1 fun f N2 => dInt f fun k => (0 ≤ k ∧ k < us.length ∧ k ≤ 1000000 ∧ ts.length ≤ 100000) ∧ ∃ d, us[k.toNat]? = some (.sh d) ∧ D.nx ((ε.set j (.is (.lst (us.eraseIdx k.toNat)))).set i (.is (.lst (ts ++ [.sh (.tuple [e, d])])))) N2
theorem wAppPopT_eq {i j : Nat} {D : EW} : wAppPopT i j we wk D ε N = atOwn ε[i]? fun ts => we ε N fun e N1 => atOwn ε[j]? fun us => wk ε N1 fun f N2 => dInt f fun k => (0 ≤ k ∧ k < us.length ∧ k ≤ 1000000 ∧ ts.length ≤ 100000) ∧ ∃ d, us[k.toNat]? = some (.sh d) ∧ D.nx ((ε.set j (.is (.lst (us.eraseIdx k.toNat)))).set i (.is (.lst (ts ++ [.sh (.tuple [e, d])])))) N2 := propext Iff.rfl
theorem sim_appPopT {K : PySem.W.Frag} {i j : Nat} (hij : j ≠ i) (he : SimE te we) (hk : SimE tk wk) : SimS (tDrop (tBM K "list" rAppend (tVar i) (tCons (tTup (tCons te (tCons (tBM K "list" rPopAt (tVar j) (tCons tk tNil)) tNil))) tNil))) (wAppPopT i j we wk) := fun {c bs F σ H ε N DW D} r w m => by
  obtain ⟨ts, hl1, w⟩ := atOwn_some w
  obtain ⟨a, hs, hab, vs, hH⟩ := slot_own r hl1
  refine ⟨.ref a, hs, .inl ⟨rfl, vs, SqL.of hH⟩, he r w fun u e N1 H1 w o1 hu => ?_⟩
  have r1 := r.out o1
  obtain ⟨us, hl2, w⟩ := atOwn_some w
  obtain ⟨b, hs2, hbb, ws, hH2⟩ := slot_own r1 hl2
  refine ⟨.ref b, hs2, .inl ⟨rfl, ws, SqL.of hH2⟩, hk r1 w fun u2 d N2 H2 w1 o2 hd => ?_⟩
  cases d <;> first | exact False.elim w1 | skip
  rename_i k
  obtain ⟨⟨k0, k1, k2, k3⟩, f, hf, w2⟩ := w1
  cases hd
  have r2 := r1.out o2
  obtain ⟨b', ws', F', v0, g1, g2, g3, g4, g5, g6, r3⟩ := r2.popsh hl2 hf
  have eb : b' = b := by
    have := g1.symm.trans hs2
    cases this
    rfl
  subst eb
  have hu3 : Dq (hid bs (upd H2 b' (.lst (ws'.eraseIdx k.toNat)))) u e := (out_dq o2 r1.bin hu).mono (keep_put (bs := bs) g2)
  have ek : k = ((k.toNat : Nat) : Int) := by omega
  refine ⟨b', ws', k, k.toNat, v0, rfl, rfl, g3, by omega, by omega, ?_, g5, ?_⟩
  · rw [ek]
    exact seqIx' (by rw [g4]; omega)
  · refine ⟨by show 2 ≤ sizeLine; decide, fun p np => ?_⟩
    have ex : Same (upd H2 b' (.lst (ws'.eraseIdx k.toNat))) (upd (upd H2 b' (.lst (ws'.eraseIdx k.toNat))) p (.tup [u, v0])) := Ex.new np
    have r4 := r3.ext ex
    have pb : p ∉ bs := fun z => r3.live p z np
    have ht : Dq (hid bs (upd (upd H2 b' (.lst (ws'.eraseIdx k.toNat))) p (.tup [u, v0]))) (.ref p) (.tuple [e, f]) := .tup (by rw [hid_out pb]; exact upd_same) (.cons (hu3.mono (same_hid ex)) (.cons (g6.mono (same_hid ex)) .nil))
    have hl1' : (ε.set j (.is (.lst (us.eraseIdx k.toNat))))[i]? = some (.is (.lst ts)) := by rw [List.getElem?_set_ne hij]; exact hl1
    obtain ⟨a', vs', F2, h1, h2, h3, r5⟩ := r4.appsh hl1' ht
    have ea : a' = a := by
      have := h1.symm.trans hs
      cases this
      rfl
    subst ea
    exact ⟨a', vs', .ref p, rfl, rfl, h2, by rw [h3]; exact Nat.lt_of_le_of_lt k3 (by decide), m.nx r5 w2⟩
/-- x[k].reverse() -/
def wRev2 (i : Nat) (wk : WE) : WS := fun D ε N => atOwnB ε[i]? fun b ts => wk ε N fun d N1 => atL ts d fun j us => D.nx (ε.set i (.is (mkT b (ts.set j (.lst us.reverse))))) N1
theorem wRev2_eq {i : Nat} {D : EW} : wRev2 i wk D ε N = atOwnB ε[i]? fun b ts => wk ε N fun d N1 => atL ts d fun j us => D.nx (ε.set i (.is (mkT b (ts.set j (.lst us.reverse))))) N1 := propext Iff.rfl
theorem sim_rev2 {K : PySem.W.Frag} {i : Nat} (hk : SimE tk wk) : SimS (tDrop (tBM0 K "list" rReverse (tOp (rIx K) (tVar i) tk))) (wRev2 i wk) := fun {c bs F σ H ε N DW D} r w m => by
  obtain ⟨b, ts, hl, w⟩ := atOwnB_some w
  obtain ⟨y, A, F1, F2, q1, q2, _, _⟩ := r.env.at hl
  have hy : ∃ a0, y = some (.ref a0) := by
    cases b
    · cases q2 with | is q2 => cases q2 with | tup e h => exact ⟨_, rfl⟩
    · cases q2 with | is q2 => cases q2 with | lst e h => exact ⟨_, rfl⟩
  obtain ⟨a0, rfl⟩ := hy
  refine ⟨.ref a0, q1, hk r w fun u d N1 H1 w1 o1 hd => ?_⟩
  cases d <;> first | exact False.elim w1 | skip
  rename_i ii
  obtain ⟨j, us, hj, hu, w1⟩ := w1
  cases hd
  have r1 := r.out o1
  obtain ⟨a0', vs0, a, vs, A0, g0, gH, g0b, gl, gk, g2, g3, g4, g5, g6, g7, g8, g9⟩ := r1.mutate2 hl hu
  have e0 : a0' = a0 := by
    have := g0.symm.trans q1
    cases this
    rfl
  subst e0
  refine rIx_own gH (by rw [gl]; exact hj) gk ⟨.inl ⟨rfl, vs, SqL.of g2⟩, ?_⟩
  obtain ⟨A', p1, p2, p3⟩ := g3.rev g4
  obtain ⟨F', r2⟩ := g9 p1 p2 (fun z => g5 (p3 a z)) fun x hx => .inl (p3 x hx)
  exact ⟨a, vs, rfl, rfl, g2, m.nx r2 w1⟩
end
/-! ### xs.index(x), texts -/
theorem indexK {X : Cx} (K : PySem.W.Frag) (hK : X.K = K := by rfl) : MtR X "list.index" (rIndex K) := by subst hK; exact mt_index
def oIndexS : PyData → List PyData → (PyData → Prop) → Prop := fun d es S => match d, es with
  | .list ds, [.str x] => ∃ ss : List Str, ds = ss.map PyData.str ∧ ∃ j, ss[j]? = some x ∧ (∀ m, m < j → ss[m]? ≠ some x) ∧ S (.int (j : Nat))
  | _, _ => False
theorem oIndexS_is {ds : List PyData} {x : Str} {S : PyData → Prop} : oIndexS (.list ds) [.str x] S = ∃ ss : List Str, ds = ss.map PyData.str ∧ ∃ j, ss[j]? = some x ∧ (∀ m, m < j → ss[m]? ≠ some x) ∧ S (.int (j : Nat)) := propext Iff.rfl
theorem strs_inv {H : Hp} : ∀ {ss : List Str} {vs : List V}, DqAll H vs (ss.map PyData.str) → vs = ss.map V.str
  | [], _, .nil => rfl
  | s :: ss, _, .cons h t => by
    cases h
    rw [strs_inv t]
    rfl
theorem bm_index {K : PySem.W.Frag} : BmD (rIndex K) oIndexS := fun {hs H x xs d ds S Q} l hx hxs w q => by
  unfold oIndexS at w
  split at w
  · rename_i es y
    obtain ⟨ss, rfl, j, hj, hm, hS⟩ := w
    obtain ⟨v, rfl, hv⟩ := dq1 hxs
    cases hv
    obtain ⟨a, ys, rfl, e1, h1⟩ := hx.list_inv
    have e2 := strs_inv h1
    subst e2
    refine ⟨a, ss.map V.str, .str y, j, .str y, rfl, rfl, SqL.of (hid_some e1).2, rfl, ?_, by rw [List.getElem?_map, hj]; rfl, ?_, fun m z' hmj hz => ?_, q _ _ H hS (Same.refl _) (.int _)⟩
    · rw [List.all_map, List.all_eq_true]
      intro z _
      rfl
    · unfold eqV
      simp
    · rw [List.getElem?_map] at hz
      cases hs : ss[m]? with
      | none => rw [hs] at hz; cases hz
      | some u =>
        rw [hs] at hz
        have eu : V.str u = z' := Option.some.inj hz
        subst eu
        have hne : u ≠ y := fun e => hm m hmj (by rw [hs, e])
        unfold eqV
        simp [hne]
  · exact w.elim
theorem wBmL_eq {o : PyData → List PyData → (PyData → Prop) → Prop} {wa : WE} {was : WA} {ε : Env} {N : Nat} {R : PyData → Nat → Prop} : wBmL o wa was ε N R = wa ε N fun d N1 => isList d = true ∧ was ε N1 fun ds N2 => o d ds fun f => R f N2 := propext Iff.rfl
/-! ### x is True, x is not False -/
section
variable {M : Model} {A : Around} {Q : Value → Shared → Prop} {E : Value → Shared → Prop} {s : Shared}
theorem is_bool {a b : Bool} (h : Q (.bool (a == b)) s) : wpAny M A (compareOp .Is (.bool a) (.bool b)) Q E s := by cases a <;> cases b <;> exact wpAny_pure h
theorem isnot_bool {a b : Bool} (h : Q (.bool (!(a == b))) s) : wpAny M A (compareOp .IsNot (.bool a) (.bool b)) Q E s := by cases a <;> cases b <;> exact wpAny_pure h
end
def rIsB (neg : Bool) : R2 := fun x y H Q => ∃ a b, x = .bl a ∧ y = .bl b ∧ Q (.bl (if neg then !(a == b) else (a == b))) H
theorem op_isB {X : Cx} : OpR X (compareOp .Is) (rIsB false) := by
  intro pins s σ H x y v u Q I rx ry h
  obtain ⟨a, b, rfl, rfl, q⟩ := h
  cases rx
  cases ry
  exact is_bool (fin_bl I q rfl)
theorem op_notB {X : Cx} : OpR X (compareOp .IsNot) (rIsB true) := by
  intro pins s σ H x y v u Q I rx ry h
  obtain ⟨a, b, rfl, rfl, q⟩ := h
  cases rx
  cases ry
  exact isnot_bool (fin_bl I q rfl)
def oIsB (neg : Bool) : O2 := fun d e S => match d, e with
  | .bool a, .bool b => S (.bool (if neg then !(a == b) else (a == b)))
  | _, _ => False
theorem od_isB {neg : Bool} : OpD (rIsB neg) (oIsB neg) := fun {hs H x y d e S Q} l hx hy w q => by
  unfold oIsB at w
  split at w
  · cases hx
    cases hy
    exact ⟨_, _, rfl, rfl, q _ _ H w (Same.refl _) (.bl _)⟩
  · exact w.elim
theorem oIsB_is {neg a b : Bool} {S : PyData → Prop} : oIsB neg (.bool a) (.bool b) S = S (.bool (if neg then !(a == b) else (a == b))) := propext Iff.rfl
/-! ### four at once -/
theorem four_of {vs : List V} (h : vs.length = 4) : ∃ v u y z, vs = [v, u, y, z] := by
  match vs, h with
  | [v, u, y, z], _ => exact ⟨v, u, y, z, rfl⟩
theorem sim_parG4 {K : PySem.W.Frag} {i j l k : Nat} {tas : TA} {wts : WTs} (h : SimTs tas wts) : SimS (tAsg (tTup tas) (gTup K 4 (gCons (gName i) (gCons (gName j) (gCons (gName l) (gCons (gName k) gNil)))))) (wParN [i, j, l, k] wts) := fun {c bs F σ H ε N DW D} r w m => h r w fun vs ts A N' H' hR o n => by
  obtain ⟨v, u, y, z, rfl⟩ := four_of (n.rep.len.trans hR.1)
  refine ⟨by show 4 ≤ _; decide, fun p np => ⟨p, _, rfl, SqT.of upd_same, rfl, v, _, rfl, u, _, rfl, y, _, rfl, z, _, rfl, rfl, ?_⟩⟩
  obtain ⟨F', r'⟩ := par_core (is := [i, j, l, k]) r (o.ext (Ex.new (o := .tup [v, u, y, z]) np)) (n.ext r o (Ex.new np))
  exact m.nx r' hR.2
/-! ### return [x, e, ..][k], x its own -/
def wRetPick (i : Nat) (ws : WTs) (we : WE) : WS := fun D ε N => atIs ε[i]? fun t0 => ws ε N fun ts N1 => ts.length ≤ 99999 ∧ we ε N1 fun d N2 => dInt d fun k => ∃ t, L2.atI (t0 :: ts) k = some t ∧ D.rt t N2
theorem wRetPick_eq {i : Nat} {ws : WTs} {we : WE} {D : EW} {ε : Env} {N : Nat} : wRetPick i ws we D ε N = atIs ε[i]? fun t0 => ws ε N fun ts N1 => ts.length ≤ 99999 ∧ we ε N1 fun d N2 => dInt d fun k => ∃ t, L2.atI (t0 :: ts) k = some t ∧ D.rt t N2 := propext Iff.rfl
theorem sim_retPick {K : PySem.W.Frag} {i : Nat} {tas : TA} {te : TE} {ws : WTs} {we : WE} (h : SimTs tas ws) (k : SimE te we) : SimS (tRet (tOp (rIx K) (tLst (tCons (tVar i) tas)) te)) (wRetPick i ws we) := fun {c bs F σ H ε N DW D} r w m => by
  obtain ⟨t0, e0, w⟩ := atIs_some w
  obtain ⟨y, A0, F1, F2, hx, hr, eF, _⟩ := r.env.at e0
  cases hr with
  | is hr =>
    rename_i v0
    refine ⟨v0, hx, h r w fun vs ts A N1 H1 w1 o1 n => ⟨?_, fun p np => ?_⟩⟩
    · have := n.rep.len
      have := w1.1
      show vs.length + 1 ≤ sizeLine
      have z : (100000 : Nat) ≤ sizeLine := by decide
      omega
    · have hA : ∀ a ∈ A0, a ∈ F := fun a ha => by rw [eF]; exact List.mem_append_right _ (List.mem_append_left _ ha)
      have r1 := r.hide o1 n.new n.rep.own
      have ex : Same H1 (upd H1 p (.lst (v0 :: vs))) := Ex.new np
      have r2 := r1.ext ex
      refine k r2 w1.2 fun u d N2 H3 w2 o3 hu => ?_
      cases d <;> first | exact False.elim w2 | skip
      rename_i j
      obtain ⟨t, ht, hR⟩ := w2
      cases hu
      have o2 := o1.ext ex
      have o23 := o2.trans o3
      have hp3 : H3 p = some (.lst (v0 :: vs)) := out_get o3 (fun z => r1.live p (r1.bin p z) np) upd_same
      have hlen : (v0 :: vs).length = (t0 :: ts).length := by rw [List.length_cons, List.length_cons, n.rep.len]
      have hix : ∃ q, ixN (t0 :: ts).length j = some q ∧ (t0 :: ts)[q]? = some t := by
        unfold L2.atI at ht
        cases hn : ixN (t0 :: ts).length j with
        | none => rw [hn] at ht; cases ht
        | some q => rw [hn] at ht; exact ⟨q, rfl, ht⟩
      obtain ⟨q, hq, htq⟩ := hix
      have fin : ∀ v, (v0 :: vs)[q]? = some v → D.rt v H3 → rIx K (.ref p) (.int j) H3 D.rt := fun v hv hD => .inl ⟨p, _, j, v, rfl, rfl, SqL.of hp3, by unfold L2.atI; rw [hlen, hq]; exact hv, hD⟩
      cases q with
      | zero =>
        have et : t0 = t := Option.some.inj htq
        subst et
        refine fin v0 rfl (m.rt ⟨?_, ?_, fun a ha => r.off a (hA a ha), fun a ha => r.nb a (hA a ha), o23.box, (r.out o23).pin⟩ hR)
        · refine Rep.chg r.nt ?_ (fun a ha o e => out_get o23 (r.fb a (hA a ha)) e) hr
          refine (hid_perm (bs := bs) (cs := A0 ++ c.bs0) fun a ha => (List.mem_append.mp ha).elim (fun h => r.sub a (hA a h)) (r.up a)).trans ?_
          intro a o e
          obtain ⟨z1, z2⟩ := hid_some e
          rw [hid_out z1]
          exact out_get o23 (fun z => z1 (List.mem_append_right _ (r.bb a z))) z2
        · have nd := r.nd
          rw [eF] at nd
          exact (List.nodup_append.mp (List.nodup_append.mp nd).2.1).1
      | succ q =>
        obtain ⟨v, B, hv, hB, hs⟩ := n.rep.get (j := q) (t := t) htq
        refine fin v hv (m.rt ⟨?_, n.nd.sublist hs, fun a ha => pin_none r (n.new a (hs.subset ha)), fun a ha z => r.live a (r.up a z) (n.new a (hs.subset ha)), o23.box, (r.out o23).pin⟩ hR)
        have oe : Out c H1 H3 N2 := (r1.self.ext ex).trans o3
        refine Rep.chg r1.nt ?_ (fun a ha o e => out_get oe (fun z => r.live a (r.bin a z) (n.new a (hs.subset ha))) e) hB
        refine (hid_perm (bs := A ++ bs) (cs := B ++ c.bs0) fun a ha => (List.mem_append.mp ha).elim (fun h => List.mem_append_left _ (hs.subset h)) fun h => List.mem_append_right _ (r.up a h)).trans ?_
        intro a o e
        obtain ⟨z1, z2⟩ := hid_some e
        rw [hid_out z1]
        exact out_get oe (fun z => z1 (List.mem_append_right _ (r.bb a z))) z2
end Cg

set_option Elab.async false
set_option linter.all false
set_option maxRecDepth 100000
set_option maxHeartbeats 1000000
namespace Cg
open PySem PySem.Spec PyProof.Rows L2 Evl
/-! ### a builtin's method within a comprehension: K is named -/
section
variable {X : Cx} {o e : Expr} {es : List Expr} {to : TE} {t : TA} {name : Str} {apos cpos : Pos} {T id : String} {r : V → List V → Hp → VK → Prop}
theorem pe_bmK (K : PySem.W.Frag) (pa : PlainAttrs T) (slot : Slot T name id) (hty : typeOf (.builtin id) = pure (.type "method_descriptor")) (hm : MtR X id r) (ho : PE X o to) (ha : PA X (e :: es) t)
    (hbase : attributeBase o name X.env (eval o X.env) = eval o X.env := by rfl)
    (hfew : ((backTo cpos (starEach (e :: es) X.env)).all (fun x => !x.1) && (backToKw cpos (keywordEach [] X.env)).all (fun x => x.1.isSome)
      && decide ((e :: es).length + ([] : List Keyword).length + (if ([] : List Keyword).isEmpty then 0 else 1) < 30)) = true := by rfl)
    (hline : (apos.endLine == cpos.line) = true := by rfl) (hs : starEach (e :: es) X.env = (false, eval e X.env) :: starEach es X.env := by rfl) (hplain : (backTo cpos (starEach es X.env)).any (·.1) = false := by rfl) (hK : X.K = K := by rfl) :
    PE X (.Call (.Attribute o name apos) (e :: es) [] cpos) (tBM K T r to t) := by
  subst hK
  exact pe_bm pa slot hty hm ho ha hbase hfew hline hs hplain
end
theorem oCount_list {ns : List Int} {k : Int} {S : PyData → Prop} : oCount (.list (ns.map PyData.int)) [.int k] S = S (.int (ns.count k : Nat)) := by
  show (match intsOf (ns.map PyData.int) with | some ns => S (.int (ns.count k : Nat)) | none => False) = _
  rw [intsOf_map]
/-! ### three walked at once -/
theorem gv_zip3 {wa wb wc : WE} {ε : Env} {N : Nat} (xs ys zs : List Int) (hl : ys.length = xs.length) (hl2 : zs.length = xs.length) (ha : Ge wa ε N (.list (xs.map PyData.int))) (hb : Ge wb ε N (.list (ys.map PyData.int))) (hc : Ge wc ε N (.list (zs.map PyData.int))) :
    Gv (wZip3 wa wb wc) ε N ((List.range xs.length).map fun i => .tuple [.int (xs.getD i 0), .int (ys.getD i 0), .int (zs.getD i 0)]) := fun R hR => ha _ (hb _ (hc _ (by
  refine ⟨⟨by rw [List.length_map, List.length_map, hl], by rw [List.length_map, List.length_map, hl2]⟩, ?_⟩
  have e : colsD (xs.map PyData.int).length [xs.map PyData.int, ys.map PyData.int, zs.map PyData.int] = (List.range xs.length).map fun i => PyData.tuple [.int (xs.getD i 0), .int (ys.getD i 0), .int (zs.getD i 0)] := by
    unfold colsD
    rw [List.length_map]
    refine List.map_congr_left fun j hj => ?_
    have hj' := List.mem_range.mp hj
    have g : ∀ l : List Int, j < l.length → (l.map PyData.int).getD j .none = .int (l.getD j 0) := fun l h => by
      rw [List.getD_eq_getElem?_getD, List.getD_eq_getElem?_getD, List.getElem?_map, List.getElem?_eq_getElem h]
      rfl
    show PyData.tuple [(xs.map PyData.int).getD j .none, (ys.map PyData.int).getD j .none, (zs.map PyData.int).getD j .none] = _
    rw [g xs hj', g ys (by omega), g zs (by omega)]
  rw [e]
  exact hR)))
/-! ### sorted, tuples of ints of one length -/
def trI (ns : List Int) : PyData := .tuple (ns.map PyData.int)
def oSortT (d : Nat) (B : Int) : List PyData → (List PyData → Prop) → Prop
  | [.list ds], S => ∃ ts : List (List Int), ds = ts.map trI ∧ ts.length < 64 ∧ (∀ ns ∈ ts, ns.length = d ∧ TS.Bd B ns) ∧ ∀ qs : List (List Int), qs.Perm ts → qs.Pairwise (fun n m => TS.code B n ≤ TS.code B m) → S (qs.map trI)
  | _, _ => False
def vI : V → Int
  | .int i => i
  | _ => 0
def kTr (H : Hp) (v : V) : List Int := match v with
  | .ref a => match H a with
    | some (.tup xs) => xs.map vI
    | _ => []
  | _ => []
theorem tr_dq {H H0 : Hp} {K : PySem.W.Frag} (s : Same H H0) {v : V} {ns : List Int} (h : Dq H v (trI ns)) : kTr H0 v = ns ∧ TupI K H0 v ns := by
  obtain ⟨a, xs, rfl, e, h⟩ := Dq.tup_inv h
  have e2 := ints_inv h
  subst e2
  have e3 := s _ _ e
  refine ⟨?_, a, rfl, SqT.of e3⟩
  show (match H0 a with | some (.tup xs) => xs.map vI | _ => []) = ns
  rw [e3]
  show (ns.map V.int).map vI = ns
  rw [List.map_map]
  exact List.map_id _
theorem trs_dq {H H0 : Hp} {K : PySem.W.Frag} (s : Same H H0) : ∀ {xs : List V} {ts : List (List Int)}, DqAll H xs (ts.map trI) → (∀ x ∈ xs, TupI K H0 x (kTr H0 x)) ∧ xs.map (kTr H0) = ts
  | _, [], .nil => ⟨(fun _ z => nomatch z), rfl⟩
  | _, t :: ts, .cons h r => by
    obtain ⟨h1, h2⟩ := trs_dq (K := K) s r
    obtain ⟨e, q⟩ := tr_dq (K := K) s h
    refine ⟨fun x hx => ?_, by rw [List.map_cons, e, h2]⟩
    rcases List.mem_cons.mp hx with rfl | hx
    · rw [e]; exact q
    · exact h1 x hx
theorem cn_sortT {K : PySem.W.Frag} {d : Nat} {B : Int} : CbN (rSortU K d B) (oSortT d B) := fun {hs H xs ds S Q} l hx w q => by
  match ds, w with
  | [.list es], w =>
    obtain ⟨v, rfl, hv⟩ := dq1 hx
    obtain ⟨ts, rfl, h64, hb, w⟩ := w
    obtain ⟨a, ys, rfl, e1, h1⟩ := hv.list_inv
    obtain ⟨k1, k2⟩ := trs_dq (K := K) hid_same h1
    have hlen : ys.length = ts.length := by rw [← k2, List.length_map]
    refine ⟨a, ys, rfl, SqL.of (hid_some e1).2, by omega, fun x hx => ?_, fun zs p hp hst np => ?_⟩
    · have hm : kTr H x ∈ ts := by rw [← k2]; exact List.mem_map_of_mem hx
      exact ⟨kTr H x, k1 x hx, hb _ hm⟩
    · have ed : ts.map trI = ys.map fun x => trI (kTr H x) := by rw [← k2, List.map_map]; rfl
      have each := all_of_dq (f := fun x => trI (kTr H x)) (by rw [← ed]; exact h1)
      have dz : DqAll (hid _ H) zs (zs.map fun x => trI (kTr H x)) := dq_of_all fun x hx => each x (hp.mem_iff.mp hx)
      have ez : (zs.map fun x => trI (kTr H x)) = (zs.map (kTr H)).map trI := by rw [List.map_map]; rfl
      rw [ez] at dz
      refine q p zs _ (w (zs.map (kTr H)) (by rw [← k2]; exact hp.map _) ?_) np dz
      rw [List.pairwise_map]
      exact hst.imp_of_mem fun {x y} hx hy h => h _ _ (k1 x (hp.mem_iff.mp hx)) (k1 y (hp.mem_iff.mp hy))
theorem sortTK {X : Cx} (K : PySem.W.Frag) (d : Nat) (B : Int) (hd : 1 ≤ d) (hK : X.K = K := by rfl) : CallR X (.builtin "sorted") (rSortU K d B) := by subst hK; exact cr_sortT hd
end Cg

set_option Elab.async false
set_option linter.all false
set_option maxRecDepth 100000
set_option maxHeartbeats 1000000
namespace Cg
open PySem PySem.Spec PyProof.Rows L2 Evl
/-! ### a law with one box: what stands behind the box, by value -/
theorem run_box {ts : TS} {ws : WS} (h : SimS ts ws) {b : Addr} {σ : L2.St} {H : Hp} {ε : Env} {N : Nat} {D : Ends} (hB : Box H b N) (hE : RelE [b] [b] H σ ε []) (hw : ws (EW.fn fun t _ => t.data = .bool true) ε N) (hD : ∀ H', D.rt (.bl true) H') : ts D σ H := by
  let c : Base := ⟨[b], [b], hid [b] H, hid [b] H⟩
  have lv : Live [b] H := fun a ha => by rw [List.mem_singleton.mp ha]; exact hB.is
  have nt : NoTup [b] H := fun a ha xs => by rw [List.mem_singleton.mp ha]; exact box_tup hB
  have r : Rel c [b] [] σ H ε N := ⟨hE, List.nodup_nil, (fun _ z => nomatch z), (fun _ z => nomatch z), (fun _ z => nomatch z), fun _ h => h, fun _ h => h, fun a ha => hid_in ha, lv, nt, fun a ha => by rw [List.mem_singleton.mp ha]; exact hB, hid_same, Same.refl _⟩
  refine h r hw ⟨fun r2 w2 => (nomatch w2), fun {v t A H' M} rt w2 => ?_, fun _ w2 => w2.elim, fun _ w2 => w2.elim⟩
  have kp : Keep [b] H H' := fun a o e => by
    obtain ⟨h1, h2⟩ := hid_some e
    rw [hid_out h1]
    exact rt.pin a o e
  have hBx := rt.box b (List.mem_singleton.mpr rfl)
  have n : Nw [b] A H H' v t := ⟨rt.rep, rt.nd, fun a ha => by
    have h1 : hid [b] H a = none := rt.off a ha
    rw [hid_out (fun z => rt.nb a ha z)] at h1
    exact h1⟩
  have hd := n.data lv (fun a ha xs => by rw [List.mem_singleton.mp ha]; exact box_tup hBx)
  have w3 : t.data = .bool true := w2
  rw [w3] at hd
  cases hd
  exact hD H'
end Cg

set_option Elab.async false
set_option linter.all false
set_option maxRecDepth 100000
set_option maxHeartbeats 1000000
namespace Cg
open PySem PySem.Spec PyProof.Rows L2 Evl
/-! ### dicts of its own: a slot that holds one -/
section
variable {c : Base} {bs F : List Addr} {σ : L2.St} {H : Hp} {ε : Env} {N : Nat}
theorem Rel.dic {i : Nat} {kvs : List (Key × V)} (r : Rel c bs F σ H ε N) (hl : ε[i]? = some (.dic kvs)) : ∃ a, σ[i]? = some (some (.ref a)) ∧ H a = some (.dK kvs) ∧ a ∈ bs ∧ a ∉ c.b ∧ a ∈ F ∧
    ∀ kvs', Rel c bs F σ (upd H a (.dK kvs')) (ε.set i (.dic kvs')) N := by
  obtain ⟨y, A, F1, F2, q1, q2, rfl, q4⟩ := r.env.at hl
  cases q2 with
  | dic e =>
    rename_i a
    have ain : a ∈ F1 ++ ([a] ++ F2) := List.mem_append_right _ (List.mem_append_left _ (List.mem_singleton.mpr rfl))
    have abs := r.sub a ain
    refine ⟨a, q1, e, abs, r.fb a ain, ain, fun kvs' => ?_⟩
    have aout : ∀ x ∈ F1 ++ F2, x ≠ a := fun x hx z => by
      subst z
      obtain ⟨_, p2, p3⟩ := List.nodup_append.mp r.nd
      rcases List.mem_append.mp hx with h | h
      · exact p3 x h x (List.mem_append_left _ (List.mem_singleton.mpr rfl)) rfl
      · exact (List.nodup_append.mp p2).2.2 x (List.mem_singleton.mpr rfl) x h rfl
    have kk : Keep bs H (upd H a (.dK kvs')) := (Keep.refl _ _).put abs
    have env := q4 (cs := bs) (H' := upd H a (.dK kvs')) (y := some (.ref a)) (m := .dic kvs') r.nt kk (fun x hx o e => by rw [upd_ne (aout x hx)]; exact e) (.dic upd_same)
    rw [set_same q1] at env
    refine ⟨env, r.nd, r.sub, r.off, r.nb, r.up, r.bb, r.offb, fun x hx => ?_, fun x hx xs z => ?_, fun x hx => ?_, fun x o e => ?_, r.vis.trans kk⟩
    · by_cases hxa : x = a
      · subst hxa; rw [upd_same]; exact fun z => nomatch z
      · rw [upd_ne hxa]; exact r.live x hx
    · by_cases hxa : x = a
      · subst hxa; rw [upd_same] at z; cases z
      · rw [upd_ne hxa] at z; exact r.nt x hx xs z
    · exact (r.box x hx).put (fun z => r.fb a ain (z ▸ hx))
    · rw [upd_ne (fun (z : x = a) => by rw [z, r.off a ain] at e; cases e)]
      exact r.pin x o e
end
def atDic (o : Option Sl) (k : List (Key × V) → Prop) : Prop := match o with
  | some (.dic kvs) => k kvs
  | _ => False
theorem atDic_some {o : Option Sl} {k : List (Key × V) → Prop} (h : atDic o k) : ∃ kvs, o = some (.dic kvs) ∧ k kvs := by
  unfold atDic at h
  split at h
  · exact ⟨_, rfl, h⟩
  · exact h.elim
theorem atDic_is {kvs : List (Key × V)} {k : List (Key × V) → Prop} : atDic (some (.dic kvs)) k = k kvs := propext Iff.rfl
/-- d[e] = True, e an int -/
def wDPut (i : Nat) (we : WE) : WS := fun D ε N => atDic ε[i]? fun kvs => we ε N fun d N' => dInt d fun k => kvs.length ≤ 100000 ∧ D.nx (ε.set i (.dic (putK kvs (.inl k) (.bl true)))) N'
theorem sim_dPut {i : Nat} {te : TE} {we : WE} (h : SimE te we) : SimS (sDPut (tVar i) te (tC (.bl true))) (wDPut i we) := fun {c bs F σ H ε N DW D} r w m => by
  obtain ⟨kvs, hl, w⟩ := atDic_some w
  obtain ⟨a, q1, q2, _, _, _, _⟩ := r.dic hl
  refine ⟨.ref a, q1, h r w fun v d N' H' hR o hd => ?_⟩
  have hk : ∃ k, d = .int k := by
    unfold dInt at hR
    split at hR
    · exact ⟨_, rfl⟩
    · exact hR.elim
  obtain ⟨k, rfl⟩ := hk
  have hR' : kvs.length ≤ 100000 ∧ DW.nx (ε.set i (.dic (putK kvs (.inl k) (.bl true)))) N' := hR
  have ev := hd.int_inv
  subst ev
  obtain ⟨a2, p1, p2, _, _, _, p6⟩ := (r.out o).dic hl
  have ea : a2 = a := by
    have := p1.symm.trans q1
    cases this
    rfl
  subst ea
  exact ⟨a2, _, rfl, DPut.k (k := .inl k) p2 (Nat.lt_of_le_of_lt hR'.1 (by decide)), m.nx (p6 _) hR'.2⟩
/-- list(d), keys that are ints -/
def intKeys : List (Key × V) → Option (List Int)
  | [] => some []
  | (.inl k, _) :: l => (intKeys l).map (k :: ·)
  | _ => none
theorem intKeys_map : ∀ {kvs : List (Key × V)} {ks : List Int}, intKeys kvs = some ks → kvs.map (fun kv => kV kv.1) = ks.map V.int
  | [], ks, h => by cases h; rfl
  | (.inl k, u) :: l, ks, h => by
    unfold intKeys at h
    cases hl : intKeys l with
    | none => rw [hl] at h; cases h
    | some ms =>
      rw [hl] at h
      cases h
      rw [List.map_cons, List.map_cons, intKeys_map hl]
      rfl
  | (.inr _, _) :: _, _, h => by unfold intKeys at h; cases h
def rListDK : List V → Hp → VK → Prop := fun xs H Q => ∃ (a : Addr) (kvs : List (Key × V)), xs = [.ref a] ∧ Rd H a (.dK kvs) ∧ ∀ p, H p = none → Q (.ref p) (upd H p (.lst (kvs.map fun kv => kV kv.1)))
def wDList (i : Nat) : WT := fun ε N R => atDic ε[i]? fun kvs => ∃ ks, intKeys kvs = some ks ∧ R (.lst (ks.map fun k => .sh (.int k))) N
theorem ints_dq {H : Hp} : ∀ ks : List Int, DqAll H (ks.map V.int) (ks.map PyData.int)
  | [] => .nil
  | k :: ks => .cons (.int k) (ints_dq ks)
theorem sim_dList {i : Nat} : SimT (tCB rListDK (tCons (tVar i) tNil)) (wDList i) := fun {c bs F σ H ε N R Q} r w q => by
  obtain ⟨kvs, hl, ks, hk, w⟩ := atDic_some w
  obtain ⟨a, q1, q2, _, _, _, _⟩ := r.dic hl
  refine ⟨.ref a, q1, a, kvs, rfl, .inl q2, fun p np => ?_⟩
  rw [intKeys_map hk]
  have e : ks.map (fun k => T.sh (PyData.int k)) = (ks.map PyData.int).map T.sh := by rw [List.map_map]; rfl
  rw [e] at w
  exact q _ _ [p] N _ w (r.self.ext (Ex.new np)) (Nw.shs r.self (ints_dq ks) np)
section
variable {c : Base} {bs F : List Addr} {σ : L2.St} {H : Hp} {ε : Env} {N : Nat}
theorem Rel.newD {i : Nat} {p : Addr} {kvs : List (Key × V)} (r : Rel c bs F σ H ε N) (np : H p = none) : ∃ F', Rel c ([p] ++ bs) F' (σ.set i (some (.ref p))) (upd H p (.dK kvs)) (ε.set i (.dic kvs)) N := by
  have hp : ∀ a, H a ≠ none → a ≠ p := fun a ha z => ha (by rw [z]; exact np)
  have vis : Same (hid bs H) (hid ([p] ++ bs) (upd H p (.dK kvs))) := fun a o e => by
    obtain ⟨h1, h2⟩ := hid_some e
    have hap : a ≠ p := hp a (by rw [h2]; exact fun z => nomatch z)
    rw [hid_out (fun z => by
      rcases List.mem_append.mp z with z | z
      · exact hap (List.mem_singleton.mp z)
      · exact h1 z), upd_ne hap]
    exact h2
  have r1 : Rel c ([p] ++ bs) F σ (upd H p (.dK kvs)) ε N := by
    refine ⟨RelE.chg r.nt vis (fun a ha o e => by rw [upd_ne (hp a (by rw [e]; exact fun z => nomatch z))]; exact e) r.env, r.nd, fun a ha => List.mem_append_right _ (r.sub a ha), r.off, r.nb, fun a ha => List.mem_append_right _ (r.up a ha), r.bb, r.offb, fun x hx => ?_, fun x hx xs z => ?_, fun x hx => ?_, fun x o e => ?_, r.vis.trans vis⟩
    · by_cases hxa : x = p
      · subst hxa; rw [upd_same]; exact fun z => nomatch z
      · rw [upd_ne hxa]
        rcases List.mem_append.mp hx with h | h
        · exact absurd (List.mem_singleton.mp h) hxa
        · exact r.live x h
    · by_cases hxa : x = p
      · subst hxa; rw [upd_same] at z; cases z
      · rw [upd_ne hxa] at z
        rcases List.mem_append.mp hx with h | h
        · exact absurd (List.mem_singleton.mp h) hxa
        · exact r.nt x h xs z
    · exact (r.box x hx).put (hp x (r.live x (r.bin x hx))).symm
    · rw [upd_ne (hp x (by rw [r.pin x o e]; exact fun z => nomatch z))]
      exact r.pin x o e
  cases hl : ε[i]? with
  | none =>
    have hs : σ[i]? = none := by
      rw [List.getElem?_eq_none_iff] at hl ⊢
      rw [r.env.len]
      exact hl
    rw [set_beyond hl, set_beyond hs]
    exact ⟨F, r1⟩
  | some l =>
    obtain ⟨x, A0, F1, F2, q1, q2, rfl, q4⟩ := r1.env.at hl
    have hm : ∀ a ∈ F1 ++ ([p] ++ F2), a ∈ F1 ++ (A0 ++ F2) ∨ a ∈ [p] := fun a ha => by
      rcases List.mem_append.mp ha with h | h
      · exact .inl (List.mem_append_left _ h)
      · rcases List.mem_append.mp h with h | h
        · exact .inr h
        · exact .inl (List.mem_append_right _ (List.mem_append_right _ h))
    have hA : ∀ a ∈ [p], a ∉ F1 ++ (A0 ++ F2) := fun a ha z => r.live a (r.sub a z) (by rw [List.mem_singleton.mp ha]; exact np)
    refine ⟨F1 ++ ([p] ++ F2), q4 r1.nt (Same.refl _) (fun _ _ _ e => e) (.dic upd_same), nodup_mid r.nd (List.pairwise_singleton _ _) fun a ha => ⟨fun z => hA a ha (List.mem_append_left _ z), fun z => hA a ha (List.mem_append_right _ (List.mem_append_right _ z))⟩, fun a ha => ?_, fun a ha => ?_, fun a ha => ?_, r1.up, r1.bb, r1.offb, r1.live, r1.nt, r1.box, r1.pin, r1.vis⟩
    · rcases hm a ha with h | h
      · exact r1.sub a h
      · exact List.mem_append_left _ h
    · rcases hm a ha with h | h
      · exact r1.off a h
      · rw [List.mem_singleton.mp h]
        exact pin_none r np
    · rcases hm a ha with h | h
      · exact r1.nb a h
      · rw [List.mem_singleton.mp h]
        exact fun z => r.live p (r.up p z) np
end
/-- d = {0: True} -/
def wDNew (i : Nat) (k : Int) : WS := fun D ε N => D.nx (ε.set i (.dic [(.inl k, .bl true)])) N
theorem sim_dNew {i : Nat} {k : Int} : SimS (tAsg (tDisp [(tC (.int k), tC (.bl true))]) (gName i)) (wDNew i k) := fun {c bs F σ H ε N DW D} r w m => by
  intro p np
  refine ⟨upd_same, [(.inl k, .bl true)], rfl, by show 1 ≤ 15; decide, ?_⟩
  obtain ⟨F', r'⟩ := r.newD (i := i) (p := p) (kvs := [(.inl k, .bl true)]) np
  have e : upd (upd H p (.dK [])) p (.dK (mergeK [] [(.inl k, .bl true)])) = upd H p (.dK [(.inl k, .bl true)]) := by
    funext a
    by_cases h : a = p
    · subst h; rw [upd_same, upd_same]; rfl
    · rw [upd_ne h, upd_ne h, upd_ne h]
  rw [e]
  exact m.nx r' w
theorem wDPut_eq {i : Nat} {we : WE} {D : EW} {ε : Env} {N : Nat} : wDPut i we D ε N = atDic ε[i]? fun kvs => we ε N fun d N' => dInt d fun k => kvs.length ≤ 100000 ∧ D.nx (ε.set i (.dic (putK kvs (.inl k) (.bl true)))) N' := propext Iff.rfl
theorem wDList_eq {i : Nat} {ε : Env} {N : Nat} {R : T → Nat → Prop} : wDList i ε N R = atDic ε[i]? fun kvs => ∃ ks, intKeys kvs = some ks ∧ R (.lst (ks.map fun k => .sh (.int k))) N := propext Iff.rfl
theorem wDNew_eq {i : Nat} {k : Int} {D : EW} {ε : Env} {N : Nat} : wDNew i k D ε N = D.nx (ε.set i (.dic [(.inl k, .bl true)])) N := propext Iff.rfl
theorem listDK {X : Cx} (hc : X.calm = true := by rfl) : CallR X (.type "list") rListDK := call_listD hc
/-! ### bits, the greatest of a list -/
abbrev oShr : O2 := oI (fun _ j => 0 ≤ j) fun i j => .int (i / 2 ^ j.toNat)
abbrev oShl : O2 := oI CPow fun i j => .int (i * 2 ^ j.toNat)
abbrev oAnd : O2 := oI0 fun i j => .int (Builtin.bitAnd i j)
abbrev oOr : O2 := oI0 fun i j => .int (Builtin.bitOr i j)
theorem od_shr : OpD (rI (fun _ j => 0 ≤ j) fun i j => .int (i / 2 ^ j.toNat)) oShr := od_I fun _ _ _ => .int _
theorem od_shl : OpD (rI CPow fun i j => .int (i * 2 ^ j.toNat)) oShl := od_I fun _ _ _ => .int _
theorem od_and : OpD (rI0 fun i j => .int (Builtin.bitAnd i j)) oAnd := od_I0 fun _ _ _ => .int _
theorem od_or : OpD (rI0 fun i j => .int (Builtin.bitOr i j)) oOr := od_I0 fun _ _ _ => .int _
def oMaxL : OC
  | [d], S => match seqOf d with
    | some ds => match intsOf ds with
      | some ns => 0 < ns.length ∧ ∀ m, m ∈ ns → (∀ y, y ∈ ns → y ≤ m) → S (.int m)
      | none => False
    | none => False
  | _, _ => False
theorem oMaxL_list {ns : List Int} {S : PyData → Prop} : oMaxL [.list (ns.map PyData.int)] S = (0 < ns.length ∧ ∀ m, m ∈ ns → (∀ y, y ∈ ns → y ≤ m) → S (.int m)) := by
  show (match intsOf (ns.map PyData.int) with | some ns => 0 < ns.length ∧ ∀ m, m ∈ ns → (∀ y, y ∈ ns → y ≤ m) → S (.int m) | none => False) = _
  rw [intsOf_map]
def oMaxP : OC := fun ds S => (∃ es, ds = [.list es]) ∧ oMaxL ds S
theorem oMaxP_list {ns : List Int} {S : PyData → Prop} : oMaxP [.list (ns.map PyData.int)] S = (0 < ns.length ∧ ∀ m, m ∈ ns → (∀ y, y ∈ ns → y ≤ m) → S (.int m)) := by
  rw [← oMaxL_list]
  exact propext ⟨fun h => h.2, fun h => ⟨⟨_, rfl⟩, h⟩⟩
theorem cb_maxL {K : PySem.W.Frag} : CbD (rMax K) oMaxP := fun {hs H xs ds S Q} l hx w q => by
  obtain ⟨⟨es, rfl⟩, w⟩ := w
  obtain ⟨v, rfl, hv⟩ := dq1 hx
  have w' : (match intsOf es with | some ns => 0 < ns.length ∧ ∀ m, m ∈ ns → (∀ y, y ∈ ns → y ≤ m) → S (.int m) | none => False) := w
  split at w'
  · rename_i ns e2
    cases hv with
    | lst e hy =>
      have e3 := ints_of hy e2
      subst e3
      exact ⟨_, ns, rfl, SqL.of (hid_same _ _ e), w'.1, fun m h1 h2 => q _ _ H (w'.2 m h1 h2) (Same.refl _) (.int _)⟩
  · exact w'.elim
theorem maxLK {X : Cx} (K : PySem.W.Frag) (hK : X.K = K := by rfl) (hc : X.calm = true := by rfl) : CallR X (.builtin "max") (rMax K) := by subst hK; exact cr_max hc
end Cg

set_option Elab.async false
set_option linter.all false
set_option maxRecDepth 100000
set_option maxHeartbeats 1000000
namespace Cg
open PySem PySem.Spec PyProof.Rows L2 Evl
/-! ### dicts of ints to ints, by value -/
def valI (kvs : List (Int × Int)) (k : Int) : Option Int := (kvs.find? fun p => decide (p.1 = k)).map (·.2)
def putI (kvs : List (Int × Int)) (k v : Int) : List (Int × Int) :=
  if (kvs.any fun p => decide (p.1 = k)) = true then kvs.map (fun p => if p.1 = k then (p.1, v) else p) else kvs ++ [(k, v)]
theorem inl_dec {x k : Int} : decide ((Sum.inl x : Key) = Sum.inl k) = decide (x = k) := by
  by_cases h : x = k
  · subst h; simp
  · rw [decide_eq_false h, decide_eq_false (fun z => h (Sum.inl.inj z))]
theorem valI_map : ∀ (kvs : List (Int × Int)) (k : Int), valV (kvs.map kvI) (Sum.inl k : Key) = (valI kvs k).map V.int
  | [], k => rfl
  | (x, y) :: kvs, k => by
    by_cases h : x = k
    · subst h
      rw [List.map_cons, valV_pos (show (kvI (x, y)).1 = Sum.inl x from rfl)]
      simp [valI, List.find?_cons, kvI]
    · rw [List.map_cons, valV_neg (show ¬ (kvI (x, y)).1 = Sum.inl k from fun z => h (Sum.inl.inj z)), valI_map kvs k]
      simp [valI, List.find?_cons, h]
theorem anyI_map : ∀ (kvs : List (Int × Int)) (k : Int), ((kvs.map kvI).any fun kv => decide (kv.1 = (Sum.inl k : Key))) = kvs.any fun p => decide (p.1 = k)
  | [], k => rfl
  | (x, y) :: kvs, k => by
    rw [List.map_cons, List.any_cons, List.any_cons, anyI_map kvs k]
    show (decide ((Sum.inl x : Key) = Sum.inl k) || _) = (decide (x = k) || _)
    rw [inl_dec]
theorem putI_map (kvs : List (Int × Int)) (k v : Int) : putK (kvs.map kvI) (Sum.inl k : Key) (.int v) = (putI kvs k v).map kvI := by
  unfold putK putI
  rw [anyI_map]
  split
  · rw [List.map_map, List.map_map]
    refine List.map_congr_left fun p _ => ?_
    show (if (Sum.inl p.1 : Key) = Sum.inl k then _ else _) = kvI (if p.1 = k then _ else _)
    by_cases h : p.1 = k
    · rw [if_pos h, if_pos (by rw [h])]; rfl
    · rw [if_neg h, if_neg (fun z => h (Sum.inl.inj z))]
  · rw [List.map_append]; rfl
theorem kdI_inj : ∀ {a b : List (Int × Int)}, a.map kdI = b.map kdI → a = b
  | [], [], _ => rfl
  | [], _ :: _, h => nomatch h
  | _ :: _, [], h => nomatch h
  | (x, y) :: a, (z, u) :: b, h => by
    rw [List.map_cons, List.map_cons] at h
    injection h with h1 h2
    have h3 : (PyData.int x, PyData.int y) = (PyData.int z, PyData.int u) := h1
    injection h3 with h4 h5
    injection h4 with h4
    injection h5 with h5
    rw [kdI_inj h2, h4, h5]
theorem Dq.dict_inv {H : Hp} {v : V} {d : PyData} {kvs : List (Int × Int)} (h : Dq H v d) (e : d = .dict (kvs.map kdI)) : ∃ a, v = .ref a ∧ H a = some (.dK (kvs.map kvI)) := by
  cases h <;> first | (cases e; done) | skip
  rename_i a kvs' e'
  injection e with e
  rw [kdI_inj e] at e'
  exact ⟨a, rfl, e'⟩
/-- a slot holds that dict: its own, shared, or walked -/
def Dic (o : Option Sl) (kvs : List (Int × Int)) : Prop := o = some (.is (.dic kvs)) ∨ o = some (.is (.sh (.dict (kvs.map kdI)))) ∨ o = some (.dcF kvs)
def atD (o : Option Sl) (k : List (Int × Int) → Prop) : Prop := ∃ kvs, Dic o kvs ∧ k kvs
theorem atD_own {kvs : List (Int × Int)} {k : List (Int × Int) → Prop} : atD (some (.is (.dic kvs))) k = k kvs := propext ⟨fun ⟨kvs', h, q⟩ => by
  rcases h with h | h | h <;> first | (cases h; exact q) | (cases h; done), fun h => ⟨kvs, .inl rfl, h⟩⟩
theorem atD_frz {kvs : List (Int × Int)} {k : List (Int × Int) → Prop} : atD (some (.dcF kvs)) k = k kvs := propext ⟨fun ⟨kvs', h, q⟩ => by
  rcases h with h | h | h <;> first | (cases h; exact q) | (cases h; done), fun h => ⟨kvs, .inr (.inr rfl), h⟩⟩
theorem atD_sh {kvs : List (Int × Int)} {k : List (Int × Int) → Prop} : atD (some (.is (.sh (.dict (kvs.map kdI))))) k = k kvs := by
  refine propext ⟨fun h => ?_, fun h => ⟨kvs, .inr (.inl rfl), h⟩⟩
  obtain ⟨kvs', h, q⟩ := h
  rcases h with h | h | h
  · cases h
  · injection h with h
    injection h with h
    injection h with h
    injection h with h
    rw [kdI_inj h]
    exact q
  · cases h
section
variable {ta tb te tk tv : TE} {wa wb we wk wv : WE} {wt : WT} {c : Base} {bs F A B : List Addr} {σ : L2.St} {H H1 : Hp} {ε : Env} {N N1 : Nat} {v : V} {i : Nat}
theorem Rel.dicAt {kvs : List (Int × Int)} (r : Rel c bs F σ H ε N) (h : Dic ε[i]? kvs) : ∃ a, σ[i]? = some (some (.ref a)) ∧ Rd H a (.dK (kvs.map kvI)) := by
  rcases h with h | h | h
  · obtain ⟨y, A, F1, F2, q1, q2, _, _⟩ := r.env.at h
    cases q2 with
    | is q2 => cases q2 with
      | dic e => exact ⟨_, q1, .inl e⟩
  · obtain ⟨y, A, F1, F2, q1, q2, _, _⟩ := r.env.at h
    cases q2 with
    | is q2 => cases q2 with
      | sh hd =>
        obtain ⟨a2, rfl, e⟩ := hd.dict_inv rfl
        exact ⟨_, q1, .inl (hid_some e).2⟩
  · obtain ⟨y, A, F1, F2, q1, q2, _, _⟩ := r.env.at h
    cases q2 with
    | dcF e => exact ⟨_, q1, .inr ⟨_, (hid_some e).2⟩⟩
theorem same_ref {a b : Addr} {σ : L2.St} (h : σ[i]? = some (some (.ref a))) (k : σ[i]? = some (some (.ref b))) : a = b := by
  rw [h] at k
  cases k
  rfl
theorem dInt_some {d : PyData} {k : Int → Prop} (h : dInt d k) : ∃ x, d = .int x ∧ k x := by
  unfold dInt at h
  split at h
  · exact ⟨_, rfl, h⟩
  · exact h.elim
theorem dget {a : Addr} {kvs : List (Int × Int)} {k : Int} (h : Rd H a (.dK (kvs.map kvI))) : DGet H a (.int k) ((valI kvs k).map V.int) := .inl ⟨_, .inl k, h, rfl, (valI_map kvs k).symm⟩
/-- d[e] -/
def wDGet (i : Nat) (we : WE) : WE := fun ε N R => atD ε[i]? fun kvs => we ε N fun d N1 => dInt d fun k => ∃ v, valI kvs k = some v ∧ R (.int v) N1
theorem sim_dGet (h : SimE te we) : SimE (tDGet (tVar i) te) (wDGet i we) := fun {c bs F σ H ε N R Q} r w q => by
  obtain ⟨kvs, hk, w⟩ := w
  obtain ⟨a, q1, _⟩ := r.dicAt hk
  refine ⟨.ref a, q1, h r w fun v d N1 H1 w1 o1 hd => ?_⟩
  obtain ⟨k, rfl, x, hx, w2⟩ := dInt_some w1
  have ev := hd.int_inv
  subst ev
  obtain ⟨b, p1, p2⟩ := (r.out o1).dicAt hk
  rw [same_ref q1 p1]
  exact ⟨b, .int x, rfl, by have := dget (k := k) p2; rw [hx] at this; exact this, q _ _ N1 H1 w2 o1 (.int x)⟩
/-- e in d, e not in d -/
def wDIn (i : Nat) (we : WE) : WE := fun ε N R => atD ε[i]? fun kvs => we ε N fun d N1 => dInt d fun k => R (.bool (valI kvs k).isSome) N1
def wDNotIn (i : Nat) (we : WE) : WE := fun ε N R => atD ε[i]? fun kvs => we ε N fun d N1 => dInt d fun k => R (.bool (!(valI kvs k).isSome)) N1
theorem sim_dIn (h : SimE te we) : SimE (tDIn te (tVar i)) (wDIn i we) := fun {c bs F σ H ε N R Q} r w q => by
  obtain ⟨kvs, hk, w⟩ := w
  refine h r w fun v d N1 H1 w1 o1 hd => ?_
  obtain ⟨k, rfl, w2⟩ := dInt_some w1
  have ev := hd.int_inv
  subst ev
  obtain ⟨b, p1, p2⟩ := (r.out o1).dicAt hk
  refine ⟨.ref b, p1, b, _, rfl, dget (k := k) p2, ?_⟩
  rw [Option.isSome_map]
  exact q _ _ N1 H1 w2 o1 (.bl _)
theorem sim_dNotIn (h : SimE te we) : SimE (tDNotIn te (tVar i)) (wDNotIn i we) := fun {c bs F σ H ε N R Q} r w q => by
  obtain ⟨kvs, hk, w⟩ := w
  refine h r w fun v d N1 H1 w1 o1 hd => ?_
  obtain ⟨k, rfl, w2⟩ := dInt_some w1
  have ev := hd.int_inv
  subst ev
  obtain ⟨b, p1, p2⟩ := (r.out o1).dicAt hk
  refine ⟨.ref b, p1, b, _, rfl, dget (k := k) p2, ?_⟩
  rw [Option.isSome_map]
  exact q _ _ N1 H1 w2 o1 (.bl _)
def oInt? : Option Int → PyData
  | some v => .int v
  | none => .none
/-- d.get(e) -/
def wDGet1 (i : Nat) (we : WE) : WE := fun ε N R => atD ε[i]? fun kvs => we ε N fun d N1 => dInt d fun k => R (oInt? (valI kvs k)) N1
theorem sim_dGet1 (h : SimE te we) : SimE (tDGet1 (tVar i) te) (wDGet1 i we) := fun {c bs F σ H ε N R Q} r w q => by
  obtain ⟨kvs, hk, w⟩ := w
  obtain ⟨a, q1, q2⟩ := r.dicAt hk
  refine ⟨.ref a, q1, a, rfl, .inl ⟨_, q2⟩, h r w fun v d N1 H1 w1 o1 hd => ?_⟩
  obtain ⟨k, rfl, w2⟩ := dInt_some w1
  have ev := hd.int_inv
  subst ev
  obtain ⟨b, p1, p2⟩ := (r.out o1).dicAt hk
  rw [same_ref q1 p1]
  refine ⟨_, dget (k := k) p2, ?_⟩
  refine q _ (oInt? (valI kvs k)) N1 H1 w2 o1 ?_
  cases valI kvs k with
  | none => exact .non
  | some x => exact .int x
/-- {} -/
def wD0 : WT := fun ε N R => R (.dic []) N
theorem Nw.dic {p : Addr} {kvs : List (Int × Int)} (o : Out c H H1 N1) (np : H1 p = none) : Nw bs [p] H (upd H1 p (.dK (kvs.map kvI))) (.ref p) (.dic kvs) :=
  ⟨.dic upd_same, List.pairwise_singleton _ _, fun a ha => by rw [List.mem_singleton.mp ha]; exact out_none o np⟩
theorem sim_d0 : SimT tDNewK wD0 := fun {c bs F σ H ε N R Q} r w q => fun p np => q _ (.dic []) [p] N _ w (r.self.ext (Ex.new np)) (Nw.dic (kvs := []) r.self np)
/-- list(d), sorted(d) -/
def keysT (ks : List Int) : List T := ks.map fun k => T.sh (.int k)
def wDKeys (i : Nat) : WT := fun ε N R => atD ε[i]? fun kvs => R (.lst (keysT (kvs.map (·.1)))) N
theorem keys_kV (kvs : List (Int × Int)) : (kvs.map kvI).map (fun kv => kV kv.1) = (kvs.map (·.1)).map V.int := by
  rw [List.map_map, List.map_map]; rfl
theorem keysT_sh (ks : List Int) : keysT ks = (ks.map PyData.int).map T.sh := by unfold keysT; rw [List.map_map]; rfl
theorem sim_dKeys : SimT (tCB rListDK (tCons (tVar i) tNil)) (wDKeys i) := fun {c bs F σ H ε N R Q} r w q => by
  obtain ⟨kvs, hk, w⟩ := w
  obtain ⟨a, q1, q2⟩ := r.dicAt hk
  refine ⟨.ref a, q1, a, _, rfl, q2, fun p np => ?_⟩
  rw [keys_kV]
  rw [keysT_sh] at w
  exact q _ _ [p] N _ w (r.self.ext (Ex.new np)) (Nw.shs r.self (ints_dq _) np)
def rSortDI : List V → Hp → VK → Prop := fun xs H Q => ∃ (a : Addr) (kvs : List (Key × V)) (ks : List Int), xs = [.ref a] ∧ Rd H a (.dK kvs) ∧ kvs.map (·.1) = ks.map Sum.inl ∧ ks.length < 64 ∧
    ∀ (ys : List Int) (p : Addr), ys.Perm ks → ys.Pairwise (· ≤ ·) → H p = none → Q (.ref p) (upd H p (.lst (ys.map V.int)))
theorem sortDI {X : Cx} (hc : X.calm = true := by rfl) : CallR X (.builtin "sorted") rSortDI := call_sortedDI hc
def wDSort (i : Nat) : WT := fun ε N R => atD ε[i]? fun kvs => kvs.length < 64 ∧ ∀ ys : List Int, ys.Perm (kvs.map (·.1)) → ys.Pairwise (· ≤ ·) → R (.lst (keysT ys)) N
theorem sim_dSort : SimT (tCB rSortDI (tCons (tVar i) tNil)) (wDSort i) := fun {c bs F σ H ε N R Q} r w q => by
  obtain ⟨kvs, hk, hz, w⟩ := w
  obtain ⟨a, q1, q2⟩ := r.dicAt hk
  refine ⟨.ref a, q1, a, _, kvs.map (·.1), rfl, q2, ?_, by rw [List.length_map]; exact hz, fun ys p h1 h2 np => ?_⟩
  · rw [List.map_map, List.map_map]; rfl
  · have w' := w ys h1 h2
    rw [keysT_sh] at w'
    exact q _ _ [p] N _ w' (r.self.ext (Ex.new np)) (Nw.shs r.self (ints_dq _) np)
/-- its own dict changed in place -/
theorem Rel.dicSet {kvs : List (Int × Int)} (r : Rel c bs F σ H ε N) (hl : ε[i]? = some (.is (.dic kvs))) : ∃ a, σ[i]? = some (some (.ref a)) ∧ H a = some (.dK (kvs.map kvI)) ∧ a ∈ bs ∧ a ∉ c.b ∧ a ∈ F ∧
    ∀ kvs' : List (Int × Int), Rel c bs F σ (upd H a (.dK (kvs'.map kvI))) (ε.set i (.is (.dic kvs'))) N := by
  obtain ⟨y, A, F1, F2, q1, q2, rfl, q4⟩ := r.env.at hl
  cases q2 with
  | is q2 => cases q2 with
    | dic e =>
      rename_i a
      have ain : a ∈ F1 ++ ([a] ++ F2) := List.mem_append_right _ (List.mem_append_left _ (List.mem_singleton.mpr rfl))
      have abs := r.sub a ain
      refine ⟨a, q1, e, abs, r.fb a ain, ain, fun kvs' => ?_⟩
      have aout : ∀ x ∈ F1 ++ F2, x ≠ a := fun x hx z => by
        subst z
        obtain ⟨_, p2, p3⟩ := List.nodup_append.mp r.nd
        rcases List.mem_append.mp hx with h | h
        · exact p3 x h x (List.mem_append_left _ (List.mem_singleton.mpr rfl)) rfl
        · exact (List.nodup_append.mp p2).2.2 x (List.mem_singleton.mpr rfl) x h rfl
      have kk : Keep bs H (upd H a (.dK (kvs'.map kvI))) := (Keep.refl _ _).put abs
      have env := q4 (cs := bs) (H' := upd H a (.dK (kvs'.map kvI))) (y := some (.ref a)) (m := .is (.dic kvs')) r.nt kk (fun x hx o e => by rw [upd_ne (aout x hx)]; exact e) (.is (.dic upd_same))
      rw [set_same q1] at env
      refine ⟨env, r.nd, r.sub, r.off, r.nb, r.up, r.bb, r.offb, fun x hx => ?_, fun x hx xs z => ?_, fun x hx => ?_, fun x o e => ?_, r.vis.trans kk⟩
      · by_cases hxa : x = a
        · subst hxa; rw [upd_same]; exact fun z => nomatch z
        · rw [upd_ne hxa]; exact r.live x hx
      · by_cases hxa : x = a
        · subst hxa; rw [upd_same] at z; cases z
        · rw [upd_ne hxa] at z; exact r.nt x hx xs z
      · exact (r.box x hx).put (fun z => r.fb a ain (z ▸ hx))
      · rw [upd_ne (fun (z : x = a) => by rw [z, r.off a ain] at e; cases e)]
        exact r.pin x o e
def atDO (o : Option Sl) (k : List (Int × Int) → Prop) : Prop := match o with
  | some (.is (.dic kvs)) => k kvs
  | _ => False
theorem atDO_some {o : Option Sl} {k : List (Int × Int) → Prop} (h : atDO o k) : ∃ kvs, o = some (.is (.dic kvs)) ∧ k kvs := by
  unfold atDO at h
  split at h
  · exact ⟨_, rfl, h⟩
  · exact h.elim
theorem atDO_is {kvs : List (Int × Int)} {k : List (Int × Int) → Prop} : atDO (some (.is (.dic kvs))) k = k kvs := propext Iff.rfl
/-- d[e] = f -/
def wDSet (i : Nat) (wk wv : WE) : WS := fun D ε N => atDO ε[i]? fun kvs => wv ε N fun d N1 => dInt d fun v => wk ε N1 fun e N2 => dInt e fun k => kvs.length ≤ 100000 ∧ D.nx (ε.set i (.is (.dic (putI kvs k v)))) N2
theorem sim_dSet (hk : SimE tk wk) (hv : SimE tv wv) : SimS (sDPut (tVar i) tk tv) (wDSet i wk wv) := fun {c bs F σ H ε N DW D} r w m => by
  obtain ⟨kvs, hl, w⟩ := atDO_some w
  refine hv r w fun v d N1 H1 w1 o1 hd => ?_
  obtain ⟨x, rfl, w1⟩ := dInt_some w1
  have ev := hd.int_inv
  subst ev
  have r1 := r.out o1
  obtain ⟨a, q1, q2, _, _, _, _⟩ := r1.dicSet hl
  refine ⟨.ref a, q1, hk r1 w1 fun u e N2 H2 w2 o2 he => ?_⟩
  obtain ⟨k, rfl, w2⟩ := dInt_some w2
  have ev := he.int_inv
  subst ev
  obtain ⟨a2, p1, p2, _, _, _, p6⟩ := (r1.out o2).dicSet hl
  rw [same_ref q1 p1]
  have e2 : putK (kvs.map kvI) (Sum.inl k : Key) (.int x) = (putI kvs k x).map kvI := putI_map kvs k x
  refine ⟨a2, _, rfl, DPut.k (k := .inl k) p2 (by rw [List.length_map]; exact Nat.lt_of_le_of_lt w2.1 (by decide)), ?_⟩
  rw [e2]
  exact m.nx (p6 _) w2.2
/-- {k: v for x in ..} -/
def wDc (wi : WI) (wg : WG) (wk wv : WE) (vs : List Nat) : WT := fun ε N R => wi ε N fun ds N1 => ds.length ≤ 40000 ∧ ∃ I : Nat → List (Int × Int) → Nat → Prop, I 0 [] N1 ∧
  (∀ k d kvs M, ds[k]? = some d → I k kvs M → wg d (wipeE ε vs) fun ε2 => wk ε2 M fun e M2 => dInt e fun x => wv ε2 M2 fun f M3 => dInt f fun y => I (k + 1) (putI kvs x y) M3) ∧ ∀ kvs M, I ds.length kvs M → R (.dic kvs) M
theorem putI_len (kvs : List (Int × Int)) (k v : Int) : (putI kvs k v).length ≤ kvs.length + 1 := by
  unfold putI
  split
  · rw [List.length_map]; omega
  · rw [List.length_append]; exact Nat.le_refl _
theorem sim_dc {ti : TI} {wi : WI} {g : TG} {wg : WG} {vs : List Nat} (hi : SimI ti wi) (hg : SimG vs g wg) (hk : SimE tk wk) (hv : SimE tv wv) : SimT (tDc ti g tYes tk tv vs) (wDc wi wg wk wv vs) := fun {c bs F σ H ε N R Q} r ww q => hi r ww fun J ds N1 H1 w1 o1 Y D nD => by
  obtain ⟨hz, I, i0, step, fin⟩ := w1
  have r1 := r.out o1
  have Dbs : D ∉ bs := r1.live.out nD
  have Db : D ∉ c.b := fun z => Dbs (r.bin D z)
  have world : ∀ {H' : Hp} {kvs : List (Key × V)} {M : Nat}, H' D = some (.dK kvs) → Out c H1 H' M → Rel c (D :: bs) F σ H' ε M := fun {H' acc M} hD o =>
    r1.hide (A := [D]) o (fun a ha => by rw [List.mem_singleton.mp ha]; exact nD) (fun a ha => by rw [List.mem_singleton.mp ha]; exact own_dic hD)
  have vis : ∀ {H' : Hp} {M : Nat}, Out c H1 H' M → Same (hid bs H1) (hid (D :: bs) H') := fun {H' M} o => vis_step (bs := bs) (B := [D]) o r.bin (fun a ha => by rw [List.mem_singleton.mp ha]; exact nD)
  refine it_by (J := J) (n := ds.length) (Body := fun x H' Nx => g x (L2.wipe σ vs) H' fun σ2 H2 => L2.wipe σ2 vs = L2.wipe σ vs ∧ tYes σ2 H2 fun b H3 => if b = true then tk σ2 H3 fun y H4 => tv σ2 H4 fun z H5 => ∃ kvs k, y = kV k ∧ H5 D = some (.dK kvs) ∧ kvs.length < sizeLine ∧ Nx (upd H5 D (.dK (putK kvs k z))) else Nx H3)
    (fun k H' => ∃ (kvs : List (Int × Int)) (M : Nat), H' D = some (.dK (kvs.map kvI)) ∧ I k kvs M ∧ kvs.length ≤ k ∧ Out c H1 H' M) ⟨[], N1, upd_same, i0, Nat.le_refl _, ⟨(Keep.refl _ _).new nD, fun a ha => (r1.box a ha).upd nD⟩⟩
    (fun k H' hk hP => ?_) (fun H' hP => ?_) (fun k x H' H'' hk' hP hy => ?_) (fun H' hP => ?_)
  · obtain ⟨kvs, M, hD, hI, hl, o⟩ := hP
    exact Y.go k H' _ hk (vis o)
  · obtain ⟨kvs, M, hD, hI, hl, o⟩ := hP
    exact Y.stop H' _ (vis o)
  · obtain ⟨kvs, M, hD, hI, hl, o⟩ := hP
    have rw0 := world hD o
    obtain ⟨sm, d, gd, dx⟩ := Y.yld k x H' H'' _ hk' (vis o) rw0.live hy
    have rw1 := rw0.ext sm
    obtain ⟨Fw, rw2⟩ := rel_wipe rw1 vs
    refine hg rw2 dx (step k d kvs M gd hI) fun F3 σ3 ε3 r3 e3 w3 => ⟨e3.trans (wipe_wipe σ vs), ?_⟩
    simp only [tYes, ↓reduceIte]
    refine hk r3 w3 fun u e M2 H3 w4 o3 he => ?_
    obtain ⟨x1, rfl, w4⟩ := dInt_some w4
    have ev := he.int_inv
    subst ev
    refine hv (r3.out o3) w4 fun u2 f M3 H4 w5 o4 hf => ?_
    obtain ⟨y1, rfl, w5⟩ := dInt_some w5
    have ev := hf.int_inv
    subst ev
    have oo : Out c H1 H4 M3 := ((o.ext sm).trans o3).trans o4
    have hD4 : H4 D = some (.dK (kvs.map kvI)) := out_get o4 Db (out_get o3 Db (sm _ _ hD))
    refine ⟨_, .inl x1, rfl, hD4, by rw [List.length_map]; exact Nat.lt_of_le_of_lt (show kvs.length ≤ 40000 by omega) (by decide), putI kvs x1 y1, M3, ?_, w5, ?_, ?_⟩
    · rw [putI_map]; exact upd_same
    · have := putI_len kvs x1 y1
      omega
    · exact ⟨oo.keep.putNew nD, fun a ha => (oo.box a ha).put (fun z => Db (z ▸ ha))⟩
  · obtain ⟨kvs, M, hD, hI, hl, o⟩ := hP
    exact q (.ref D) (.dic kvs) [D] M H' (fin kvs M hI) (o1.trans o) ⟨.dic hD, List.pairwise_singleton _ _, fun a ha => by rw [List.mem_singleton.mp ha]; exact out_none o1 nD⟩
/-! ### a dict walked: it's locked meanwhile -/
theorem Rel.lock {kvs : List (Int × Int)} (r : Rel c bs F σ H ε N) (hl : ε[i]? = some (.is (.dic kvs))) (od : Obj) : ∃ a bs' F', σ[i]? = some (some (.ref a)) ∧ H a = some (.dK (kvs.map kvI)) ∧ a ∈ bs ∧ a ∉ c.b ∧ (∀ x, x ∈ bs' ↔ x ∈ bs ∧ x ≠ a) ∧ Rel { c with P := hid [a] c.P } bs' F' σ (upd H a (.frz od (.dK (kvs.map kvI)))) (ε.set i (.dcF kvs)) N := by
  obtain ⟨y, A, F1, F2, q1, q2, rfl, q4⟩ := r.env.at hl
  cases q2 with
  | is q2 => cases q2 with
    | dic e =>
      rename_i a
      have ain : a ∈ F1 ++ ([a] ++ F2) := List.mem_append_right _ (List.mem_append_left _ (List.mem_singleton.mpr rfl))
      have abs := r.sub a ain
      let bs' := bs.filter fun x => !decide (x = a)
      have hs : ∀ x, x ∈ bs' ↔ x ∈ bs ∧ x ≠ a := fun x => by
        show x ∈ bs.filter _ ↔ _
        rw [List.mem_filter]
        simp
      refine ⟨a, bs', F1 ++ ([] ++ F2), q1, e, abs, r.fb a ain, hs, ?_⟩
      have aout : ∀ x ∈ F1 ++ F2, x ≠ a := fun x hx z => by
        subst z
        obtain ⟨_, p2, p3⟩ := List.nodup_append.mp r.nd
        rcases List.mem_append.mp hx with h | h
        · exact p3 x h x (List.mem_append_left _ (List.mem_singleton.mpr rfl)) rfl
        · exact (List.nodup_append.mp p2).2.2 x (List.mem_singleton.mpr rfl) x h rfl
      have kk : Same (hid bs H) (hid bs' (upd H a (.frz od (.dK (kvs.map kvI))))) := fun x o ex => by
        obtain ⟨h1, h2⟩ := hid_some ex
        rw [hid_out (fun z => h1 ((hs x).mp z).1), upd_ne (fun (z : x = a) => h1 (by rw [z]; exact abs))]
        exact h2
      have vs : hid bs' (upd H a (.frz od (.dK (kvs.map kvI)))) a = some (.frz od (.dK (kvs.map kvI))) := by
        rw [hid_out (fun z => ((hs a).mp z).2 rfl), upd_same]
      have env := q4 (cs := bs') (H' := upd H a (.frz od (.dK (kvs.map kvI)))) (y := some (.ref a)) (m := .dcF kvs) r.nt kk (fun x hx o e => by rw [upd_ne (aout x hx)]; exact e) (.dcF vs)
      rw [set_same q1] at env
      have hm : ∀ x ∈ F1 ++ ([] ++ F2), x ∈ F1 ++ ([a] ++ F2) ∧ x ≠ a := fun x hx => ⟨by
        rcases List.mem_append.mp hx with h | h
        · exact List.mem_append_left _ h
        · exact List.mem_append_right _ (List.mem_append_right _ h), aout x hx⟩
      refine ⟨env, nodup_mid r.nd List.nodup_nil (fun _ z => nomatch z), fun x hx => (hs x).mpr ⟨r.sub x (hm x hx).1, (hm x hx).2⟩, fun x hx => ?_, fun x hx => r.nb x (hm x hx).1, fun x hx => (hs x).mpr ⟨r.up x hx, fun z => r.nb a ain (z ▸ hx)⟩, r.bb, fun x hx => ?_, fun x hx => ?_, fun x hx xs z => ?_, fun x hx => ?_, fun x o e => ?_, r.vis.trans kk⟩
      · show hid [a] c.P x = none
        rw [hid_out (fun z => (hm x hx).2 (List.mem_singleton.mp z))]
        exact r.off x (hm x hx).1
      · show hid [a] c.P x = none
        unfold hid
        split
        · rfl
        · exact r.offb x hx
      · rw [upd_ne ((hs x).mp hx).2]; exact r.live x ((hs x).mp hx).1
      · rw [upd_ne ((hs x).mp hx).2] at z; exact r.nt x ((hs x).mp hx).1 xs z
      · exact (r.box x hx).put (fun z => r.fb a ain (z ▸ hx))
      · obtain ⟨h1, h2⟩ := hid_some e
        rw [upd_ne (fun (z : x = a) => h1 (List.mem_singleton.mpr z))]
        exact r.pin x o h2
/-- something new and clean, told of a dict that is walked -/
def wLk (i : Nat) (wt : WT) : WT := fun ε N R => atDO ε[i]? fun kvs => wt (ε.set i (.dcF kvs)) N fun t N' => t.clean = true ∧ R t N'
theorem sim_lk {te : TE} {wt : WT} (h : SimT te wt) : SimT (tLockE te) (wLk i wt) := fun {c bs F σ H ε N R Q} r w q => by
  obtain ⟨kvs, hl, w⟩ := atDO_some w
  obtain ⟨a, _, _, q1, q2, _, _, _, _⟩ := r.lock hl default
  refine ⟨a, _, q2, True.intro, fun od => ?_⟩
  obtain ⟨a2, bs', F', p1, p2, p3, p4, p5, r'⟩ := r.lock hl od
  obtain rfl := same_ref p1 q1
  refine h r' w fun v t A N' H' hR o n => ?_
  have Ka : H' a2 = some (.frz od (.dK (kvs.map kvI))) := out_get o p4 upd_same
  have aA : a2 ∉ A := fun z => by
    have := n.new a2 z
    rw [upd_same] at this
    cases this
  have o2 : Out c H (upd H' a2 (.dK (kvs.map kvI))) N' := ⟨fun x u e => by
    obtain ⟨h1, h2⟩ := hid_some e
    rw [hid_out h1]
    by_cases hx : x = a2
    · subst hx; rw [upd_same, ← h2, q2]
    · rw [upd_ne hx]
      exact out_get o h1 (by rw [upd_ne hx]; exact h2), fun x hx => (o.box x hx).put (fun z => p4 (z ▸ hx))⟩
  have new : ∀ x ∈ A, H x = none := fun x hx => by
    have := n.new x hx
    rw [upd_ne (fun (z : x = a2) => aA (by rw [← z]; exact hx))] at this
    exact this
  refine ⟨Ka, q v t A N' _ hR.2 o2 ⟨?_, n.nd, new⟩⟩
  have nt' : NoTup (A ++ bs) H' := own_notup n.rep.own fun x hx xs z => by
    by_cases hxa : x = a2
    · subst hxa; rw [Ka] at z; cases z
    · exact out_notup o r'.live r'.nt x ((p5 x).mpr ⟨hx, hxa⟩) xs z
  have c1 : Rep (A ++ bs) H' v t A := Rep.clean nt' n.rep hR.1
  refine Rep.chg nt' ?_ (fun x hx u e => by rw [upd_ne (fun (z : x = a2) => aA (by rw [← z]; exact hx))]; exact e) c1
  exact (Keep.refl _ _).put (List.mem_append_right _ p3)
def atF (o : Option Sl) (k : List (Int × Int) → Prop) : Prop := match o with
  | some (.dcF kvs) => k kvs
  | _ => False
theorem atF_some {o : Option Sl} {k : List (Int × Int) → Prop} (h : atF o k) : ∃ kvs, o = some (.dcF kvs) ∧ k kvs := by
  unfold atF at h
  split at h
  · exact ⟨_, rfl, h⟩
  · exact h.elim
theorem atF_is {kvs : List (Int × Int)} {k : List (Int × Int) → Prop} : atF (some (.dcF kvs)) k = k kvs := propext Iff.rfl
theorem Rel.frzAt {kvs : List (Int × Int)} (r : Rel c bs F σ H ε N) (h : ε[i]? = some (.dcF kvs)) : ∃ a o, σ[i]? = some (some (.ref a)) ∧ hid bs H a = some (.frz o (.dK (kvs.map kvI))) := by
  obtain ⟨y, A, F1, F2, q1, q2, _, _⟩ := r.env.at h
  cases q2 with
  | dcF e => exact ⟨_, _, q1, e⟩
theorem kvI_at {kvs : List (Int × Int)} {k : Nat} {x : Key} {y : V} (h : (kvs.map kvI)[k]? = some (x, y)) : ∃ p, kvs[k]? = some p ∧ x = .inl p.1 ∧ y = .int p.2 := by
  rw [List.getElem?_map] at h
  cases e : kvs[k]? with
  | none => rw [e] at h; cases h
  | some p =>
    rw [e] at h
    have h' : kvI p = (x, y) := Option.some.inj h
    exact ⟨p, rfl, (congrArg Prod.fst h').symm, (congrArg Prod.snd h').symm⟩
/-- for k in d; for k, v in d.items() -/
def wKeys (i : Nat) : WI := fun ε N R => atF ε[i]? fun kvs => R (kvs.map fun p => .int p.1) N
theorem sim_keys : SimI (iKeys (tVar i)) (wKeys i) := fun {c bs F σ H ε N R Q} r w q => by
  obtain ⟨kvs, hl, w⟩ := atF_some w
  obtain ⟨a, o, q1, q2⟩ := r.frzAt hl
  refine ⟨.ref a, q1, a, o, rfl, .inl ⟨_, (hid_some q2).2, q _ _ N H w r.self ⟨fun k H' gs hk kp => ?_, fun H' gs kp => ?_, fun k x H' H'' gs hk kp lv y => ?_⟩⟩⟩
  · exact ⟨(hid_some (kp _ _ q2)).2, by rw [List.length_map] at hk ⊢; exact hk⟩
  · exact ⟨(hid_some (kp _ _ q2)).2, by rw [List.length_map, List.length_map]; exact Nat.le_refl _⟩
  · obtain ⟨rfl, k1, v1, e1, rfl⟩ := y
    obtain ⟨p, e2, rfl, rfl⟩ := kvI_at e1
    exact ⟨Same.refl _, .int p.1, by rw [List.getElem?_map, e2]; rfl, .int _⟩
def wItems (i : Nat) : WI := fun ε N R => atF ε[i]? fun kvs => R (kvs.map fun p => .tuple [.int p.1, .int p.2]) N
theorem sim_items : SimI (iItems (tVar i)) (wItems i) := fun {c bs F σ H ε N R Q} r w q => by
  obtain ⟨kvs, hl, w⟩ := atF_some w
  obtain ⟨a, o, q1, q2⟩ := r.frzAt hl
  refine ⟨.ref a, q1, a, o, _, rfl, (hid_some q2).2, q _ _ N H w r.self ⟨fun k H' gs hk kp => ?_, fun H' gs kp => ?_, fun k x H' H'' gs hk kp lv y => ?_⟩⟩
  · exact ⟨(hid_some (kp _ _ q2)).2, by rw [List.length_map] at hk ⊢; exact hk⟩
  · exact ⟨(hid_some (kp _ _ q2)).2, by rw [List.length_map, List.length_map]; exact Nat.le_refl _⟩
  · obtain ⟨T, k1, v1, e1, rfl, nT, rfl⟩ := y
    obtain ⟨p, e2, rfl, rfl⟩ := kvI_at e1
    refine ⟨Ex.new nT, .tuple [.int p.1, .int p.2], by rw [List.getElem?_map, e2]; rfl, .tup (xs := [.int p.1, .int p.2]) (by rw [hid_out (fun z => lv T z nT), upd_same]; rfl) (.cons (.int _) (.cons (.int _) .nil))⟩
section
variable {D : EW} {R : PyData → Nat → Prop} {RT : T → Nat → Prop} {RI : List PyData → Nat → Prop}
theorem wDGet_eq : wDGet i we ε N R = atD ε[i]? fun kvs => we ε N fun d N1 => dInt d fun k => ∃ v, valI kvs k = some v ∧ R (.int v) N1 := propext Iff.rfl
theorem wDIn_eq : wDIn i we ε N R = atD ε[i]? fun kvs => we ε N fun d N1 => dInt d fun k => R (.bool (valI kvs k).isSome) N1 := propext Iff.rfl
theorem wDNotIn_eq : wDNotIn i we ε N R = atD ε[i]? fun kvs => we ε N fun d N1 => dInt d fun k => R (.bool (!(valI kvs k).isSome)) N1 := propext Iff.rfl
theorem wDGet1_eq : wDGet1 i we ε N R = atD ε[i]? fun kvs => we ε N fun d N1 => dInt d fun k => R (oInt? (valI kvs k)) N1 := propext Iff.rfl
theorem wD0_eq : wD0 ε N RT = RT (.dic []) N := propext Iff.rfl
theorem wDKeys_eq : wDKeys i ε N RT = atD ε[i]? fun kvs => RT (.lst (keysT (kvs.map (·.1)))) N := propext Iff.rfl
theorem wDSort_eq : wDSort i ε N RT = atD ε[i]? fun kvs => kvs.length < 64 ∧ ∀ ys : List Int, ys.Perm (kvs.map (·.1)) → ys.Pairwise (· ≤ ·) → RT (.lst (keysT ys)) N := propext Iff.rfl
theorem wDSet_eq : wDSet i wk wv D ε N = atDO ε[i]? fun kvs => wv ε N fun d N1 => dInt d fun v => wk ε N1 fun e N2 => dInt e fun k => kvs.length ≤ 100000 ∧ D.nx (ε.set i (.is (.dic (putI kvs k v)))) N2 := propext Iff.rfl
theorem wLk_eq : wLk i wt ε N RT = atDO ε[i]? fun kvs => wt (ε.set i (.dcF kvs)) N fun t N' => t.clean = true ∧ RT t N' := propext Iff.rfl
theorem wKeys_eq : wKeys i ε N RI = atF ε[i]? fun kvs => RI (kvs.map fun p => .int p.1) N := propext Iff.rfl
theorem wItems_eq : wItems i ε N RI = atF ε[i]? fun kvs => RI (kvs.map fun p => .tuple [.int p.1, .int p.2]) N := propext Iff.rfl
end
/-! ### statements: what is walked told to a name; y = x.pop(); a condition's two ends -/
theorem sim_lkS {te : TE} {j : Nat} {ws : WS} (h : SimS (tAsg (tLockE te) (gName j)) ws) : SimS (tLock (tAsg te (gName j))) ws := fun {c bs F σ H ε N DW D} r w m => by
  have k : tLockE te σ H fun v H' => D.nx (σ.set j (some v)) H' := h r w m
  exact k
def wPop0 (i : Nat) (wg : WG) : WS := fun D => onOwn i fun ts ε N => 0 < ts.length ∧ ∃ d, ts[ts.length - 1]? = some (.sh d) ∧ wg d (ε.set i (.is (.lst ts.dropLast))) fun ε' => D.nx ε' N
theorem erase_last {α : Type} : ∀ {xs : List α}, xs.eraseIdx (xs.length - 1) = xs.dropLast
  | [] => rfl
  | [_] => rfl
  | x :: y :: ys => by
    have h : (x :: y :: ys).length - 1 = (y :: ys).length - 1 + 1 := rfl
    rw [h, List.eraseIdx_cons_succ, erase_last]
    rfl
theorem sim_pop0 {K : PySem.W.Frag} {vs : List Nat} {g : TG} {wg : WG} (hg : SimG vs g wg) : SimS (tAsg (tBM0 K "list" rPop (tVar i)) g) (wPop0 i wg) := fun {c bs F σ H ε N DW D} r w m => by
  obtain ⟨ts, hl, hz, f, hf, w2⟩ := onOwn_some w
  obtain ⟨a2, vs2, A0, g1, g2, g3, g4, g5, g6, g7, g8, g9, g10, g11⟩ := r.mutate hl
  obtain ⟨v0, A1, Av, A2, p1, p2, p3, p4, p5⟩ := g3.split hf
  cases p2 with
  | sh hv =>
    have p3' : A0 = A1 ++ A2 := p3
    subst p3'
    obtain ⟨F', r2⟩ := g11 p4 g4 g5 fun x hx => .inl hx
    rw [erase_last] at r2
    rw [← g3.len, erase_last] at r2
    refine ⟨.ref a2, g1, .inl ⟨rfl, vs2, SqL.of g2⟩, a2, vs2, v0, rfl, rfl, g2, by rw [g3.len]; exact p1, ?_⟩
    refine hg r2 ?_ w2 fun F3 σ3 ε3 r3 _ w3 => m.nx r3 w3
    exact hv.mono ((Keep.refl _ _).put g6)
theorem sim_ifA {tt : TT} {w : WB} {ta tb : TE} {g : TG} {ws wu : WS} (h : SimB tt w) (ha : SimS (tAsg ta g) ws) (hb : SimS (tAsg tb g) wu) : SimS (tAsg (tIf tt ta tb) g) (wIfS w ws wu) := fun {c bs F σ H ε N DW D} r ww m => h r ww fun b N1 H1 w1 o1 => by
  cases b with
  | true => exact iteT (ha (r.out o1) w1 m)
  | false => exact iteF (hb (r.out o1) w1 m)
/-- x = x -/
def wSelf (i : Nat) : WS := fun D ε N => atIs ε[i]? fun _ => D.nx ε N
theorem sim_self : SimS (tAsg (tVar i) (gName i)) (wSelf i) := fun {c bs F σ H ε N DW D} r w m => by
  have w' : match ε[i]? with | some (.is t) => DW.nx ε N | _ => False := w
  split at w'
  · rename_i t hl
    obtain ⟨y, A, F1, F2, q1, q2, _, _⟩ := r.env.at hl
    cases q2 with
    | is q2 =>
      rename_i v
      refine ⟨v, q1, ?_⟩
      show D.nx (σ.set i (some v)) H
      rw [set_same q1]
      exact m.nx r w'
  · exact w'.elim
theorem wPop0_eq {wg : WG} {D : EW} : wPop0 i wg D ε N = atOwn ε[i]? fun ts => 0 < ts.length ∧ ∃ d, ts[ts.length - 1]? = some (.sh d) ∧ wg d (ε.set i (.is (.lst ts.dropLast))) fun ε' => D.nx ε' N := onOwn_eq
theorem wSelf_eq {D : EW} : wSelf i D ε N = atIs ε[i]? fun _ => D.nx ε N := propext Iff.rfl
end
/-- a name told a new dict at once -/
theorem ps_setDc {X : Cx} {k : Nat} {nm : Str} {pn : Pos} {ek ev et ei : Expr} {cs : List Expr} {scp : Scope} {own : List (Str × Nat)} {pc pz : Pos} {ti : TI} {tg : TG} {tc : TT} {tk tv : TE} (calm : X.calm = true) (nod : X.N.Nodup) (at_k : X.N[k]? = some nm) (loc : X.env.scope.names.lookup nm = some .local)
    (swap : swapsWith (.DictComp ek ev [⟨et, ei, cs, 0⟩] scp pc) (some (.Name nm pn)) pz.line X.env = pure true) (pi : PI X et ei ti) (blk : BlkOk X.N X.env.scope scp own)
    (pg : ∀ (s : Shared) (H : Hp) (C : Addr) (cl : List (Str × Addr)) (fp : List Addr), PG (X.blk s H scp (compEnvC scp cl C X.env) fp) et tg) (pt : ∀ (s : Shared) (H : Hp) (C : Addr) (cl : List (Str × Addr)) (fp : List Addr), PTs (X.blk s H scp (compEnvC scp cl C X.env) fp) cs tc)
    (pk : ∀ (s : Shared) (H : Hp) (C : Addr) (cl : List (Str × Addr)) (fp : List Addr), PE (X.blk s H scp (compEnvC scp cl C X.env) fp) ek tk) (pv : ∀ (s : Shared) (H : Hp) (C : Addr) (cl : List (Str × Addr)) (fp : List Addr), PE (X.blk s H scp (compEnvC scp cl C X.env) fp) ev tv)
    (fold : ∀ z, foldedSetIterable ei X.env z = pure z := by intro _; rfl) : PS X (.Assign [.Name nm pn] (.DictComp ek ev [⟨et, ei, cs, 0⟩] scp pc) pz) (tAsg (tDc ti tg tc tk tv (own.map (·.2))) (gName k)) := by
  constructor
  intro pins s σ H D inv hyp
  rw [exec_Assign_Name_used _ _ _ _ swap]
  apply wpAny_bind
  apply wpAny_standAt
  apply wpAny_bind
  have told : tDc ti tg tc tk tv (own.map (·.2)) σ H (fun x H1 => D.nx (σ.set k (some x)) H1) := hyp
  show wpAny _ X.A (do let _ ← comprehension (.DictComp ek ev [⟨et, ei, cs, 0⟩] scp pc) scp X.env (firstIterPos [⟨et, ei, cs, 0⟩] pc) newDict false (eval ei X.env) (some (assign (.Name nm pn) X.env))) _ _ s
  apply wpAny_bind
  refine thn (dc_core (Qf := fun _ z => SP X pins D .next z) calm nod inv pi blk pg pt pk pv fold told ?_) fun _ z hz => wpAny_pure (wpAny_pure hz)
  intro L C z m H' inv2 post ns fp
  show wpAny _ _ (assign (.Name nm pn) X.env (.ref L)) _ _ _
  apply wpAny_assign_Name
  refine store_ok2 (v := V.ref L) inv2 nod at_k (.inl loc) rfl ?_ (.inr loc)
  intro z2 inv3 ex
  obtain ⟨a, same, wh⟩ := ex
  obtain ⟨f0, f1, _, f3, f4, f5⟩ := fp
  have ne : C ≠ a := by
    cases wh with
    | inl q => rw [q]; exact f1
    | inr q => exact fun e => f4 nm a q e.symm
  refine ⟨m, ns.sameBut same ne, ?_⟩
  intro h3 same3
  have inv4 := inv3.turned (t' := z2.toks) (fun b o hb e => (same3.2 b hb).trans e) f0 f1 f3 f4 f5
  exact ⟨_, H', inv4, post⟩
theorem swD_true {ek ev : Expr} {gs : List Comprehension} {scp : Scope} {p q : Pos} {nm : Str} {l : Nat} {E : PySem.Env} (fk : E.scope.kind = .function) (fl : E.scope.names.lookup nm = some .local) (same : (q.line == p.line) = true)
    (no : (scp.names.any fun (n, k) => n == nm && (k == .local || k == .cell)) = false) : swapsWith (.DictComp ek ev gs scp p) (some (.Name nm q)) l E = pure true := by
  have h1 : E.kindOf nm = some .local := fl
  have h2 : E.blockKind = .function := by
    unfold Env.blockKind
    rw [fk]
    rfl
  unfold swapsWith
  simp only [h2, h1, no, Expr.pos, same]
  rfl
end Cg

set_option Elab.async false
set_option linter.all false
set_option maxRecDepth 100000
set_option maxHeartbeats 1000000
namespace Cg
open PySem PySem.Spec PyProof.Rows L2 Evl
/-! ### tables of pairs of numbers: keys and what stands at them -/
def cN (p : Pr) : Int × Int := ((p.1 : Int), (p.2 : Int))
def valN (L : List Pr) (k : Nat) : Option Nat := (L.find? fun p => decide (p.1 = k)).map (·.2)
def putN (L : List Pr) (k v : Nat) : List Pr :=
  if (L.any fun p => decide (p.1 = k)) = true then L.map (fun p => if p.1 = k then (p.1, v) else p) else L ++ [(k, v)]
theorem nat_dec {a b : Nat} : decide ((a : Int) = (b : Int)) = decide (a = b) := by
  by_cases h : a = b
  · subst h; simp
  · rw [decide_eq_false h, decide_eq_false (fun z => h (by omega))]
theorem valI_cN : ∀ (L : List Pr) (k : Nat), valI (L.map cN) (k : Int) = (valN L k).map fun v : Nat => (v : Int)
  | [], _ => rfl
  | p :: L, k => by
    by_cases h : p.1 = k
    · simp [valI, valN, List.find?_cons, cN, h]
    · have ih := valI_cN L k
      have h' : ¬ ((p.1 : Int) = (k : Int)) := fun z => h (by omega)
      simp only [valI, valN, List.map_cons, List.find?_cons, cN, h, h', decide_false] at ih ⊢
      exact ih
theorem any_cN : ∀ (L : List Pr) (k : Nat), ((L.map cN).any fun p => decide (p.1 = (k : Int))) = L.any fun p => decide (p.1 = k)
  | [], _ => rfl
  | p :: L, k => by
    rw [List.map_cons, List.any_cons, List.any_cons, any_cN L k]
    show (decide ((p.1 : Int) = (k : Int)) || _) = _
    rw [nat_dec]
theorem putI_cN (L : List Pr) (k v : Nat) : putI (L.map cN) (k : Int) (v : Int) = (putN L k v).map cN := by
  unfold putI putN
  rw [any_cN]
  split
  · rw [List.map_map, List.map_map]
    refine List.map_congr_left fun p _ => ?_
    show (if (p.1 : Int) = (k : Int) then ((p.1 : Int), (v : Int)) else cN p) = cN (if p.1 = k then (p.1, v) else p)
    by_cases h : p.1 = k
    · rw [if_pos h, if_pos (by omega)]; rfl
    · rw [if_neg h, if_neg (fun z => h (by omega))]
  · rw [List.map_append]; rfl
def Ks (L : List Pr) : List Nat := L.map (·.1)
def Vs (L : List Pr) : List Nat := L.map (·.2)
theorem mem_ks {L : List Pr} {k : Nat} : k ∈ Ks L ↔ ∃ v, (k, v) ∈ L := by
  unfold Ks
  rw [List.mem_map]
  exact ⟨fun ⟨p, h, e⟩ => ⟨p.2, by rw [← e]; exact h⟩, fun ⟨v, h⟩ => ⟨_, h, rfl⟩⟩
theorem mem_vs {L : List Pr} {v : Nat} : v ∈ Vs L ↔ ∃ k, (k, v) ∈ L := by
  unfold Vs
  rw [List.mem_map]
  exact ⟨fun ⟨p, h, e⟩ => ⟨p.1, by rw [← e]; exact h⟩, fun ⟨v, h⟩ => ⟨_, h, rfl⟩⟩
theorem val_none {L : List Pr} {k : Nat} : valN L k = none ↔ k ∉ Ks L := by
  unfold valN
  rw [Option.map_eq_none_iff, List.find?_eq_none, mem_ks]
  constructor
  · intro h ⟨v, hv⟩
    exact h _ hv (by simp)
  · intro h p hp
    simp only [decide_eq_true_eq]
    exact fun e => h ⟨p.2, by rw [← e]; exact hp⟩
theorem key_fun {L : List Pr} (hn : (Ks L).Nodup) {k v u : Nat} (h1 : (k, v) ∈ L) (h2 : (k, u) ∈ L) : v = u := by
  induction L with
  | nil => cases h1
  | cons p L ih =>
    have hn' : (p.1 :: Ks L).Nodup := hn
    obtain ⟨n1, n2⟩ := List.nodup_cons.mp hn'
    rcases List.mem_cons.mp h1 with e1 | h1'
    · rcases List.mem_cons.mp h2 with e2 | h2'
      · rw [← e1] at e2; exact (congrArg Prod.snd e2).symm
      · exact absurd (mem_ks.mpr ⟨u, h2'⟩) (by rw [← e1] at n1; exact n1)
    · rcases List.mem_cons.mp h2 with e2 | h2'
      · exact absurd (mem_ks.mpr ⟨v, h1'⟩) (by rw [← e2] at n1; exact n1)
      · exact ih n2 h1' h2'
theorem val_fun {L : List Pr} (hn : (Vs L).Nodup) {k j v : Nat} (h1 : (k, v) ∈ L) (h2 : (j, v) ∈ L) : k = j := by
  induction L with
  | nil => cases h1
  | cons p L ih =>
    have hn' : (p.2 :: Vs L).Nodup := hn
    obtain ⟨n1, n2⟩ := List.nodup_cons.mp hn'
    rcases List.mem_cons.mp h1 with e1 | h1'
    · rcases List.mem_cons.mp h2 with e2 | h2'
      · rw [← e1] at e2; exact (congrArg Prod.fst e2).symm
      · exact absurd (mem_vs.mpr ⟨j, h2'⟩) (by rw [← e1] at n1; exact n1)
    · rcases List.mem_cons.mp h2 with e2 | h2'
      · exact absurd (mem_vs.mpr ⟨k, h1'⟩) (by rw [← e2] at n1; exact n1)
      · exact ih n2 h1' h2'
theorem val_some {L : List Pr} (hn : (Ks L).Nodup) {k v : Nat} : valN L k = some v ↔ (k, v) ∈ L := by
  constructor
  · intro h
    unfold valN at h
    obtain ⟨p, hp, e⟩ := Option.map_eq_some_iff.mp h
    have h1 := List.mem_of_find?_eq_some hp
    have h2 : p.1 = k := by simpa using List.find?_some hp
    rw [← h2, ← e]
    exact h1
  · intro h
    cases e : valN L k with
    | none => exact absurd (mem_ks.mpr ⟨v, h⟩) (val_none.mp e)
    | some u =>
      unfold valN at e
      obtain ⟨p, hp, e'⟩ := Option.map_eq_some_iff.mp e
      have h1 := List.mem_of_find?_eq_some hp
      have h2 : p.1 = k := by simpa using List.find?_some hp
      have h3 : (k, u) ∈ L := by rw [← h2, ← e']; exact h1
      rw [key_fun hn h h3]
theorem val_isSome {L : List Pr} {k : Nat} : (valN L k).isSome = true ↔ k ∈ Ks L := by
  cases h : valN L k with
  | none => simp only [Option.isSome_none, Bool.false_eq_true, false_iff]; exact val_none.mp h
  | some v =>
    simp only [Option.isSome_some, true_iff]
    exact Classical.byContradiction fun z => by rw [val_none.mpr z] at h; cases h
theorem any_ks {L : List Pr} {k : Nat} : (L.any fun p => decide (p.1 = k)) = true ↔ k ∈ Ks L := by
  rw [List.any_eq_true]
  unfold Ks
  rw [List.mem_map]
  exact ⟨fun ⟨p, h, e⟩ => ⟨p, h, by simpa using e⟩, fun ⟨p, h, e⟩ => ⟨p, h, by simpa using e⟩⟩
theorem put_new {L : List Pr} {k v : Nat} (h : k ∉ Ks L) : putN L k v = L ++ [(k, v)] := if_neg fun z => h (any_ks.mp z)
theorem put_old {L : List Pr} {k v : Nat} (h : k ∈ Ks L) : putN L k v = L.map fun p => if p.1 = k then (p.1, v) else p := if_pos (any_ks.mpr h)
theorem put_ks_old {L : List Pr} {k v : Nat} (h : k ∈ Ks L) : Ks (putN L k v) = Ks L := by
  rw [put_old h]
  unfold Ks
  rw [List.map_map]
  refine List.map_congr_left fun p _ => ?_
  show (if p.1 = k then (p.1, v) else p).1 = p.1
  split <;> rfl
theorem put_nodup {L : List Pr} {k v : Nat} (hn : (Ks L).Nodup) : (Ks (putN L k v)).Nodup := by
  by_cases h : k ∈ Ks L
  · rw [put_ks_old h]; exact hn
  · rw [put_new h]
    unfold Ks
    rw [List.map_append]
    refine List.nodup_append.mpr ⟨hn, List.pairwise_singleton _ _, fun a ha b hb => ?_⟩
    rw [List.mem_singleton.mp hb]
    exact fun e => h (by have e' : a = k := e; rw [← e']; exact ha)
theorem mem_put {L : List Pr} {k v : Nat} {p : Pr} : p ∈ putN L k v ↔ p = (k, v) ∨ (p.1 ≠ k ∧ p ∈ L) := by
  by_cases h : k ∈ Ks L
  · rw [put_old h, List.mem_map]
    constructor
    · rintro ⟨q, hq, e⟩
      by_cases hk : q.1 = k
      · rw [if_pos hk] at e; left; rw [← e, hk]
      · rw [if_neg hk] at e; right; rw [← e]; exact ⟨hk, hq⟩
    · rintro (rfl | ⟨h1, h2⟩)
      · obtain ⟨u, hu⟩ := mem_ks.mp h
        exact ⟨_, hu, if_pos rfl⟩
      · exact ⟨p, h2, if_neg h1⟩
  · rw [put_new h, List.mem_append, List.mem_singleton]
    constructor
    · rintro (h1 | h1)
      · exact .inr ⟨fun e => h (by rw [← e]; exact mem_ks.mpr ⟨p.2, h1⟩), h1⟩
      · exact .inl h1
    · rintro (h1 | h1)
      · exact .inr h1
      · exact .inl h1.2
theorem put_len_new {L : List Pr} {k v : Nat} (h : k ∉ Ks L) : (putN L k v).length = L.length + 1 := by rw [put_new h, List.length_append]; rfl
theorem put_len_old {L : List Pr} {k v : Nat} (h : k ∈ Ks L) : (putN L k v).length = L.length := by rw [put_old h, List.length_map]
theorem put_len_le {L : List Pr} {k v : Nat} : (putN L k v).length ≤ L.length + 1 := by
  by_cases h : k ∈ Ks L
  · rw [put_len_old h]; omega
  · rw [put_len_new h]; omega
/-! ### covers -/
theorem apart_iff {P : List Pr} : Apart P ↔ (Ks P).Nodup ∧ (Vs P).Nodup := by
  unfold Apart Ks Vs List.Nodup
  rw [List.pairwise_map, List.pairwise_map]
  exact ⟨fun h => ⟨h.imp fun h => h.1, h.imp fun h => h.2⟩, fun h => h.1.and h.2⟩
def Cov (M : Mat) (n : Nat) (X Y : List Nat) : Prop := ∀ i j, i < n → cell M i j = 1 → i ∈ X ∨ j ∈ Y
theorem cov_le {M : Mat} {n : Nat} {X Y : List Nat} {P : List Pr} (hc : Cov M n X Y) (ha : Apart P) (hp : ∀ p ∈ P, p.1 < n ∧ cell M p.1 p.2 = 1) : P.length ≤ X.length + Y.length := by
  have h1 : (P.map fun p => if p.1 ∈ X then (Sum.inl p.1 : Nat ⊕ Nat) else Sum.inr p.2).Nodup := by
    refine List.pairwise_map.mpr (ha.imp fun {p q} h e => ?_)
    by_cases hx : p.1 ∈ X <;> by_cases hy : q.1 ∈ X
    · rw [if_pos hx, if_pos hy] at e; exact h.1 (Sum.inl.inj e)
    · rw [if_pos hx, if_neg hy] at e; cases e
    · rw [if_neg hx, if_pos hy] at e; cases e
    · rw [if_neg hx, if_neg hy] at e; exact h.2 (Sum.inr.inj e)
  have h2 := sub_len (ys := X.map Sum.inl ++ Y.map Sum.inr) h1 fun z hz => by
    obtain ⟨p, hpP, rfl⟩ := List.mem_map.mp hz
    by_cases hx : p.1 ∈ X
    · rw [if_pos hx]
      exact List.mem_append_left _ (List.mem_map_of_mem hx)
    · rw [if_neg hx]
      exact List.mem_append_right _ (List.mem_map_of_mem ((hc p.1 p.2 (hp p hpP).1 (hp p hpP).2).resolve_left hx))
  rw [List.length_map, List.length_append, List.length_map, List.length_map] at h2
  exact h2
/-! ### ways: each outlet by an inlet that asks for it, one that is free or that comes of an outlet further ahead -/
def Way (M : Mat) (P : List Pr) (S : Nat → Prop) (L : List Pr) (ρ : Nat → Nat) : Prop := ∀ p ∈ L, cell M p.2 p.1 = 1 ∧ (S p.2 ∨ ∃ o, (p.2, o) ∈ P ∧ o ∈ Ks L ∧ ρ o < ρ p.1)
theorem way_add {M : Mat} {P : List Pr} {S : Nat → Prop} {L : List Pr} {ρ : Nat → Nat} {o i r : Nat} (h : Way M P S L ρ) (ho : o ∉ Ks L) (hc : cell M i o = 1) (hi : S i ∨ ∃ o', (i, o') ∈ P ∧ o' ∈ Ks L ∧ ρ o' < r) : Way M P S (L ++ [(o, i)]) fun x => if x = o then r else ρ x := by
  intro p hp
  have hk : ∀ {x}, x ∈ Ks L → x ∈ Ks (L ++ [(o, i)]) := fun {x} hx => by
    unfold Ks
    rw [List.map_append]
    exact List.mem_append_left _ hx
  rcases List.mem_append.mp hp with hp | hp
  · obtain ⟨h1, h2⟩ := h p hp
    refine ⟨h1, h2.imp id fun ⟨o', a, b, c⟩ => ⟨o', a, hk b, ?_⟩⟩
    have n1 : o' ≠ o := fun e => ho (e ▸ b)
    have n2 : p.1 ≠ o := fun e => ho (e ▸ mem_ks.mpr ⟨p.2, hp⟩)
    show (if o' = o then r else ρ o') < if p.1 = o then r else ρ p.1
    rw [if_neg n1, if_neg n2]
    exact c
  · rw [List.mem_singleton.mp hp]
    refine ⟨hc, hi.imp id fun ⟨o', a, b, c⟩ => ⟨o', a, hk b, ?_⟩⟩
    have n1 : o' ≠ o := fun e => ho (e ▸ b)
    show (if o' = o then r else ρ o') < if o = o then r else ρ o
    rw [if_neg n1, if_pos rfl]
    exact c
/-! pairs taken over, inlets for keys -/
structure Aug (M : Mat) (P L : List Pr) (ρ : Nat → Nat) (D : List Pr) (o : Nat) : Prop where
  ks : (Ks D).Nodup
  vs : (Vs D).Nodup
  ask : ∀ p ∈ D, cell M p.1 p.2 = 1
  inL : o ∈ Ks L
  out : o ∉ Vs D
  keys : ∀ i, i ∈ Ks D ↔ i ∈ Ks P
  vals : ∀ j, j ∈ Vs P → j ∈ Vs D ∨ j = o
  old : ∀ p ∈ P, p ∈ D ∨ ρ o ≤ ρ p.2
  len : D.length = P.length
structure Grown (M : Mat) (P D : List Pr) : Prop where
  ks : (Ks D).Nodup
  vs : (Vs D).Nodup
  ask : ∀ p ∈ D, cell M p.1 p.2 = 1
  keys : ∀ i, i ∈ Ks P → i ∈ Ks D
  vals : ∀ j, j ∈ Vs P → j ∈ Vs D
  len : D.length = P.length + 1
theorem vs_put {D : List Pr} (hk : (Ks D).Nodup) (hv : (Vs D).Nodup) {i o : Nat} (ho : o ∉ Vs D) : (Vs (putN D i o)).Nodup := by
  by_cases h : i ∈ Ks D
  · rw [put_old h]
    show ((D.map fun p => if p.1 = i then (p.1, o) else p).map (·.2)).Nodup
    rw [List.map_map]
    have hp : D.Pairwise fun p q => p.1 ≠ q.1 ∧ p.2 ≠ q.2 := apart_iff.mpr ⟨hk, hv⟩
    have hm : D.Pairwise fun p q => (p ∈ D ∧ q ∈ D) ∧ (p.1 ≠ q.1 ∧ p.2 ≠ q.2) := List.pairwise_iff_forall_sublist.mpr fun {a b} s => ⟨⟨s.subset (List.mem_cons_self ..), s.subset (List.mem_cons_of_mem _ (List.mem_cons_self ..))⟩, List.pairwise_iff_forall_sublist.mp hp s⟩
    refine List.pairwise_map.mpr (hm.imp fun {p q} hpq => ?_)
    show (if p.1 = i then (p.1, o) else p).2 ≠ (if q.1 = i then (q.1, o) else q).2
    by_cases h1 : p.1 = i <;> by_cases h2 : q.1 = i
    · exact absurd (h1.trans h2.symm) hpq.2.1
    · rw [if_pos h1, if_neg h2]
      exact fun e => ho (mem_vs.mpr ⟨q.1, by show (q.1, o) ∈ D; rw [show o = q.2 from e]; exact hpq.1.2⟩)
    · rw [if_neg h1, if_pos h2]
      exact fun e => ho (mem_vs.mpr ⟨p.1, by show (p.1, o) ∈ D; rw [show o = p.2 from e.symm]; exact hpq.1.1⟩)
    · rw [if_neg h1, if_neg h2]; exact hpq.2.2
  · rw [put_new h]
    show ((D ++ [(i, o)]).map (·.2)).Nodup
    rw [List.map_append]
    refine List.nodup_append.mpr ⟨hv, List.pairwise_singleton _ _, fun a ha b hb => ?_⟩
    rw [List.mem_singleton.mp hb]
    exact fun e => ho (by have e' : a = o := e; rw [← e']; exact ha)
theorem aug_first {M : Mat} {P L : List Pr} {ρ : Nat → Nat} {o : Nat} (hP : Apart P) (ha : ∀ p ∈ P, cell M p.1 p.2 = 1) (h1 : o ∈ Ks L) (h2 : o ∉ Vs P) : Aug M P L ρ P o := ⟨(apart_iff.mp hP).1, (apart_iff.mp hP).2, ha, h1, h2, fun _ => Iff.rfl, fun _ h => .inl h, fun _ h => .inl h, rfl⟩
/-- one step -/
theorem aug_step {M : Mat} {P L : List Pr} {ρ : Nat → Nat} {S : Nat → Prop} {D : List Pr} {o : Nat} (hP : Apart P) (hS : ∀ i, S i → i ∉ Ks P) (hL : (Ks L).Nodup) (w : Way M P S L ρ) (A : Aug M P L ρ D o) :
    ∃ i, valN L o = some i ∧ ((valN D i = none ∧ Grown M P (putN D i o)) ∨ ∃ o', valN D i = some o' ∧ ρ o' < ρ o ∧ Aug M P L ρ (putN D i o) o') := by
  obtain ⟨i, hi⟩ := mem_ks.mp A.inL
  obtain ⟨hc, hw⟩ := w (o, i) hi
  have ask' : ∀ p ∈ putN D i o, cell M p.1 p.2 = 1 := fun p hp => by
    rcases mem_put.mp hp with rfl | ⟨_, h⟩
    · exact hc
    · exact A.ask p h
  refine ⟨i, (val_some hL).mpr hi, ?_⟩
  rcases hw with hs | ⟨o', h1, h2, h3⟩
  · have ni : i ∉ Ks D := fun z => hS i hs ((A.keys i).mp z)
    refine .inl ⟨val_none.mpr ni, put_nodup A.ks, vs_put A.ks A.vs A.out, ask', fun x hx => ?_, fun j hj => ?_, by rw [put_len_new ni, A.len]⟩
    · obtain ⟨v, hv⟩ := mem_ks.mp ((A.keys x).mpr hx)
      exact mem_ks.mpr ⟨v, mem_put.mpr (.inr ⟨fun e => ni (by have e' : x = i := e; rw [← e']; exact mem_ks.mpr ⟨v, hv⟩), hv⟩)⟩
    · rcases A.vals j hj with h | rfl
      · obtain ⟨x, hx⟩ := mem_vs.mp h
        exact mem_vs.mpr ⟨x, mem_put.mpr (.inr ⟨fun e => ni (by have e' : x = i := e; rw [← e']; exact mem_ks.mpr ⟨j, hx⟩), hx⟩)⟩
      · exact mem_vs.mpr ⟨i, mem_put.mpr (.inl rfl)⟩
  · have inD : (i, o') ∈ D := (A.old (i, o') h1).resolve_right (by show ¬ ρ o ≤ ρ o'; have h3' : ρ o' < ρ o := h3; omega)
    have ki : i ∈ Ks D := mem_ks.mpr ⟨o', inD⟩
    have no : o' ≠ o := fun e => by rw [e] at h3; exact Nat.lt_irrefl _ h3
    refine .inr ⟨o', (val_some A.ks).mpr inD, h3, put_nodup A.ks, vs_put A.ks A.vs A.out, ask', h2, fun z => ?_, fun x => by rw [put_ks_old ki]; exact A.keys x, fun j hj => ?_, fun p hp => ?_, by rw [put_len_old ki]; exact A.len⟩
    · obtain ⟨x, hx⟩ := mem_vs.mp z
      rcases mem_put.mp hx with e | ⟨n, h⟩
      · exact no (congrArg Prod.snd e)
      · exact n (val_fun A.vs h inD)
    · rcases A.vals j hj with h | rfl
      · obtain ⟨x, hx⟩ := mem_vs.mp h
        by_cases hxi : x = i
        · rw [hxi] at hx
          exact .inr (key_fun A.ks hx inD)
        · exact .inl (mem_vs.mpr ⟨x, mem_put.mpr (.inr ⟨hxi, hx⟩)⟩)
      · exact .inl (mem_vs.mpr ⟨i, mem_put.mpr (.inl rfl)⟩)
    · have h3' : ρ o' < ρ o := h3
      rcases A.old p hp with h | h
      · by_cases hpi : p.1 = i
        · right
          have e : p.2 = o' := key_fun A.ks (show (p.1, p.2) ∈ D from h) (by rw [hpi]; exact inD)
          rw [e]
          exact Nat.le_refl _
        · exact .inl (mem_put.mpr (.inr ⟨hpi, h⟩))
      · exact .inr (by omega)
/-! the cover of what is reached -/
structure Shut (M : Mat) (n : Nat) (P L : List Pr) : Prop where
  ks : (Ks L).Nodup
  free : ∀ i j, i < n → i ∉ Ks P → cell M i j = 1 → j ∈ Ks L
  back : ∀ i o j, (i, o) ∈ P → o ∈ Ks L → cell M i j = 1 → j ∈ Ks L
def coverX (P L : List Pr) : List Nat := Ks (P.filter fun p => !(Ks L).contains p.2)
theorem shut_cov {M : Mat} {n : Nat} {P L : List Pr} (h : Shut M n P L) : Cov M n (coverX P L) (Ks L) := fun i j hi hc => by
  by_cases hk : i ∈ Ks P
  · obtain ⟨o, ho⟩ := mem_ks.mp hk
    by_cases hl : o ∈ Ks L
    · exact .inr (h.back i o j ho hl hc)
    · refine .inl (mem_ks.mpr ⟨o, List.mem_filter.mpr ⟨ho, ?_⟩⟩)
      show (!(Ks L).contains o) = true
      rw [Bool.not_eq_true', ← Bool.not_eq_true, List.contains_iff_mem]
      exact hl
  · exact .inr (h.free i j hi hk hc)
theorem filter_two {α : Type} (f : α → Bool) : ∀ xs : List α, (xs.filter f).length + (xs.filter fun x => !f x).length = xs.length
  | [] => rfl
  | x :: xs => by
    have ih := filter_two f xs
    cases h : f x with
    | true => rw [List.filter_cons_of_pos h, List.filter_cons_of_neg (by rw [h]; decide), List.length_cons, List.length_cons]; omega
    | false => rw [List.filter_cons_of_neg (by rw [h]; decide), List.filter_cons_of_pos (by rw [h]; rfl), List.length_cons, List.length_cons]; omega
theorem shut_size {M : Mat} {n : Nat} {P L : List Pr} (h : Shut M n P L) (hP : Apart P) (hv : ∀ o ∈ Ks L, o ∈ Vs P) : (coverX P L).length + (Ks L).length = P.length := by
  have e := filter_two (fun p : Pr => (Ks L).contains p.2) P
  have e1 : (coverX P L).length = (P.filter fun p => !(Ks L).contains p.2).length := by unfold coverX Ks; rw [List.length_map]
  have vn := (apart_iff.mp hP).2
  have a1 : (Ks L).length ≤ (Vs (P.filter fun p => (Ks L).contains p.2)).length := sub_len h.ks fun o ho => by
    obtain ⟨i, hi⟩ := mem_vs.mp (hv o ho)
    exact mem_vs.mpr ⟨i, List.mem_filter.mpr ⟨hi, List.contains_iff_mem.mpr ho⟩⟩
  have a2 : (Vs (P.filter fun p => (Ks L).contains p.2)).length ≤ (Ks L).length := sub_len (List.Pairwise.sublist ((List.filter_sublist).map _) vn) fun o ho => by
    obtain ⟨i, hi⟩ := mem_vs.mp ho
    exact List.contains_iff_mem.mp (List.mem_filter.mp hi).2
  have e2 : (Vs (P.filter fun p => (Ks L).contains p.2)).length = (P.filter fun p => (Ks L).contains p.2).length := by unfold Vs; rw [List.length_map]
  omega
/-! ### seats: outlets for keys -/
/-- E: who sits where ahead of the change; o is to be given up, what stands at it is no more its own -/
structure Sea (M : Mat) (E0 L : List Pr) (ρ : Nat → Nat) (E : List Pr) (o : Nat) : Prop where
  ks : (Ks E).Nodup
  inj : ∀ j1 j2 i, (j1, i) ∈ E → (j2, i) ∈ E → j1 ≠ o → j2 ≠ o → j1 = j2
  ask : ∀ p ∈ E, cell M p.2 p.1 = 1
  inL : o ∈ Ks L
  stale : ∀ i, (o, i) ∈ E → (o, i) ∈ E0
  ins : ∀ i, (∃ j, j ≠ o ∧ (j, i) ∈ E) ↔ i ∈ Vs E0
  old : ∀ p ∈ E0, (p ∈ E ∧ p.1 ≠ o) ∨ ρ o ≤ ρ p.1
  len : (E.length = E0.length ∧ o ∉ Ks E) ∨ (E.length = E0.length + 1 ∧ o ∈ Ks E)
/-- who sits where, rightly: seats below n -/
structure Seat (M : Mat) (n : Nat) (E : List Pr) : Prop where
  ks : (Ks E).Nodup
  vs : (Vs E).Nodup
  ask : ∀ p ∈ E, p.2 < n ∧ cell M p.2 p.1 = 1
def flipP (E : List Pr) : List Pr := E.map fun p => (p.2, p.1)
theorem mem_flip {E : List Pr} {i j : Nat} : (i, j) ∈ flipP E ↔ (j, i) ∈ E := by
  unfold flipP
  rw [List.mem_map]
  constructor
  · rintro ⟨p, hp, e⟩
    have e1 : p.2 = i := congrArg Prod.fst e
    have e2 : p.1 = j := congrArg Prod.snd e
    rw [← e1, ← e2]
    exact hp
  · exact fun h => ⟨_, h, rfl⟩
theorem ks_flip (E : List Pr) : Ks (flipP E) = Vs E := by unfold Ks Vs flipP; rw [List.map_map]; rfl
theorem vs_flip (E : List Pr) : Vs (flipP E) = Ks E := by unfold Ks Vs flipP; rw [List.map_map]; rfl
theorem sea_first {M : Mat} {n : Nat} {E L : List Pr} {ρ : Nat → Nat} {o : Nat} (s : Seat M n E) (h1 : o ∈ Ks L) (h2 : o ∉ Ks E) : Sea M E L ρ E o := by
  have ne : ∀ {p : Pr}, p ∈ E → p.1 ≠ o := fun {p} hp e => h2 (e ▸ mem_ks.mpr ⟨p.2, hp⟩)
  exact ⟨s.ks, fun j1 j2 i a b _ _ => val_fun s.vs a b, fun p hp => (s.ask p hp).2, h1, fun i hi => hi, fun i => ⟨fun ⟨j, _, hj⟩ => mem_vs.mpr ⟨j, hj⟩, fun h => (mem_vs.mp h).imp fun j hj => ⟨ne hj, hj⟩⟩, fun p hp => .inl ⟨hp, ne hp⟩, .inl ⟨rfl, h2⟩⟩
/-- one step: the inlet by which o was come to; whether another outlet is left by it -/
theorem sea_step {M : Mat} {k : Nat} {E0 L : List Pr} {ρ : Nat → Nat} {E : List Pr} {o : Nat} (s0 : Seat M k E0) (hk : k ∉ Vs E0) (hL : (Ks L).Nodup) (w : Way M (flipP E0) (fun i => i = k) L ρ) (A : Sea M E0 L ρ E o) :
    ∃ i, valN L o = some i ∧ (((∀ j, (j, i) ∉ E) ∧ Seat M (k + 1) (putN E o i) ∧ (putN E o i).length = E0.length + 1) ∨
      ∃ o', (∀ j, (j, i) ∈ E ↔ j = o') ∧ ρ o' < ρ o ∧ Sea M E0 L ρ (putN E o i) o') := by
  obtain ⟨i, hi⟩ := mem_ks.mp A.inL
  obtain ⟨hc, hw⟩ := w (o, i) hi
  have ask' : ∀ p ∈ putN E o i, cell M p.2 p.1 = 1 := fun p hp => by
    rcases mem_put.mp hp with rfl | ⟨_, h⟩
    · exact hc
    · exact A.ask p h
  have len' : (putN E o i).length = E0.length + 1 := by
    rcases A.len with ⟨h1, h2⟩ | ⟨h1, h2⟩
    · rw [put_len_new h2, h1]
    · rw [put_len_old h2, h1]
  refine ⟨i, (val_some hL).mpr hi, ?_⟩
  rcases hw with hs | ⟨o', h1, h2, h3⟩
  · have hs' : i = k := hs
    have no : ∀ j, (j, i) ∉ E := fun j hj => by
      by_cases hjo : j = o
      · rw [hjo] at hj
        exact hk (by rw [← hs']; exact mem_vs.mpr ⟨o, A.stale i hj⟩)
      · exact hk (by rw [← hs']; exact (A.ins i).mp ⟨j, hjo, hj⟩)
    refine .inl ⟨no, ⟨put_nodup A.ks, ?_, fun p hp => ?_⟩, len'⟩
    · have hp : (putN E o i).Pairwise fun p q => p.1 ≠ q.1 := List.pairwise_map.mp (put_nodup (k := o) (v := i) A.ks)
      have hm : (putN E o i).Pairwise fun p q => (p ∈ putN E o i ∧ q ∈ putN E o i) ∧ p.1 ≠ q.1 := List.pairwise_iff_forall_sublist.mpr fun {a b} s => ⟨⟨s.subset (List.mem_cons_self ..), s.subset (List.mem_cons_of_mem _ (List.mem_cons_self ..))⟩, List.pairwise_iff_forall_sublist.mp hp s⟩
      refine List.pairwise_map.mpr (hm.imp fun {p q} hpq e => ?_)
      have e' : p.2 = q.2 := e
      rcases mem_put.mp hpq.1.1 with hp1 | ⟨n1, m1⟩ <;> rcases mem_put.mp hpq.1.2 with hq1 | ⟨n2, m2⟩
      · exact hpq.2 (by rw [hp1, hq1])
      · exact no q.1 (by have : q.2 = i := by rw [← e', hp1]
                         rw [← this]; exact m2)
      · exact no p.1 (by have : p.2 = i := by rw [e', hq1]
                         rw [← this]; exact m1)
      · exact hpq.2 (A.inj p.1 q.1 p.2 m1 (by rw [e']; exact m2) n1 n2)
    · refine ⟨?_, ask' p hp⟩
      rcases mem_put.mp hp with rfl | ⟨n1, m1⟩
      · show i < k + 1
        omega
      · obtain ⟨j, hj⟩ := mem_vs.mp ((A.ins p.2).mp ⟨p.1, n1, m1⟩)
        have := (s0.ask _ hj).1
        have h' : p.2 < k := this
        omega
  · have h1' : (o', i) ∈ E0 := mem_flip.mp h1
    have h3' : ρ o' < ρ o := h3
    have no : o' ≠ o := fun e => by rw [e] at h3'; exact Nat.lt_irrefl _ h3'
    have inE : (o', i) ∈ E := ((A.old (o', i) h1').resolve_right (by show ¬ ρ o ≤ ρ o'; omega)).1
    have only : ∀ j, (j, i) ∈ E ↔ j = o' := fun j => ⟨fun hj => by
      by_cases hjo : j = o
      · rw [hjo] at hj
        have := val_fun s0.vs (A.stale i hj) h1'
        exact absurd this.symm no
      · exact A.inj j o' i hj inE hjo no, fun e => by rw [e]; exact inE⟩
    refine .inr ⟨o', only, h3', put_nodup A.ks, fun j1 j2 x a b n1 n2 => ?_, ask', h2, fun x hx => ?_, fun x => ⟨?_, fun h => ?_⟩, fun p hp => ?_, .inr ⟨len', ?_⟩⟩
    · rcases mem_put.mp a with e1 | ⟨m1, a'⟩ <;> rcases mem_put.mp b with e2 | ⟨m2, b'⟩
      · exact (congrArg Prod.fst e1).trans (congrArg Prod.fst e2).symm
      · have ex : x = i := congrArg Prod.snd e1
        rw [ex] at b'
        exact absurd ((only j2).mp b') n2
      · have ex : x = i := congrArg Prod.snd e2
        rw [ex] at a'
        exact absurd ((only j1).mp a') n1
      · exact A.inj j1 j2 x a' b' m1 m2
    · rcases mem_put.mp hx with e1 | ⟨m1, a'⟩
      · exact absurd (congrArg Prod.fst e1) no
      · have : x = i := key_fun A.ks a' inE
        rw [this]
        exact h1'
    · rintro ⟨j, nj, hj⟩
      rcases mem_put.mp hj with e1 | ⟨m1, a'⟩
      · have ex : x = i := congrArg Prod.snd e1
        rw [ex]
        exact mem_vs.mpr ⟨o', h1'⟩
      · exact (A.ins x).mp ⟨j, m1, a'⟩
    · obtain ⟨j, nj, hj⟩ := (A.ins x).mpr h
      by_cases hjo : j = o'
      · rw [hjo] at hj
        have : x = i := key_fun A.ks hj inE
        rw [this]
        exact ⟨o, no.symm, mem_put.mpr (.inl rfl)⟩
      · exact ⟨j, hjo, mem_put.mpr (.inr ⟨nj, hj⟩)⟩
    · rcases A.old p hp with ⟨a, b⟩ | h
      · by_cases hpo : p.1 = o'
        · exact .inr (by rw [hpo]; exact Nat.le_refl _)
        · exact .inl ⟨mem_put.mpr (.inr ⟨b, a⟩), hpo⟩
      · exact .inr (by omega)
    · exact mem_ks.mpr ⟨i, mem_put.mpr (.inr ⟨no, inE⟩)⟩
/-- seats, and a cover of no more places of the inlets below k -/
structure Best (M : Mat) (k : Nat) (E : List Pr) : Prop where
  seat : Seat M k E
  cov : ∃ X Y, Cov M k X Y ∧ X.length + Y.length ≤ E.length
theorem best_zero (M : Mat) : Best M 0 [] := ⟨⟨List.nodup_nil, List.nodup_nil, fun _ z => nomatch z⟩, [], [], fun i j h _ => absurd h (Nat.not_lt_zero _), Nat.le_refl _⟩
theorem best_more {M : Mat} {k : Nat} {E E' : List Pr} (b : Best M k E) (s : Seat M (k + 1) E') (hl : E'.length = E.length + 1) : Best M (k + 1) E' := by
  obtain ⟨X, Y, hc, hz⟩ := b.cov
  refine ⟨s, k :: X, Y, fun i j hi h => ?_, by rw [List.length_cons]; omega⟩
  by_cases hik : i = k
  · exact .inl (by rw [hik]; exact List.mem_cons_self ..)
  · exact (hc i j (by omega) h).imp (List.mem_cons_of_mem _) id
/-- nothing free is come to -/
theorem best_same {M : Mat} {k : Nat} {E : List Pr} {B : List Nat} (b : Best M k E) (hB : B.Nodup) (all : ∀ o ∈ B, o ∈ Ks E) (h1 : ∀ j, cell M k j = 1 → j ∈ B) (h2 : ∀ o i j, o ∈ B → (o, i) ∈ E → cell M i j = 1 → j ∈ B) : Best M (k + 1) E := by
  obtain ⟨X, Y, hc, hz⟩ := b.cov
  refine ⟨⟨b.seat.ks, b.seat.vs, fun p hp => ⟨Nat.lt_succ_of_lt (b.seat.ask p hp).1, (b.seat.ask p hp).2⟩⟩, ?_⟩
  let inA : Nat → Bool := fun i => E.any fun p => decide (p.2 = i) && B.contains p.1
  have hA : ∀ {i}, inA i = true ↔ ∃ o, o ∈ B ∧ (o, i) ∈ E := fun {i} => by
    show (E.any _) = true ↔ _
    rw [List.any_eq_true]
    constructor
    · rintro ⟨p, hp, e⟩
      rw [Bool.and_eq_true, decide_eq_true_eq, List.contains_iff_mem] at e
      exact ⟨p.1, e.2, by rw [← e.1]; exact hp⟩
    · rintro ⟨o, ho, h⟩
      exact ⟨_, h, by rw [Bool.and_eq_true, decide_eq_true_eq, List.contains_iff_mem]; exact ⟨rfl, ho⟩⟩
  refine ⟨X.filter fun i => !inA i, Y ++ B.filter (fun o => !Y.contains o), fun i j hi h => ?_, ?_⟩
  · have inB : ∀ {x}, x ∈ B → x ∈ Y ++ B.filter fun o => !Y.contains o := fun {x} hx => by
      by_cases hy : x ∈ Y
      · exact List.mem_append_left _ hy
      · refine List.mem_append_right _ (List.mem_filter.mpr ⟨hx, ?_⟩)
        rw [Bool.not_eq_true', ← Bool.not_eq_true, List.contains_iff_mem]
        exact hy
    by_cases hik : i = k
    · rw [hik] at h
      exact .inr (inB (h1 j h))
    · cases ha : inA i with
      | true =>
        obtain ⟨o, ho, hE⟩ := hA.mp ha
        exact .inr (inB (h2 o i j ho hE h))
      | false =>
        rcases hc i j (by omega) h with hx | hy
        · exact .inl (List.mem_filter.mpr ⟨hx, by rw [ha]; rfl⟩)
        · exact .inr (List.mem_append_left _ hy)
  · have e := filter_two inA X
    have le : (B.filter fun o => !Y.contains o).length ≤ (X.filter inA).length := by
      have key : ∀ o ∈ B.filter (fun o => !Y.contains o), ∃ i, (o, i) ∈ E ∧ i ∈ X.filter inA := fun o ho => by
        obtain ⟨h3, h4⟩ := List.mem_filter.mp ho
        obtain ⟨i, hi⟩ := mem_ks.mp (all o h3)
        have hs := b.seat.ask _ hi
        rw [Bool.not_eq_true', ← Bool.not_eq_true, List.contains_iff_mem] at h4
        exact ⟨i, hi, List.mem_filter.mpr ⟨(hc i o hs.1 hs.2).resolve_right h4, hA.mpr ⟨o, h3, hi⟩⟩⟩
      have nd : (B.filter fun o => !Y.contains o).Nodup := List.Pairwise.sublist List.filter_sublist hB
      have q := sub_len (xs := (B.filter fun o => !Y.contains o).map fun o => (valN E o).getD 0) (ys := X.filter inA) ?_ ?_
      · rw [List.length_map] at q
        exact q
      · have hm : (B.filter fun o => !Y.contains o).Pairwise fun p q => (p ∈ (B.filter fun o => !Y.contains o) ∧ q ∈ (B.filter fun o => !Y.contains o)) ∧ p ≠ q := List.pairwise_iff_forall_sublist.mpr fun {a b} s => ⟨⟨s.subset (List.mem_cons_self ..), s.subset (List.mem_cons_of_mem _ (List.mem_cons_self ..))⟩, List.pairwise_iff_forall_sublist.mp nd s⟩
        refine List.pairwise_map.mpr (hm.imp fun {p q} h e => ?_)
        obtain ⟨i1, e1, _⟩ := key p h.1.1
        obtain ⟨i2, e2, _⟩ := key q h.1.2
        rw [(val_some b.seat.ks).mpr e1, (val_some b.seat.ks).mpr e2] at e
        have e' : i1 = i2 := e
        rw [e'] at e1
        exact h.2 (val_fun b.seat.vs e1 e2)
      · intro x hx
        obtain ⟨o, ho, rfl⟩ := List.mem_map.mp hx
        obtain ⟨i, e1, e2⟩ := key o ho
        rw [(val_some b.seat.ks).mpr e1]
        exact e2
    rw [List.length_append]
    omega
/-! ### readings of such tables -/
theorem take_snoc {α : Type} {xs : List α} {k : Nat} {x : α} (h : xs[k]? = some x) : xs.take (k + 1) = xs.take k ++ [x] := by
  rw [List.take_add_one, h]
  rfl
theorem dc_m {α : Type} {wi : WI} {wg : WG} {wk wv : WE} {vs : List Nat} {ε : Env} {N : Nat} {RT : T → Nat → Prop} (xs : List α) (e : α → PyData) (k v : α → Nat) (hg : Gv wi ε N (xs.map e)) (hn : xs.length ≤ 40000) (hk : (xs.map k).Nodup)
    (hs : ∀ (x : α) (A : Int → Int → Nat → Prop), x ∈ xs → A (k x : Int) (v x : Int) N → wg (e x) (wipeE ε vs) fun ε2 => wk ε2 N fun d M2 => dInt d fun a => wv ε2 M2 fun f M3 => dInt f fun b => A a b M3) (hd : RT (.dic ((xs.map fun x => (k x, v x)).map cN)) N) : wDc wi wg wk wv vs ε N RT := by
  refine hg _ ⟨by rw [List.length_map]; exact hn, fun j kvs M => kvs = ((xs.take j).map fun x => (k x, v x)).map cN ∧ M = N, ⟨rfl, rfl⟩, fun j d kvs M hx hI => ?_, fun kvs M hI => ?_⟩
  · obtain ⟨rfl, rfl⟩ := hI
    rw [List.getElem?_map] at hx
    cases hj : xs[j]? with
    | none => rw [hj] at hx; cases hx
    | some x =>
      rw [hj] at hx
      have ex : e x = d := Option.some.inj hx
      subst ex
      refine hs x (fun a b M3 => putI (((xs.take j).map fun x => (k x, v x)).map cN) a b = ((xs.take (j + 1)).map fun x => (k x, v x)).map cN ∧ M3 = M) (List.mem_of_getElem? hj) ⟨?_, rfl⟩
      rw [putI_cN, put_new, take_snoc hj, List.map_append, List.map_append, List.map_append]
      · rfl
      · intro z
        obtain ⟨q, hq⟩ := mem_ks.mp z
        obtain ⟨y, hy, e1⟩ := List.mem_map.mp hq
        have e2 : k y = k x := congrArg Prod.fst e1
        have hk' : ((xs.take (j + 1)).map k).Nodup := List.Pairwise.sublist ((List.take_sublist _ _).map _) hk
        rw [take_snoc hj, List.map_append] at hk'
        exact (List.nodup_append.mp hk').2.2 (k y) (List.mem_map_of_mem hy) (k x) (List.mem_singleton.mpr rfl) e2
  · obtain ⟨rfl, rfl⟩ := hI
    rw [List.length_map, List.take_of_length_le (Nat.le_refl _)]
    exact hd
/-! ### going forth and back, turn by turn -/
def Come (P : List Pr) (S : Nat → Prop) (L : List Pr) (i : Nat) : Prop := S i ∨ ∃ o, (i, o) ∈ P ∧ o ∈ Ks L
theorem ks_app {L : List Pr} {o i x : Nat} : x ∈ Ks (L ++ [(o, i)]) ↔ x ∈ Ks L ∨ x = o := by
  unfold Ks
  rw [List.map_append, List.mem_append]
  exact ⟨fun h => h.imp id fun h => List.mem_singleton.mp h, fun h => h.imp id fun h => List.mem_singleton.mpr h⟩
theorem Come.more {P : List Pr} {S : Nat → Prop} {L : List Pr} {o i x : Nat} (h : Come P S L x) : Come P S (L ++ [(o, i)]) x := h.imp id fun ⟨y, a, b⟩ => ⟨y, a, ks_app.mpr (.inl b)⟩
structure Mid (M : Mat) (n : Nat) (P : List Pr) (S : Nat → Prop) (t : Nat) (C : List Nat) (L : List Pr) : Prop where
  ks : (Ks L).Nodup
  way : ∃ ρ, Way M P S L ρ ∧ ∀ o ∈ Ks L, ρ o < t
  com : ∀ i ∈ C, i < n ∧ Come P S L i
  clo : ∀ i j, i < n → Come P S L i → cell M i j = 1 → i ∈ C ∨ j ∈ Ks L
structure Row (M : Mat) (n : Nat) (P : List Pr) (S : Nat → Prop) (t i : Nat) (Z : Nat → Prop) (C : List Nat) (L : List Pr) : Prop where
  ks : (Ks L).Nodup
  way : ∃ ρ, Way M P S L ρ ∧ (∀ o ∈ Ks L, ρ o ≤ t) ∧ (S i ∨ ∃ o, (i, o) ∈ P ∧ o ∈ Ks L ∧ ρ o < t)
  lt : i < n
  com : ∀ i ∈ C, i < n ∧ Come P S L i
  clo : ∀ x j, x < n → Come P S L x → cell M x j = 1 → x ∈ C ∨ (x = i ∧ Z j) ∨ j ∈ Ks L
section
variable {M : Mat} {n : Nat} {P : List Pr} {S : Nat → Prop} {t i : Nat} {Z Z' : Nat → Prop} {C C' : List Nat} {L : List Pr}
theorem Mid.row (m : Mid M n P S t C L) (hi : i ∈ C) (h1 : ∀ x ∈ C, x ∈ C' ∨ x = i) (h2 : ∀ x ∈ C', x ∈ C) (hz : ∀ j, cell M i j = 1 → Z j) : Row M n P S t i Z C' L := by
  obtain ⟨ρ, w, b⟩ := m.way
  obtain ⟨l, c⟩ := m.com i hi
  refine ⟨m.ks, ⟨ρ, w, fun o ho => Nat.le_of_lt (b o ho), c.imp id fun ⟨o, x, y⟩ => ⟨o, x, y, b o y⟩⟩, l, fun x hx => m.com x (h2 x hx), fun x j hx hc ha => ?_⟩
  rcases m.clo x j hx hc ha with h | h
  · rcases h1 x h with h | h
    · exact .inl h
    · exact .inr (.inl ⟨h, hz j (h ▸ ha)⟩)
  · exact .inr (.inr h)
theorem Row.skip (r : Row M n P S t i Z C L) (h : ∀ j, Z j → cell M i j = 1 → Z' j ∨ j ∈ Ks L) : Row M n P S t i Z' C L := by
  refine ⟨r.ks, r.way, r.lt, r.com, fun x j hx hc ha => ?_⟩
  rcases r.clo x j hx hc ha with h1 | ⟨h1, h2⟩ | h1
  · exact .inl h1
  · rcases h j h2 (h1 ▸ ha) with h3 | h3
    · exact .inr (.inl ⟨h1, h3⟩)
    · exact .inr (.inr h3)
  · exact .inr (.inr h1)
theorem Row.add {o : Nat} (r : Row M n P S t i Z C L) (ho : o ∉ Ks L) (ha : cell M i o = 1) (hC : ∀ x ∈ C, x ∈ C') (hP : ∀ x, (x, o) ∈ P → x ∈ C') (hC' : ∀ x ∈ C', x ∈ C ∨ (x < n ∧ (x, o) ∈ P)) (h : ∀ j, Z j → cell M i j = 1 → Z' j ∨ j = o) : Row M n P S t i Z' C' (L ++ [(o, i)]) := by
  obtain ⟨ρ, w, b, c⟩ := r.way
  have c2 : S i ∨ ∃ y, (i, y) ∈ P ∧ y ∈ Ks (L ++ [(o, i)]) ∧ (if y = o then t else ρ y) < t := by
    rcases c with c | ⟨y, a1, a2, a3⟩
    · exact .inl c
    · refine .inr ⟨y, a1, ks_app.mpr (.inl a2), ?_⟩
      rw [if_neg fun (e : y = o) => ho (e ▸ a2)]
      exact a3
  refine ⟨?_, ⟨_, way_add w ho ha c, fun x hx => ?_, c2⟩, r.lt, fun x hx => ?_, fun x j hx hc hj => ?_⟩
  · have := put_nodup (k := o) (v := i) r.ks
    rw [put_new ho] at this
    exact this
  · show (if x = o then t else ρ x) ≤ t
    split
    · exact Nat.le_refl _
    · rename_i hne
      exact b x ((ks_app.mp hx).resolve_right hne)
  · rcases hC' x hx with h1 | ⟨h1, h2⟩
    · exact ⟨(r.com x h1).1, (r.com x h1).2.more⟩
    · exact ⟨h1, .inr ⟨o, h2, ks_app.mpr (.inr rfl)⟩⟩
  · have old : Come P S L x → x ∈ C' ∨ (x = i ∧ Z' j) ∨ j ∈ Ks (L ++ [(o, i)]) := fun hc' => by
      rcases r.clo x j hx hc' hj with h1 | ⟨h1, h2⟩ | h1
      · exact .inl (hC x h1)
      · rcases h j h2 (h1 ▸ hj) with h3 | h3
        · exact .inr (.inl ⟨h1, h3⟩)
        · exact .inr (.inr (ks_app.mpr (.inr h3)))
      · exact .inr (.inr (ks_app.mpr (.inl h1)))
    rcases hc with hs | ⟨y, a1, a2⟩
    · exact old (.inl hs)
    · rcases ks_app.mp a2 with h1 | h1
      · exact old (.inr ⟨y, a1, h1⟩)
      · rw [h1] at a1
        exact .inl (hP x a1)
theorem Row.mid (r : Row M n P S t i Z C L) (h : ∀ j, Z j → cell M i j ≠ 1) : Mid M n P S (t + 1) C L := by
  obtain ⟨ρ, w, b, c⟩ := r.way
  refine ⟨r.ks, ⟨ρ, w, fun o ho => Nat.lt_succ_of_le (b o ho)⟩, r.com, fun x j hx hc hj => ?_⟩
  rcases r.clo x j hx hc hj with h1 | ⟨h1, h2⟩ | h1
  · exact .inl h1
  · exact absurd (h1 ▸ hj) (h j h2)
  · exact .inr h1
theorem Mid.next (m : Mid M n P S t C L) : Mid M n P S (t + 1) C L := by
  obtain ⟨ρ, w, b⟩ := m.way
  exact ⟨m.ks, ⟨ρ, w, fun o ho => Nat.lt_succ_of_lt (b o ho)⟩, m.com, m.clo⟩
theorem Mid.first (hC : ∀ i, i ∈ C ↔ i < n ∧ S i) : Mid M n P S 0 C [] :=
  ⟨List.nodup_nil, ⟨fun _ => 0, (fun _ z => nomatch z), fun _ z => nomatch z⟩, fun i hi => ⟨((hC i).mp hi).1, .inl ((hC i).mp hi).2⟩, fun i j hi hc _ => .inl ((hC i).mpr ⟨hi, hc.resolve_right fun ⟨_, _, z⟩ => nomatch z⟩)⟩
theorem Mid.shut (m : Mid M n P (fun i => i < n ∧ i ∉ Ks P) t [] L) (hP : ∀ p ∈ P, p.1 < n) : Shut M n P L :=
  ⟨m.ks, fun i j hi hk ha => (m.clo i j hi (.inl ⟨hi, hk⟩) ha).resolve_left List.not_mem_nil, fun i o j hi ho ha => (m.clo i j (hP _ hi) (.inr ⟨o, hi, ho⟩) ha).resolve_left List.not_mem_nil⟩
/-- those that came, each once -/
structure Que (n : Nat) (P : List Pr) (S : Nat → Prop) (t : Nat) (U C : List Nat) (L : List Pr) : Prop where
  nd : (U ++ C).Nodup
  com : ∀ i ∈ U ++ C, i < n ∧ Come P S L i
  len : C = [] ∨ U.length = t
theorem Que.push {U : List Nat} {o x y : Nat} (q : Que n P S t U C L) (hk : (Ks P).Nodup) (hS : ∀ i, S i → i ∉ Ks P) (ho : o ∉ Ks L) (hx : x < n) (hp : (x, o) ∈ P) (hl : U.length = t) : Que n P S t U (C ++ [x]) (L ++ [(o, y)]) := by
  have nx : x ∉ U ++ C := fun z => by
    rcases (q.com x z).2 with h | ⟨o', h1, h2⟩
    · exact hS x h (mem_ks.mpr ⟨o, hp⟩)
    · exact ho (key_fun hk h1 hp ▸ h2)
  refine ⟨?_, fun i hi => ?_, .inr hl⟩
  · rw [← List.append_assoc]
    refine List.nodup_append.mpr ⟨q.nd, List.pairwise_singleton _ _, fun a ha b hb e => nx ?_⟩
    rw [← List.mem_singleton.mp hb, ← e]
    exact ha
  · rw [← List.append_assoc] at hi
    rcases List.mem_append.mp hi with h | h
    · exact ⟨(q.com i h).1, (q.com i h).2.more⟩
    · rw [List.mem_singleton.mp h]
      exact ⟨hx, .inr ⟨o, hp, ks_app.mpr (.inr rfl)⟩⟩
theorem Que.add {U : List Nat} {o y : Nat} (q : Que n P S t U C L) : Que n P S t U C (L ++ [(o, y)]) := ⟨q.nd, fun i hi => ⟨(q.com i hi).1, (q.com i hi).2.more⟩, q.len⟩
theorem Que.full {U : List Nat} (q : Que n P S n U C L) : C = [] := by
  rcases q.len with h | h
  · exact h
  · have := nodup_len q.nd fun x hx => (q.com x hx).1
    rw [List.length_append] at this
    exact List.length_eq_zero_iff.mp (by omega)
end
theorem in_nats_t {kd : Bool} {k : Nat} {ns : List Nat} {S : PyData → Prop} : oIn true (.int (k : Int)) (seqD kd (ns.map nD)) S = S (.bool (!ns.contains k)) := by
  have e : ns.map nD = (ns.map fun n : Nat => (n : Int)).map PyData.int := by rw [List.map_map]; rfl
  rw [e, oIn_seq, contains_nat]
  rfl
theorem in_nats_f {kd : Bool} {k : Nat} {ns : List Nat} {S : PyData → Prop} : oIn false (.int (k : Int)) (seqD kd (ns.map nD)) S = S (.bool (ns.contains k)) := by
  have e : ns.map nD = (ns.map fun n : Nat => (n : Int)).map PyData.int := by rw [List.map_map]; rfl
  rw [e, oIn_seq, contains_nat]
  rfl
theorem filter_map_if {α β : Type} (p : α → Bool) (f : α → β) : ∀ xs : List α, (xs.filterMap fun x => if p x = true then some (f x) else none) = (xs.filter p).map f
  | [] => rfl
  | x :: xs => by
    have ih := filter_map_if p f xs
    cases h : p x with
    | true => rw [List.filterMap_cons_some (by rw [h]; rfl), List.filter_cons_of_pos h, List.map_cons, ih]
    | false => rw [List.filterMap_cons_none (by rw [h]; rfl), List.filter_cons_of_neg (by rw [h]; decide), ih]
theorem cell_lt {M : Mat} {i j : Nat} (h : cell M i j = 1) : i < M.length ∧ j < (M.getD i []).length := by
  unfold cell at h
  constructor
  · refine Classical.byContradiction fun z => ?_
    rw [List.getD_eq_getElem?_getD (l := M), List.getElem?_eq_none (by omega)] at h
    simp at h
  · refine Classical.byContradiction fun z => ?_
    rw [List.getD_eq_getElem?_getD (i := j), List.getElem?_eq_none (by omega)] at h
    simp at h
theorem valI_some {L : List Pr} {k : Nat} : (valI (L.map cN) (k : Int)).isSome = (valN L k).isSome := by rw [valI_cN, Option.isSome_map]
theorem Way.small {M : Mat} {P : List Pr} {S : Nat → Prop} {L : List Pr} {ρ : Nat → Nat} (w : Way M P S L ρ) (hz : Sz M) {o : Nat} (ho : o ∈ Ks L) : o < 100 := by
  obtain ⟨i, hi⟩ := mem_ks.mp ho
  have h := cell_lt (w _ hi).1
  have hr : M.getD i [] ∈ M := by
    rw [List.getD_eq_getElem?_getD, List.getElem?_eq_getElem h.1]
    exact List.getElem_mem h.1
  have := hz.2 _ hr
  exact Nat.lt_of_lt_of_le h.2 this
theorem way_len {M : Mat} {P : List Pr} {S : Nat → Prop} {L : List Pr} {ρ : Nat → Nat} (w : Way M P S L ρ) (hz : Sz M) (hk : (Ks L).Nodup) : L.length ≤ 100 := by
  have := nodup_len hk fun x hx => w.small hz hx
  unfold Ks at this
  rw [List.length_map] at this
  exact this
end Cg

set_option Elab.async false
set_option linter.all false
set_option maxRecDepth 100000
set_option maxHeartbeats 1000000
namespace Cg
open PySem PySem.Spec PyProof.Rows L2 Evl
/-! ### the same, step by step: what is told is one and the same each time -/
def iterS {σ : Type} (f : σ → σ) : Nat → σ → σ
  | 0, s => s
  | n + 1, s => f (iterS f n s)
theorem iter_stop {σ : Type} {f : σ → σ} {s0 s : σ} {t : Nat} (h : iterS f t s0 = s) (hf : f s = s) : ∀ d : Nat, iterS f (t + d) s0 = s
  | 0 => h
  | d + 1 => by
    show f (iterS f (t + d) s0) = s
    rw [iter_stop h hf d, hf]
theorem iter_end {σ : Type} {f : σ → σ} {s0 s : σ} {t T : Nat} (h : iterS f t s0 = s) (hf : f s = s) (ht : t ≤ T) : iterS f T s0 = s := by
  have := iter_stop h hf (T - t)
  rw [show t + (T - t) = T by omega] at this
  exact this
def freeN (M : Mat) (P : List Pr) : List Nat := (List.range M.length).filter fun i => !(Ks P).contains i
def rowStep (P : List Pr) (i : Nat) (s : List Pr × List Nat) (q : Int × Nat) : List Pr × List Nat :=
  if q.1 = 1 ∧ q.2 ∉ Ks s.1 then (s.1 ++ [(q.2, i)], s.2 ++ (valN (flipP P) q.2).toList) else s
def turnS (M : Mat) (P : List Pr) (s : List Pr × List Nat) : List Pr × List Nat := match s.2.getLast? with
  | none => s
  | some i => (M.getD i []).zipIdx.foldl (rowStep P i) (s.1, s.2.dropLast)
def reachF (M : Mat) (P : List Pr) : List Pr := (iterS (turnS M P) 200 ([], freeN M P)).1
def overS (L : List Pr) (s : List Pr × Option Nat) : List Pr × Option Nat := match s.2 with
  | none => s
  | some o => match valN L o with
    | none => s
    | some i => (putN s.1 i o, valN s.1 i)
def overF (L P : List Pr) (o : Nat) : List Pr := (iterS (overS L) 300 (P, some o)).1
def lexB (p q : Pr) : Bool := decide (p.1 < q.1) || (decide (p.1 = q.1) && decide (p.2 ≤ q.2))
def sortF (D : List Pr) : List Pr := D.mergeSort lexB
def grownF (M : Mat) (P : List Pr) : Option (List Pr) := match ((Ks (reachF M P)).filter fun o => !(Vs P).contains o).head? with
  | none => none
  | some o => some (sortF (overF (reachF M P) P o))
theorem lexB_iff {p q : Pr} : lexB p q = true ↔ p.1 < q.1 ∨ (p.1 = q.1 ∧ p.2 ≤ q.2) := by
  unfold lexB
  rw [Bool.or_eq_true, Bool.and_eq_true, decide_eq_true_eq, decide_eq_true_eq, decide_eq_true_eq]
theorem ks_perm {A B : List Pr} (h : A.Perm B) : (Ks A).Perm (Ks B) := List.Perm.map _ h
theorem vs_perm {A B : List Pr} (h : A.Perm B) : (Vs A).Perm (Vs B) := List.Perm.map _ h
theorem sort_perm (D : List Pr) : (sortF D).Perm D := List.mergeSort_perm _ _
theorem sort_rise {D : List Pr} (h : (Ks D).Nodup) : (sortF D).Pairwise fun p q => p.1 < q.1 := by
  have h1 : (sortF D).Pairwise fun p q => lexB p q = true := List.pairwise_mergeSort (le := lexB) (fun a b c h1 h2 => by
    rw [lexB_iff] at *
    omega) (fun a b => by
    rw [Bool.or_eq_true, lexB_iff, lexB_iff]
    omega) D
  have h2 : (sortF D).Pairwise fun p q => p.1 ≠ q.1 := by
    have : (Ks (sortF D)).Nodup := (List.Perm.nodup_iff (ks_perm (sort_perm D))).mpr h
    exact List.pairwise_map.mp this
  exact (h1.and h2).imp fun {p q} hpq => by
    have := lexB_iff.mp hpq.1
    have := hpq.2
    omega
theorem rise_uniq : ∀ {ps qs : List Pr}, ps.Pairwise (fun p q => p.1 < q.1) → qs.Pairwise (fun p q => p.1 < q.1) → ps.Perm qs → ps = qs
  | [], qs, _, _, h => h.nil_eq
  | p :: ps, [], _, _, h => absurd h.length_eq (by simp)
  | p :: ps, q :: qs, h1, h2, h => by
    obtain ⟨a1, a2⟩ := List.pairwise_cons.mp h1
    obtain ⟨b1, b2⟩ := List.pairwise_cons.mp h2
    have e : p = q := by
      rcases List.mem_cons.mp (h.mem_iff.mp (List.mem_cons_self ..)) with e | e
      · exact e
      · rcases List.mem_cons.mp (h.mem_iff.mpr (List.mem_cons_self ..)) with e2 | e2
        · exact e2.symm
        · have := b1 p e
          have := a1 q e2
          omega
    subst e
    rw [rise_uniq a2 b2 ((List.perm_cons p).mp h)]
/-- a row of pairs, sorted -/
theorem sorted_is {D : List Pr} {qs : List (Int × Int)} (h : (Ks D).Nodup) (hp : qs.Perm (D.map cN)) (hs : qs.Pairwise lexP) : qs = (sortF D).map cN := by
  have e : ∀ q ∈ qs, cN (q.1.toNat, q.2.toNat) = q := fun q hq => by
    obtain ⟨p, _, rfl⟩ := List.mem_map.mp (hp.mem_iff.mp hq)
    rfl
  have eq : qs = (qs.map fun q => (q.1.toNat, q.2.toNat)).map cN := by
    rw [List.map_map]
    exact (List.map_id qs).symm.trans (List.map_congr_left fun q hq => (e q hq).symm)
  have pf : (qs.map fun q : Int × Int => (q.1.toNat, q.2.toNat)).Perm D := by
    have := hp.map fun q : Int × Int => (q.1.toNat, q.2.toNat)
    rw [List.map_map] at this
    exact this.trans (.of_eq ((List.map_congr_left fun p _ => rfl).trans (List.map_id _)))
  generalize (qs.map fun q : Int × Int => (q.1.toNat, q.2.toNat)) = ps at eq pf
  rw [eq] at hs
  have nd : ps.Pairwise fun p q => p.1 ≠ q.1 := List.pairwise_map.mp ((List.Perm.nodup_iff (ks_perm pf)).mpr h)
  have hr : ps.Pairwise fun p q => p.1 < q.1 := ((List.pairwise_map.mp hs).and nd).imp fun {a b} hab => by
    rcases hab.1 with h | h
    · have : ((a.1 : Int) < (b.1 : Int)) := h
      omega
    · have : ((a.1 : Int) = (b.1 : Int)) := h.1
      exact absurd (by omega) hab.2
  rw [eq, rise_uniq hr (sort_rise h) (pf.trans (sort_perm D).symm)]
theorem sort_prs {M : Mat} {D : List Pr} (h1 : (Ks D).Nodup) (h2 : (Vs D).Nodup) (ha : ∀ p ∈ D, cell M p.1 p.2 = 1) : Prs M (sortF D) :=
  prs_of (fun p hp => ha p ((sort_perm D).mem_iff.mp hp)) ((sort_rise h1).imp fun h => .inl h) (apart_iff.mpr ⟨(List.Perm.nodup_iff (ks_perm (sort_perm D))).mpr h1, (List.Perm.nodup_iff (vs_perm (sort_perm D))).mpr h2⟩)
theorem cleansM {α : Type} {f : α → T} : ∀ {xs : List α}, (∀ x ∈ xs, (f x).clean = true) → T.cleans (xs.map f) = true
  | [], _ => by rw [List.map_nil]; unfold T.cleans; rfl
  | x :: xs, h => by
    rw [List.map_cons]
    unfold T.cleans
    rw [h x (List.mem_cons_self ..), cleansM fun y hy => h y (List.mem_cons_of_mem _ hy)]
    rfl
theorem dataP (ps : List Pr) : (T.lst (ps.map fun p => T.sh (pD p))).data = .list (ps.map pD) := by
  show PyData.list (T.datas _) = _
  rw [datas_map, List.map_map]
  rfl
theorem sortP_is {D : List Pr} {S : List PyData → Prop} (h : (Ks D).Nodup) (hS : S ((sortF D).map pD)) : oSortP [.list (D.map pD)] S := by
  refine ⟨D.map cN, by rw [List.map_map]; rfl, fun qs hp hs => ?_⟩
  rw [sorted_is h hp hs, List.map_map]
  exact hS
theorem datasN (C : List Nat) : T.datas (C.map fun i => T.sh (nD i)) = C.map nD := by
  rw [datas_map, List.map_map]
  rfl
theorem shpN (ns : List Nat) : Shp 1 (.list (ns.map nD)) := Shp.list fun x hx => by
  obtain ⟨n, _, rfl⟩ := List.mem_map.mp hx
  exact Shp.int _
theorem eqvNil {a : List PyData} : PyData.eqv (.list a) (.list []) = a.isEmpty := by cases a <;> rfl
theorem lc_sortD {i : Nat} {wg : WG} {wt : WB} {w : WE} {vs : List Nat} {ε : Env} {N : Nat} {R : PyData → Nat → Prop} {L : List Pr} (hd : Dic ε[i]? (L.map cN)) (hl : L.length < 64) (h : ∀ ns : List Nat, ns.Perm (Ks L) → wLc (fun _ N R => R (ns.map nD) N) wg wt w vs ε N R) : wLc (wIt (wFz (wDSort i))) wg wt w vs ε N R := by
  refine ⟨L.map cN, hd, by rw [List.length_map]; exact hl, fun ys hp hs => ?_⟩
  obtain ⟨ns, rfl, hns⟩ : ∃ ns : List Nat, ys = (ns.map fun n : Nat => (n : Int)) ∧ ns.Perm (Ks L) := by
    refine ⟨ys.map Int.toNat, ?_, ?_⟩
    · rw [List.map_map]
      refine (List.map_id ys).symm.trans (List.map_congr_left fun y hy => ?_)
      obtain ⟨p, hp', e⟩ := List.mem_map.mp (hp.mem_iff.mp hy)
      obtain ⟨q, _, rfl⟩ := List.mem_map.mp hp'
      rw [← e]
      rfl
    · have := hp.map Int.toNat
      rw [List.map_map, List.map_map] at this
      exact this
  have enD : (T.lst (keysT (ns.map fun n : Nat => (n : Int)))).data = .list (ns.map nD) := by
    show PyData.list (T.datas _) = _
    unfold keysT
    rw [datas_map, List.map_map, List.map_map]
    rfl
  have k := h ns hns
  rw [enD]
  exact k
theorem tab_data (M : Mat) : (T.lst (M.map fun r => .lst (r.map fun x => .sh (.int x)))).data = tabD true true M := by
  show PyData.list (T.datas _) = _
  rw [datas_map, List.map_map]
  unfold tabD
  show PyData.list _ = PyData.list _
  congr 1
  refine List.map_congr_left fun r _ => ?_
  show PyData.list (T.datas _) = _
  rw [datas_map, List.map_map]
  rfl
theorem asks_take {M : Mat} {k : Nat} {r : List Int} (h : M[k]? = some r) : asksN (M.take (k + 1)) = asksN (M.take k) ++ askRow r k := by
  have hk : k < M.length := (List.getElem?_eq_some_iff.mp h).1
  unfold asksN
  rw [take_snoc h, List.zipIdx_append, List.flatMap_append]
  congr 1
  rw [List.length_take, Nat.min_eq_left (by omega), Nat.zero_add]
  simp
theorem asks_up {M : Mat} (k : Nat) : (asksN (M.take k)).length ≤ (asksN M).length := by
  have e : asksN (M.take k ++ M.drop k) = asksN (M.take k) ++ ((M.drop k).zipIdx (0 + (M.take k).length)).flatMap (fun p => askRow p.1 p.2) := by
    unfold asksN
    rw [List.zipIdx_append, List.flatMap_append]
  rw [List.take_append_drop] at e
  rw [e, List.length_append]
  omega
theorem asks_144 {M : Mat} (hM : M.length ≤ 12) (hr : ∀ r ∈ M, r.length ≤ 12) : (asksN M).length ≤ 144 := by
  have h1 := flat_len (fun p : List Int × Nat => askRow p.1 p.2) 12 M.zipIdx fun p hp => Nat.le_trans (ask_len_row _ _) (hr _ (zipIdx_fst hp))
  rw [List.length_zipIdx] at h1
  show ((M.zipIdx).flatMap _).length ≤ 144
  omega
theorem eraseM {α β : Type} (f : α → β) : ∀ (l : List α) (i : Nat), (l.map f).eraseIdx i = (l.eraseIdx i).map f
  | [], _ => rfl
  | _ :: _, 0 => rfl
  | x :: l, i + 1 => by
    show f x :: (l.map f).eraseIdx i = f x :: (l.eraseIdx i).map f
    rw [eraseM f l i]
theorem eraseP {α : Type} : ∀ {l : List α} {i : Nat} (h : i < l.length), (l[i] :: l.eraseIdx i).Perm l
  | [], _, h => absurd h (Nat.not_lt_zero _)
  | x :: l, 0, _ => List.Perm.refl _
  | x :: l, i + 1, h => by
    have ih := eraseP (l := l) (i := i) (Nat.lt_of_succ_lt_succ h)
    show (l[i]'(Nat.lt_of_succ_lt_succ h) :: x :: l.eraseIdx i).Perm (x :: l)
    exact (List.Perm.swap _ _ _).trans (ih.cons x)
theorem forX {α : Type} {ε : Env} {wg : WG} {ws : WS} {D : EW} {N : Nat} (xs : List α) (e : α → PyData) (I : Nat → Env → Nat → Prop) (h0 : I 0 ε N) (hs : ∀ k x ε M, xs[k]? = some x → I k ε M → wg (e x) ε fun ε2 => ws (D.loop (I (k + 1))) ε2 M) (hd : ∀ ε M, I xs.length ε M → D.nx ε M) :
    ∃ I : Nat → Env → Nat → Prop, I 0 ε N ∧ (∀ k d ε M, (xs.map e)[k]? = some d → I k ε M → wg d ε fun ε2 => ws { D with nx := I (k + 1), ct := I (k + 1), bk := D.nx } ε2 M) ∧ ∀ ε M, I (xs.map e).length ε M → D.nx ε M := by
  refine ⟨I, h0, fun k d ε M hx hI => ?_, fun ε M hI => hd ε M (by rw [List.length_map] at hI; exact hI)⟩
  rw [List.getElem?_map] at hx
  cases hk : xs[k]? with
  | none => rw [hk] at hx; cases hx
  | some x =>
    rw [hk] at hx
    have ex : e x = d := Option.some.inj hx
    subst ex
    exact hs k x ε M hk hI
theorem forG {ε : Env} {wi : WI} {wg : WG} {ws : WS} {D : EW} {N : Nat} (P : List PyData → Nat → Prop) (hw : ∀ R : List PyData → Nat → Prop, (∀ ds N1, P ds N1 → R ds N1) → wi ε N R)
    (h : ∀ ds N1, P ds N1 → ∃ I : Nat → Env → Nat → Prop, I 0 ε N1 ∧ (∀ k d ε M, ds[k]? = some d → I k ε M → wg d ε fun ε2 => ws { D with nx := I (k + 1), ct := I (k + 1), bk := D.nx } ε2 M) ∧ ∀ ε M, I ds.length ε M → D.nx ε M) : wFor wi wg ws D ε N := hw _ h
theorem wIt_eq {we : WE} {ε : Env} {N : Nat} {R : List PyData → Nat → Prop} : wIt we ε N R = we ε N fun d N1 => dSeq d fun ds => R ds N1 := propext Iff.rfl
theorem inL_t {k : Nat} {ns : List Nat} {S : PyData → Prop} : oIn true (.int (k : Int)) (.list (ns.map nD)) S = S (.bool (!ns.contains k)) := in_nats_t (kd := true)
theorem inL_f {k : Nat} {ns : List Nat} {S : PyData → Prop} : oIn false (.int (k : Int)) (.list (ns.map nD)) S = S (.bool (ns.contains k)) := in_nats_f (kd := true)
theorem datasK (P : List Pr) : T.datas (P.map fun p => T.sh (nD p.1)) = (Ks P).map nD := by
  unfold Ks
  rw [datas_map, List.map_map, List.map_map]
  rfl
theorem datasV (P : List Pr) : T.datas (P.map fun p => T.sh (nD p.2)) = (Vs P).map nD := by
  unfold Vs
  rw [datas_map, List.map_map, List.map_map]
  rfl
theorem apart_add {P : List Pr} {p : Pr} (h : Apart P) (h1 : p.1 ∉ Ks P) (h2 : p.2 ∉ Vs P) : Apart (P ++ [p]) := List.pairwise_append.mpr ⟨h, List.pairwise_singleton _ _, fun a ha b hb => by
  rw [List.mem_singleton.mp hb]
  exact ⟨fun e => h1 (e ▸ mem_ks.mpr ⟨a.2, ha⟩), fun e => h2 (e ▸ mem_vs.mpr ⟨a.1, ha⟩)⟩⟩
theorem not_in {ns : List Nat} {k : Nat} : (!ns.contains k) = true ↔ k ∉ ns := by
  rw [Bool.not_eq_true', ← Bool.not_eq_true, List.contains_iff_mem]
theorem zip_adj {α : Type} {r : α → α → Prop} : ∀ {xs : List α}, xs.Pairwise r → ∀ q ∈ xs.zip (xs.drop 1), r q.1 q.2
  | [], _, q, hq => nomatch hq
  | [_], _, q, hq => nomatch hq
  | x :: y :: ys, h, q, hq => by
    obtain ⟨h1, h2⟩ := List.pairwise_cons.mp h
    have hq' : q ∈ (x, y) :: (y :: ys).zip ys := hq
    rcases List.mem_cons.mp hq' with rfl | hq'
    · exact h1 y (List.mem_cons_self ..)
    · exact zip_adj (xs := y :: ys) h2 q hq'
theorem wLenSet_eq {we : WE} {ε : Env} {N : Nat} {R : PyData → Nat → Prop} : wLenSet we ε N R = we ε N fun d N1 => dList d fun ds => ∃ ns, intsOf ds = some ns ∧ ns.length ≤ 4000 ∧ R (.int (dedN ns : Nat)) N1 := propext Iff.rfl
theorem ints_nD (ns : List Nat) : intsOf (ns.map nD) = some (ns.map fun n : Nat => (n : Int)) := by
  have e : ns.map nD = (ns.map fun n : Nat => (n : Int)).map PyData.int := by rw [List.map_map]; rfl
  rw [e, intsOf_map]
theorem ded_nat {ns : List Nat} (h : ns.Nodup) : dedN (ns.map fun n : Nat => (n : Int)) = ns.length := by
  have := (dedN_iff (ns.map fun n : Nat => (n : Int))).mpr (List.pairwise_map.mpr (h.imp fun {a b} hab e => hab (by omega)))
  rw [this, List.length_map]
end Cg

set_option Elab.async false
set_option linter.all false
set_option maxRecDepth 100000
set_option maxHeartbeats 1000000
namespace Cg
open PySem PySem.Spec PyProof.Rows L2 Evl
/-! ### x = y, both their own: y is no more -/
def wMove (i j : Nat) : WS := fun D ε N => atIs ε[j]? fun t => D.nx ((ε.set j .no).set i (.is t)) N
theorem sim_move {i j : Nat} : SimS (tAsg (tVar j) (gName i)) (wMove i j) := fun {c bs F σ H ε N DW D} r w m => by
  have w' : match ε[j]? with | some (.is t) => DW.nx ((ε.set j .no).set i (.is t)) N | _ => False := w
  split at w'
  · rename_i t hl
    obtain ⟨x, A, F1, F2, q1, q2, rfl, q4⟩ := r.env.at hl
    cases q2 with
    | is q2 =>
      rename_i v
      refine ⟨v, q1, ?_⟩
      show D.nx (σ.set i (some v)) H
      have hm : ∀ a ∈ F1 ++ ([] ++ F2), a ∈ F1 ++ (A ++ F2) := fun a ha => by
        rcases List.mem_append.mp ha with h | h
        · exact List.mem_append_left _ h
        · exact List.mem_append_right _ (List.mem_append_right _ h)
      have env := q4 (cs := bs) (H' := H) (y := some v) (m := .no) r.nt (Same.refl _) (fun _ _ _ e => e) .no
      rw [set_same q1] at env
      have r1 : Rel c bs (F1 ++ ([] ++ F2)) σ H (ε.set j .no) N := ⟨env, nodup_mid r.nd List.nodup_nil (fun _ z => nomatch z), fun a ha => r.sub a (hm a ha), fun a ha => r.off a (hm a ha), fun a ha => r.nb a (hm a ha), r.up, r.bb, r.offb, r.live, r.nt, r.box, r.pin, r.vis⟩
      have inA : ∀ a ∈ A, a ∈ F1 ++ (A ++ F2) := fun a ha => List.mem_append_right _ (List.mem_append_left _ ha)
      have ndA : A.Nodup := (List.nodup_append.mp (List.nodup_append.mp r.nd).2.1).1
      obtain ⟨F', r2, _⟩ := r1.put (i := i) q2 ndA fun a ha => ⟨r.sub a (inA a ha), fun z => by
        obtain ⟨_, p2, p3⟩ := List.nodup_append.mp r.nd
        rcases List.mem_append.mp z with h | h
        · exact p3 a h a (List.mem_append_left _ ha) rfl
        · exact (List.nodup_append.mp p2).2.2 a ha a h rfl, r.off a (inA a ha), r.nb a (inA a ha)⟩
      exact m.nx r2 w'
  · exact w'.elim
theorem wMove_eq {i j : Nat} {D : EW} {ε : Env} {N : Nat} : wMove i j D ε N = atIs ε[j]? fun t => D.nx ((ε.set j .no).set i (.is t)) N := propext Iff.rfl
/-- return (x, e), x its own, e new -/
def wRetVT (i : Nat) (wt : WT) : WS := fun D ε N => atIs ε[i]? fun t => wt ε N fun u N' => D.rt (.tup [t, u]) N'
theorem wRetVT_eq {i : Nat} {wt : WT} {D : EW} {ε : Env} {N : Nat} : wRetVT i wt D ε N = atIs ε[i]? fun t => wt ε N fun u N' => D.rt (.tup [t, u]) N' := propext Iff.rfl
theorem sim_retVT {i : Nat} {te : TE} {wt : WT} (h : SimT te wt) : SimS (tRet (tTup (tCons (tVar i) (tCons te tNil)))) (wRetVT i wt) := fun {c bs F σ H ε N DW D} r w m => by
  obtain ⟨t, e1, w⟩ := atIs_some w
  obtain ⟨y, A0, G1, G2, hx, hr0, eF, _⟩ := r.env.at e1
  cases hr0 with
  | is hr0 =>
    rename_i v
    refine ⟨v, hx, h r w fun v2 u B N' H' hR o n => ?_⟩
    have r1 := r.hide o n.new n.rep.own
    obtain ⟨y', A, F1, F2, hx', hr, rfl, _⟩ := r1.env.at e1
    cases hr with
    | is hr =>
      rename_i v'
      have ev : v' = v := by
        rw [hx] at hx'
        cases hx'
        rfl
      subst ev
      refine ⟨by show 2 ≤ sizeLine; decide, fun p np => ?_⟩
      have ex : Same H' (upd H' p (.tup [v', v2])) := Ex.new np
      have hA : ∀ a ∈ A, a ∈ F1 ++ (A ++ F2) := fun a ha => List.mem_append_right _ (List.mem_append_left _ ha)
      have ndA : A.Nodup := (List.nodup_append.mp (List.nodup_append.mp r.nd).2.1).1
      have dis : ∀ a ∈ A, a ∉ B := fun a ha hb => r.live a (r.sub a (hA a ha)) (n.new a hb)
      have kp : Same (hid (B ++ bs) H') (hid ((A ++ (B ++ [])) ++ c.bs0) (upd H' p (.tup [v', v2]))) := (hid_perm (fun a ha => by
        rcases List.mem_append.mp ha with z | z
        · rcases List.mem_append.mp z with z | z
          · exact r1.sub a (hA a z)
          · rw [List.append_nil] at z; exact List.mem_append_left _ z
        · exact r1.up a z)).trans (same_hid ex)
      have all : ∀ a ∈ A ++ (B ++ []), a ∈ A ∨ a ∈ B := fun a ha => (List.mem_append.mp ha).imp id fun z => by rw [List.append_nil] at z; exact z
      refine m.rt ⟨.tup upd_same (.cons (Rep.chg r1.nt kp (fun a _ o e => ex a o e) hr) (.cons (Rep.chg r1.nt kp (fun a _ o e => ex a o e) n.rep) .nil)), ?_, fun a ha => ?_, fun a ha => ?_, fun a ha => (o.box a ha).mono ex, r1.pin.trans ex⟩ hR
      · rw [List.append_nil]
        exact nodup_app ndA n.nd dis
      · rcases all a ha with z | z
        · exact r1.off a (hA a z)
        · exact pin_none r (n.new a z)
      · rcases all a ha with z | z
        · exact r1.nb a (hA a z)
        · exact fun q => r.live a (r.up a q) (n.new a z)
end Cg

set_option Elab.async false
set_option linter.all false
set_option maxRecDepth 100000
set_option maxHeartbeats 1000000
namespace K83
open PySem PySem.Spec PyProof.Rows L2 Evl Cg
def topS (i : Nat) : Stmt := PySem.Challenge.pw_crossgrants_k83_whole_covers_of_all_smal.main.body.getD i (.Pass ⟨0, 0, 0, 0⟩)
section
variable {P : Program} {w : World} {K : PySem.W.Frag} {mg : Str → Option Value} {base : Heap}
abbrev st_is_number : Stmt := topS 1
theorem sc_is_number : FnScope ["thing"] ["thing"] (defScope st_is_number) := ⟨rfl, rfl, rfl, by decide +kernel, rfl, by decide +kernel, by decide +kernel⟩
def w_is_number : WF := wFn false 1 0 (wRet (wSh (wAndV (wIs isInt (wVar 0)) (wNotV (wIs isBool (wVar 0))))))
theorem w_is_number_len {ds : List PyData} {N : Nat} {R : T → Nat → Prop} (h : w_is_number ds N R) : ds.length = 1 := h.1
theorem w_is_number_cg {ds ds' : List PyData} {N N' : Nat} {R : T → Nat → Prop} (h : ds = ds') (h' : N = N') : w_is_number ds N R = w_is_number ds' N' R := by rw [h, h']
theorem ok_is_number {f : Addr} {fd : FuncData} (F : Fun K "is_number" "is_number" st_is_number f fd) (B : Bm mg)  : FnOk P w K mg base CX0 1 f fd ["thing"] (spW false 1 w_is_number) := by
  refine F.ok sc_is_number (fun vs H Q E h => spW_len h) (fun cdv A outer s H vs Q E hr h => ?_)
  refine ⟨_, (pss_one (ps_ret (pe_and (pe_callB (isiK K) (by rfl) B.isinstance (by decide +kernel) (pa_cons (pv 0) (pa_cons (pe_bltn (v := .ty "int") (by rfl) B.int (by decide +kernel) rfl) pa_nil))) (pe_one (pe_not (pe_callB (isiK K) (by rfl) B.isinstance (by decide +kernel) (pa_cons (pv 0) (pa_cons (pe_bltn (v := .ty "bool") (by rfl) B.bool (by decide +kernel) rfl) pa_nil)))))))), ?_⟩
  exact run_w (k := 0) ((sim_ret (sim_sh (sim_andV (sim_isi kit_int sim_var) (sim_notV (sim_isi kit_bool sim_var)))))) rfl h
abbrev st_is_between : Stmt := topS 2
theorem sc_is_between : FnScope ["thing", "least", "most"] ["thing", "least", "most"] (defScope st_is_between) := ⟨rfl, rfl, rfl, by decide +kernel, rfl, by decide +kernel, by decide +kernel⟩
def w_is_between : WF := wFn false 3 0 (wRet (wSh (wAndV (wCall w_is_number (wCons (wVar 0) wNil)) (wChain oLe oLe (wVar 1) (wVar 0) (wVar 2)))))
theorem w_is_between_len {ds : List PyData} {N : Nat} {R : T → Nat → Prop} (h : w_is_between ds N R) : ds.length = 3 := h.1
theorem w_is_between_cg {ds ds' : List PyData} {N N' : Nat} {R : T → Nat → Prop} (h : ds = ds') (h' : N = N') : w_is_between ds N R = w_is_between ds' N' R := by rw [h, h']
theorem ok_is_between {f : Addr} {fd : FuncData} (F : Fun K "is_between" "is_between" st_is_between f fd) (B : Bm mg) {f_is_number : Addr} {fd_is_number : FuncData} (d_is_number : Df P w K mg base 1 "is_number" st_is_number ["thing"] f_is_number fd_is_number (spW false 1 w_is_number)) : FnOk P w K mg base CX0 2 f fd ["thing", "least", "most"] (spW false 3 w_is_between) := by
  refine F.ok sc_is_between (fun vs H Q E h => spW_len h) (fun cdv A outer s H vs Q E hr h => ?_)
  refine ⟨_, (pss_one (ps_ret (pe_and (pe_call d_is_number.G (hr.mono (by omega)) (by rfl) d_is_number.g d_is_number.F.kp d_is_number.b .nil pass0 (pa_cons (pv 0) pa_nil)) (pe_one (pe_chain op_le op_le (pv 1) (pv 0) (pv 2)))))), ?_⟩
  exact run_w (k := 0) ((sim_ret (sim_sh (sim_andV (sim_call w_is_number_len (sim_cons sim_var sim_nil)) (sim_chain od_le od_le sim_var sim_var sim_var))))) rfl h
abbrev st_is_place : Stmt := topS 3
theorem sc_is_place : FnScope ["thing", "many"] ["thing", "many"] (defScope st_is_place) := ⟨rfl, rfl, rfl, by decide +kernel, rfl, by decide +kernel, by decide +kernel⟩
def w_is_place : WF := wFn false 2 0 (wRet (wSh (wCall w_is_between (wCons (wVar 0) (wCons (wC (.int 0)) (wCons (wOp oSub (wVar 1) (wC (.int 1))) wNil))))))
theorem w_is_place_len {ds : List PyData} {N : Nat} {R : T → Nat → Prop} (h : w_is_place ds N R) : ds.length = 2 := h.1
theorem w_is_place_cg {ds ds' : List PyData} {N N' : Nat} {R : T → Nat → Prop} (h : ds = ds') (h' : N = N') : w_is_place ds N R = w_is_place ds' N' R := by rw [h, h']
theorem ok_is_place {f : Addr} {fd : FuncData} (F : Fun K "is_place" "is_place" st_is_place f fd) (B : Bm mg) {f_is_between : Addr} {fd_is_between : FuncData} (d_is_between : Df P w K mg base 2 "is_between" st_is_between ["thing", "least", "most"] f_is_between fd_is_between (spW false 3 w_is_between)) : FnOk P w K mg base CX0 3 f fd ["thing", "many"] (spW false 2 w_is_place) := by
  refine F.ok sc_is_place (fun vs H Q E h => spW_len h) (fun cdv A outer s H vs Q E hr h => ?_)
  refine ⟨_, (pss_one (ps_ret (pe_call d_is_between.G (hr.mono (by omega)) (by rfl) d_is_between.g d_is_between.F.kp d_is_between.b .nil pass0 (pa_cons (pv 0) (pa_cons pe_int (pa_cons (pe_op op_sub (pv 1) pe_int) pa_nil)))))), ?_⟩
  exact run_w (k := 0) ((sim_ret (sim_sh (sim_call w_is_between_len (sim_cons sim_var (sim_cons sim_int (sim_cons (sim_op od_sub sim_var sim_int) sim_nil))))))) rfl h
abbrev st_is_rising : Stmt := topS 4
theorem sc_is_rising : FnScope ["numbers", "one", "following"] ["numbers"] (defScope st_is_rising) := ⟨rfl, rfl, rfl, by decide +kernel, rfl, by decide +kernel, by decide +kernel⟩
def w_is_rising : WF := wFn false 1 2 (wRet (wSh (wCb oAll (wCons (wLc (wZip (wVar 0) (wSl (wVar 0) (wPart (wC (.int 1))) wNoPart)) (wGTup 2 (wGCons (wName 1) (wGCons (wName 2) wGNil))) wYes (wOp oLt (wVar 1) (wVar 2)) [1, 2]) wNil))))
theorem w_is_rising_len {ds : List PyData} {N : Nat} {R : T → Nat → Prop} (h : w_is_rising ds N R) : ds.length = 1 := h.1
theorem w_is_rising_cg {ds ds' : List PyData} {N N' : Nat} {R : T → Nat → Prop} (h : ds = ds') (h' : N = N') : w_is_rising ds N R = w_is_rising ds' N' R := by rw [h, h']
theorem ok_is_rising {f : Addr} {fd : FuncData} (F : Fun K "is_rising" "is_rising" st_is_rising f fd) (B : Bm mg)  : FnOk P w K mg base CX0 1 f fd ["numbers"] (spW false 1 w_is_rising) := by
  refine F.ok sc_is_rising (fun vs H Q E h => spW_len h) (fun cdv A outer s H vs Q E hr h => ?_)
  refine ⟨_, (pss_one (ps_ret (pe_callB (allK K) (by rfl) B.all (by decide +kernel) (pa_cons (pe_lc (own := [("one", 1), ("following", 2)]) rfl sc_is_rising.nd (pi_zipS K (by rfl) B.zip (pa_cons (pv 0) (pa_cons (pe_slice (slLK K) (pv 0) (po_some pe_int) po_none) pa_nil))) (blkOk_by (own := [("one", 1), ("following", 2)]) (by kernel_rfl)) (fun _ _ _ _ _ => (pg_tupK K (n := 2) rfl (pgs_cons (pg_name (i := 1) sc_is_rising.nd rfl (.inl rfl)) (pgs_cons (pg_name (i := 2) sc_is_rising.nd rfl (.inl rfl)) pgs_nil)))) (fun _ _ _ _ _ => pts_nil) (fun _ _ _ _ _ => (pe_cmpR op_lt (pv 1) (pv 2) (nomark _)))) pa_nil)))), ?_⟩
  exact run_w (k := 2) ((sim_ret (sim_sh (sim_cb cb_all (sim_cons (sim_lc (sim_zip sim_var (sim_sl sim_var (sim_part sim_int) sim_noPart)) (sim_gtup (sim_gcons (sim_name (vs := [1, 2]) (by decide)) (sim_gcons (sim_name (vs := [1, 2]) (by decide)) sim_gnil))) sim_yes (sim_op od_lt sim_var sim_var)) sim_nil))))) rfl h
abbrev st_outlets_in : Stmt := topS 6
theorem sc_outlets_in : FnScope ["table"] ["table"] (defScope st_outlets_in) := ⟨rfl, rfl, rfl, by decide +kernel, rfl, by decide +kernel, by decide +kernel⟩
def w_outlets_in : WF := wFn false 1 0 (wRet (wSh (wIf (wTru (wVar 0)) (wCb oLen (wCons (wOp oIx (wVar 0) (wC (.int 0))) wNil)) (wC (.int 0)))))
theorem w_outlets_in_len {ds : List PyData} {N : Nat} {R : T → Nat → Prop} (h : w_outlets_in ds N R) : ds.length = 1 := h.1
theorem w_outlets_in_cg {ds ds' : List PyData} {N N' : Nat} {R : T → Nat → Prop} (h : ds = ds') (h' : N = N') : w_outlets_in ds N R = w_outlets_in ds' N' R := by rw [h, h']
theorem ok_outlets_in {f : Addr} {fd : FuncData} (F : Fun K "outlets_in" "outlets_in" st_outlets_in f fd) (B : Bm mg)  : FnOk P w K mg base CX0 1 f fd ["table"] (spW false 1 w_outlets_in) := by
  refine F.ok sc_outlets_in (fun vs H Q E h => spW_len h) (fun cdv A outer s H vs Q E hr h => ?_)
  refine ⟨_, (pss_one (ps_ret (pe_ifExp (pt_truthK K (pv 0) (by intro _; rfl)) (pe_callB (lenK K) (by rfl) B.len (by decide +kernel) (pa_cons (pe_ix (ixSK K) (pv 0) pe_int (fun _ _ => rfl)) pa_nil)) pe_int))), ?_⟩
  exact run_w (k := 0) ((sim_ret (sim_sh (sim_if (sim_tru sim_var) (sim_cb cb_len (sim_cons (sim_op od_ix sim_var sim_int) sim_nil)) sim_int)))) rfl h
abbrev st_asks_of : Stmt := topS 7
theorem sc_asks_of : FnScope ["table", "inlet", "row", "outlet", "mark"] ["table"] (defScope st_asks_of) := ⟨rfl, rfl, rfl, by decide +kernel, rfl, by decide +kernel, by decide +kernel⟩
def w_asks_of : WF := wFn false 1 4 (wRet (wLcT2 (wEnum (wVar 0)) (wGTup 2 (wGCons (wName 1) (wGCons (wName 2) wGNil))) wYes (wEnum (wVar 2)) (wGTup 2 (wGCons (wName 3) (wGCons (wName 4) wGNil))) (wTest (wOp oEq (wVar 4) (wC (.int 1)))) (wTup (wCons (wVar 1) (wCons (wVar 3) wNil))) [1, 2, 3, 4] [3, 4]))
theorem w_asks_of_len {ds : List PyData} {N : Nat} {R : T → Nat → Prop} (h : w_asks_of ds N R) : ds.length = 1 := h.1
theorem w_asks_of_cg {ds ds' : List PyData} {N N' : Nat} {R : T → Nat → Prop} (h : ds = ds') (h' : N = N') : w_asks_of ds N R = w_asks_of ds' N' R := by rw [h, h']
theorem ok_asks_of {f : Addr} {fd : FuncData} (F : Fun K "asks_of" "asks_of" st_asks_of f fd) (B : Bm mg)  : FnOk P w K mg base CX0 1 f fd ["table"] (spW false 1 w_asks_of) := by
  refine F.ok sc_asks_of (fun vs H Q E h => spW_len h) (fun cdv A outer s H vs Q E hr h => ?_)
  refine ⟨_, (pss_one (ps_ret (pe_lc2 (own := [("inlet", 1), ("row", 2), ("outlet", 3), ("mark", 4)]) (vs1 := [3, 4]) rfl sc_asks_of.nd (pi_enumS K (by rfl) B.enumerate (pa_cons (pv 0) pa_nil)) (blkOk_by (own := [("inlet", 1), ("row", 2), ("outlet", 3), ("mark", 4)]) (by kernel_rfl)) (by decide) (fun _ _ _ _ _ => (pg_tupK K (n := 2) rfl (pgs_cons (pg_name (i := 1) sc_asks_of.nd rfl (.inl rfl)) (pgs_cons (pg_name (i := 2) sc_asks_of.nd rfl (.inl rfl)) pgs_nil)))) (fun _ _ _ _ _ => pts_nil) (fun _ _ _ _ _ => (pi_enumS K (by rfl) B.enumerate (pa_cons (pv 2) pa_nil))) (fun _ _ _ _ _ => (pg_tupK K (n := 2) rfl (pgs_cons (pg_name (i := 3) sc_asks_of.nd rfl (.inl rfl)) (pgs_cons (pg_name (i := 4) sc_asks_of.nd rfl (.inl rfl)) pgs_nil)))) (fun _ _ _ _ _ => (pts_one (pt_cmpR (op_eqU K hr.units) (pv 4) pe_int (nomark _)))) (fun _ _ _ _ _ => (pe_tup (pa_cons (pv 1) (pa_cons (pv 3) pa_nil))))))), ?_⟩
  exact run_w (k := 4) ((sim_ret (sim_lcT2 (sim_enum sim_var) (sim_gtup (sim_gcons (sim_name (vs := [1, 2, 3, 4]) (by decide)) (sim_gcons (sim_name (vs := [1, 2, 3, 4]) (by decide)) sim_gnil))) sim_yes (sim_enum sim_var) (sim_gtup (sim_gcons (sim_name (vs := [3, 4]) (by decide)) (sim_gcons (sim_name (vs := [3, 4]) (by decide)) sim_gnil))) (sim_test (sim_op od_eq sim_var sim_int)) (sim_tup (sim_cons sim_var (sim_cons sim_var sim_nil)))))) rfl h
abbrev st_left_out : Stmt := topS 8
theorem sc_left_out : FnScope ["table", "inlets", "outlets", "inlet", "row", "outlet", "mark"] ["table", "inlets", "outlets"] (defScope st_left_out) := ⟨rfl, rfl, rfl, by decide +kernel, rfl, by decide +kernel, by decide +kernel⟩
def w_left_out : WF := wFn false 3 4 (wRet (wLcT (wEnum (wVar 0)) (wGTup 2 (wGCons (wName 3) (wGCons (wName 4) wGNil))) wYes (wLcT (wEnum (wVar 4)) (wGTup 2 (wGCons (wName 5) (wGCons (wName 6) wGNil))) wYes (wSh (wIf (wOr (wTest (wOp (oIn false) (wVar 3) (wVar 1))) (wTest (wOp (oIn false) (wVar 5) (wVar 2)))) (wC (.int 0)) (wVar 6))) [5, 6]) [3, 4]))
theorem w_left_out_len {ds : List PyData} {N : Nat} {R : T → Nat → Prop} (h : w_left_out ds N R) : ds.length = 3 := h.1
theorem w_left_out_cg {ds ds' : List PyData} {N N' : Nat} {R : T → Nat → Prop} (h : ds = ds') (h' : N = N') : w_left_out ds N R = w_left_out ds' N' R := by rw [h, h']
theorem ok_left_out {f : Addr} {fd : FuncData} (F : Fun K "left_out" "left_out" st_left_out f fd) (B : Bm mg)  : FnOk P w K mg base CX0 1 f fd ["table", "inlets", "outlets"] (spW false 3 w_left_out) := by
  refine F.ok sc_left_out (fun vs H Q E h => spW_len h) (fun cdv A outer s H vs Q E hr h => ?_)
  refine ⟨_, (pss_one (ps_ret (pe_lc (own := [("inlet", 3), ("row", 4)]) rfl sc_left_out.nd (pi_enumS K (by rfl) B.enumerate (pa_cons (pv 0) pa_nil)) (blkOk_by (own := [("inlet", 3), ("row", 4)]) (by kernel_rfl)) (fun _ _ _ _ _ => (pg_tupK K (n := 2) rfl (pgs_cons (pg_name (i := 3) sc_left_out.nd rfl (by first | exact Or.inl rfl | exact Or.inr rfl)) (pgs_cons (pg_name (i := 4) sc_left_out.nd rfl (by first | exact Or.inl rfl | exact Or.inr rfl)) pgs_nil)))) (fun _ _ _ _ _ => pts_nil) (fun _ _ _ _ _ => (pe_lc (own := [("outlet", 5), ("mark", 6)]) rfl sc_left_out.nd (pi_enumS K (by rfl) B.enumerate (pa_cons (pv 4) pa_nil)) (blkOk_by (own := [("outlet", 5), ("mark", 6)]) (by kernel_rfl)) (fun _ _ _ _ _ => (pg_tupK K (n := 2) rfl (pgs_cons (pg_name (i := 5) sc_left_out.nd rfl (.inl rfl)) (pgs_cons (pg_name (i := 6) sc_left_out.nd rfl (.inl rfl)) pgs_nil)))) (fun _ _ _ _ _ => pts_nil) (fun _ _ _ _ _ => (pe_ifExp (PW.pt (pw_or (pt_cmpR (inK K) (pv 3) (pv 1) (by with_unfolding_all rfl)) (pw_or1 (pt_cmpR (inK K) (pv 5) (pv 2) (by with_unfolding_all rfl))))) pe_int (pv 6)))))))), ?_⟩
  exact run_w (k := 4) ((sim_ret (sim_lcT (sim_enum sim_var) (sim_gtup (sim_gcons (sim_name (vs := [3, 4]) (by decide)) (sim_gcons (sim_name (vs := [3, 4]) (by decide)) sim_gnil))) sim_yes (sim_lcT (sim_enum sim_var) (sim_gtup (sim_gcons (sim_name (vs := [5, 6]) (by decide)) (sim_gcons (sim_name (vs := [5, 6]) (by decide)) sim_gnil))) sim_yes (sim_sh (sim_if (sim_or (sim_test (sim_op od_in sim_var sim_var)) (sim_test (sim_op od_in sim_var sim_var))) sim_int sim_var)))))) rfl h
abbrev st_is_ask : Stmt := topS 10
theorem sc_is_ask : FnScope ["table", "thing", "inlet", "outlet"] ["table", "thing"] (defScope st_is_ask) := ⟨rfl, rfl, rfl, by decide +kernel, rfl, by decide +kernel, by decide +kernel⟩
def w_is_ask : WF := wFn false 2 2 (wSeq (wIfS (wOr (wNot (wTest (wIs isTuple (wVar 1)))) (wTest (wOp oNe (wCb oLen (wCons (wVar 1) wNil)) (wC (.int 2)))))
 (wRet (wSh (wC (.bool false))))
 wSkip)
 (wSeq (wAsg (wVar 1) (wGTup 2 (wGCons (wName 2) (wGCons (wName 3) wGNil))))
 (wRet (wSh (wAndV (wCall w_is_place (wCons (wVar 2) (wCons (wCb oLen (wCons (wVar 0) wNil)) wNil))) (wAndV (wCall w_is_place (wCons (wVar 3) (wCons (wCall w_outlets_in (wCons (wVar 0) wNil)) wNil))) (wOp oEq (wOp oIx (wOp oIx (wVar 0) (wVar 2)) (wVar 3)) (wC (.int 1)))))))))
theorem w_is_ask_len {ds : List PyData} {N : Nat} {R : T → Nat → Prop} (h : w_is_ask ds N R) : ds.length = 2 := h.1
theorem w_is_ask_cg {ds ds' : List PyData} {N N' : Nat} {R : T → Nat → Prop} (h : ds = ds') (h' : N = N') : w_is_ask ds N R = w_is_ask ds' N' R := by rw [h, h']
theorem ok_is_ask {f : Addr} {fd : FuncData} (F : Fun K "is_ask" "is_ask" st_is_ask f fd) (B : Bm mg) {f_is_place : Addr} {fd_is_place : FuncData} (d_is_place : Df P w K mg base 3 "is_place" st_is_place ["thing", "many"] f_is_place fd_is_place (spW false 2 w_is_place)) {f_outlets_in : Addr} {fd_outlets_in : FuncData} (d_outlets_in : Df P w K mg base 1 "outlets_in" st_outlets_in ["table"] f_outlets_in fd_outlets_in (spW false 1 w_outlets_in)) : FnOk P w K mg base CX0 4 f fd ["table", "thing"] (spW false 2 w_is_ask) := by
  refine F.ok sc_is_ask (fun vs H Q E h => spW_len h) (fun cdv A outer s H vs Q E hr h => ?_)
  refine ⟨_, (pss_cons (ps_if (PW.pt (pw_or (pt_not (pt_val (pe_callB (isiK K) (by rfl) B.isinstance (by decide +kernel) (pa_cons (pv 1) (pa_cons (pe_bltn (v := .ty "tuple") (by rfl) B.tuple (by decide +kernel) rfl) pa_nil))))) (pw_or1 (pt_cmpR (op_neU K hr.units) (pe_callB (lenK K) (by rfl) B.len (by decide +kernel) (pa_cons (pv 1) pa_nil)) pe_int (nomark _)))))
 (pss_one (ps_ret pe_bl))
 pss_nil)
 (pss_cons (ps_asg (pv 1) (pg_tupK K (n := 2) rfl (pgs_cons (pg_name (i := 2) sc_is_ask.nd rfl (.inl rfl)) (pgs_cons (pg_name (i := 3) sc_is_ask.nd rfl (.inl rfl)) pgs_nil))))
 (pss_one (ps_ret (pe_and (pe_call d_is_place.G (hr.mono (by omega)) (by rfl) d_is_place.g d_is_place.F.kp d_is_place.b .nil pass0 (pa_cons (pv 2) (pa_cons (pe_callB (lenK K) (by rfl) B.len (by decide +kernel) (pa_cons (pv 0) pa_nil)) pa_nil))) (pe_and (pe_call d_is_place.G (hr.mono (by omega)) (by rfl) d_is_place.g d_is_place.F.kp d_is_place.b .nil pass0 (pa_cons (pv 3) (pa_cons (pe_call d_outlets_in.G (hr.mono (by omega)) (by rfl) d_outlets_in.g d_outlets_in.F.kp d_outlets_in.b .nil pass0 (pa_cons (pv 0) pa_nil)) pa_nil))) (pe_one (pe_cmpR (op_eqU K hr.units) (pe_ix (ixSK K) (pe_ix (ixSK K) (pv 0) (pv 2) (fun _ _ => rfl)) (pv 3) (fun _ _ => rfl)) pe_int (nomark _))))))))), ?_⟩
  exact run_w (k := 2) ((sim_seq (sim_ifS (sim_or (sim_not (sim_tB (sim_isi kit_tuple sim_var))) (sim_test (sim_op od_ne (sim_cb cb_len (sim_cons sim_var sim_nil)) sim_int)))
 (sim_ret (sim_sh sim_bl))
 sim_skip)
 (sim_seq (sim_asg sim_var (sim_gtup (sim_gcons (sim_name (vs := [2, 3]) (by decide)) (sim_gcons (sim_name (vs := [2, 3]) (by decide)) sim_gnil))))
 (sim_ret (sim_sh (sim_andV (sim_call w_is_place_len (sim_cons sim_var (sim_cons (sim_cb cb_len (sim_cons sim_var sim_nil)) sim_nil))) (sim_andV (sim_call w_is_place_len (sim_cons sim_var (sim_cons (sim_call w_outlets_in_len (sim_cons sim_var sim_nil)) sim_nil))) (sim_op od_eq (sim_op od_ix (sim_op od_ix sim_var sim_var) sim_var) sim_int)))))))) rfl h
abbrev st_inlets_of : Stmt := topS 12
theorem sc_inlets_of : FnScope ["pairs", "inlet", "outlet"] ["pairs"] (defScope st_inlets_of) := ⟨rfl, rfl, rfl, by decide +kernel, rfl, by decide +kernel, by decide +kernel⟩
def w_inlets_of : WF := wFn false 1 2 (wRet (wLcT (wIt (wVar 0)) (wGTup 2 (wGCons (wName 1) (wGCons (wName 2) wGNil))) wYes (wSh (wVar 1)) [1, 2]))
theorem w_inlets_of_len {ds : List PyData} {N : Nat} {R : T → Nat → Prop} (h : w_inlets_of ds N R) : ds.length = 1 := h.1
theorem w_inlets_of_cg {ds ds' : List PyData} {N N' : Nat} {R : T → Nat → Prop} (h : ds = ds') (h' : N = N') : w_inlets_of ds N R = w_inlets_of ds' N' R := by rw [h, h']
theorem ok_inlets_of {f : Addr} {fd : FuncData} (F : Fun K "inlets_of" "inlets_of" st_inlets_of f fd) (B : Bm mg)  : FnOk P w K mg base CX0 1 f fd ["pairs"] (spW false 1 w_inlets_of) := by
  refine F.ok sc_inlets_of (fun vs H Q E h => spW_len h) (fun cdv A outer s H vs Q E hr h => ?_)
  refine ⟨_, (pss_one (ps_ret (pe_lc (own := [("inlet", 1), ("outlet", 2)]) rfl sc_inlets_of.nd (pi_seq K (pv 0)) (blkOk_by (own := [("inlet", 1), ("outlet", 2)]) (by kernel_rfl)) (fun _ _ _ _ _ => (pg_tupK K (n := 2) rfl (pgs_cons (pg_name (i := 1) sc_inlets_of.nd rfl (.inl rfl)) (pgs_cons (pg_name (i := 2) sc_inlets_of.nd rfl (.inl rfl)) pgs_nil)))) (fun _ _ _ _ _ => pts_nil) (fun _ _ _ _ _ => (pv 1))))), ?_⟩
  exact run_w (k := 2) ((sim_ret (sim_lcT (sim_it sim_var) (sim_gtup (sim_gcons (sim_name (vs := [1, 2]) (by decide)) (sim_gcons (sim_name (vs := [1, 2]) (by decide)) sim_gnil))) sim_yes (sim_sh sim_var)))) rfl h
abbrev st_outlets_of : Stmt := topS 13
theorem sc_outlets_of : FnScope ["pairs", "inlet", "outlet"] ["pairs"] (defScope st_outlets_of) := ⟨rfl, rfl, rfl, by decide +kernel, rfl, by decide +kernel, by decide +kernel⟩
def w_outlets_of : WF := wFn false 1 2 (wRet (wLcT (wIt (wVar 0)) (wGTup 2 (wGCons (wName 1) (wGCons (wName 2) wGNil))) wYes (wSh (wVar 2)) [1, 2]))
theorem w_outlets_of_len {ds : List PyData} {N : Nat} {R : T → Nat → Prop} (h : w_outlets_of ds N R) : ds.length = 1 := h.1
theorem w_outlets_of_cg {ds ds' : List PyData} {N N' : Nat} {R : T → Nat → Prop} (h : ds = ds') (h' : N = N') : w_outlets_of ds N R = w_outlets_of ds' N' R := by rw [h, h']
theorem ok_outlets_of {f : Addr} {fd : FuncData} (F : Fun K "outlets_of" "outlets_of" st_outlets_of f fd) (B : Bm mg)  : FnOk P w K mg base CX0 1 f fd ["pairs"] (spW false 1 w_outlets_of) := by
  refine F.ok sc_outlets_of (fun vs H Q E h => spW_len h) (fun cdv A outer s H vs Q E hr h => ?_)
  refine ⟨_, (pss_one (ps_ret (pe_lc (own := [("inlet", 1), ("outlet", 2)]) rfl sc_outlets_of.nd (pi_seq K (pv 0)) (blkOk_by (own := [("inlet", 1), ("outlet", 2)]) (by kernel_rfl)) (fun _ _ _ _ _ => (pg_tupK K (n := 2) rfl (pgs_cons (pg_name (i := 1) sc_outlets_of.nd rfl (.inl rfl)) (pgs_cons (pg_name (i := 2) sc_outlets_of.nd rfl (.inl rfl)) pgs_nil)))) (fun _ _ _ _ _ => pts_nil) (fun _ _ _ _ _ => (pv 2))))), ?_⟩
  exact run_w (k := 2) ((sim_ret (sim_lcT (sim_it sim_var) (sim_gtup (sim_gcons (sim_name (vs := [1, 2]) (by decide)) (sim_gcons (sim_name (vs := [1, 2]) (by decide)) sim_gnil))) sim_yes (sim_sh sim_var)))) rfl h
abbrev st_are_pairs : Stmt := topS 11
theorem sc_are_pairs : FnScope ["table", "thing", "pair"] ["table", "thing"] (defScope st_are_pairs) := ⟨rfl, rfl, rfl, by decide +kernel, rfl, by decide +kernel, by decide +kernel⟩
def w_are_pairs : WF := wFn false 2 1 (wSeq (wIfS (wOr (wNot (wTest (wIs isList (wVar 1)))) (wNot (wTest (wCb oAll (wCons (wLc (wIt (wVar 1)) (wName 2) wYes (wCall w_is_ask (wCons (wVar 0) (wCons (wVar 2) wNil))) [2]) wNil)))))
 (wRet (wSh (wC (.bool false))))
 wSkip)
 (wRet (wSh (wAndV (wCall w_is_rising (wCons (wCall w_inlets_of (wCons (wVar 1) wNil)) wNil)) (wCall w_is_rising (wCons (wFz (wCbT oSortI (wCons (wCall w_outlets_of (wCons (wVar 1) wNil)) wNil))) wNil))))))
theorem w_are_pairs_len {ds : List PyData} {N : Nat} {R : T → Nat → Prop} (h : w_are_pairs ds N R) : ds.length = 2 := h.1
theorem w_are_pairs_cg {ds ds' : List PyData} {N N' : Nat} {R : T → Nat → Prop} (h : ds = ds') (h' : N = N') : w_are_pairs ds N R = w_are_pairs ds' N' R := by rw [h, h']
theorem ok_are_pairs {f : Addr} {fd : FuncData} (F : Fun K "are_pairs" "are_pairs" st_are_pairs f fd) (B : Bm mg) {f_inlets_of : Addr} {fd_inlets_of : FuncData} (d_inlets_of : Df P w K mg base 1 "inlets_of" st_inlets_of ["pairs"] f_inlets_of fd_inlets_of (spW false 1 w_inlets_of)) {f_is_ask : Addr} {fd_is_ask : FuncData} (d_is_ask : Df P w K mg base 4 "is_ask" st_is_ask ["table", "thing"] f_is_ask fd_is_ask (spW false 2 w_is_ask)) {f_is_rising : Addr} {fd_is_rising : FuncData} (d_is_rising : Df P w K mg base 1 "is_rising" st_is_rising ["numbers"] f_is_rising fd_is_rising (spW false 1 w_is_rising)) {f_outlets_of : Addr} {fd_outlets_of : FuncData} (d_outlets_of : Df P w K mg base 1 "outlets_of" st_outlets_of ["pairs"] f_outlets_of fd_outlets_of (spW false 1 w_outlets_of)) : FnOk P w K mg base CX0 5 f fd ["table", "thing"] (spW false 2 w_are_pairs) := by
  refine F.ok sc_are_pairs (fun vs H Q E h => spW_len h) (fun cdv A outer s H vs Q E hr h => ?_)
  refine ⟨_, (pss_cons (ps_if (PW.pt (pw_or (pt_not (pt_val (pe_callB (isiK K) (by rfl) B.isinstance (by decide +kernel) (pa_cons (pv 1) (pa_cons (pe_bltn (v := .ty "list") (by rfl) B.list (by decide +kernel) rfl) pa_nil))))) (pw_or1 (pt_not (pt_val (pe_callB (allK K) (by rfl) B.all (by decide +kernel) (pa_cons (pe_lc (own := [("pair", 2)]) rfl sc_are_pairs.nd (pi_seq K (pv 1)) (blkOk_by (own := [("pair", 2)]) (by kernel_rfl)) (fun _ _ _ _ _ => (pg_name (i := 2) sc_are_pairs.nd rfl (.inl rfl))) (fun _ _ _ _ _ => pts_nil) (fun _ _ _ _ _ => (pe_call d_is_ask.G (hr.mono (by omega)) (by rfl) d_is_ask.g d_is_ask.F.kp d_is_ask.b .nil pass0 (pa_cons (pv 0) (pa_cons (pv 2) pa_nil))))) pa_nil)))))))
 (pss_one (ps_ret pe_bl))
 pss_nil)
 (pss_one (ps_ret (pe_and (pe_call d_is_rising.G (hr.mono (by omega)) (by rfl) d_is_rising.g d_is_rising.F.kp d_is_rising.b .nil pass0 (pa_cons (pe_call d_inlets_of.G (hr.mono (by omega)) (by rfl) d_inlets_of.g d_inlets_of.F.kp d_inlets_of.b .nil pass0 (pa_cons (pv 1) pa_nil)) pa_nil)) (pe_one (pe_call d_is_rising.G (hr.mono (by omega)) (by rfl) d_is_rising.g d_is_rising.F.kp d_is_rising.b .nil pass0 (pa_cons (pe_callB (sortedIK K) (by rfl) B.sorted (by decide +kernel) (pa_cons (pe_call d_outlets_of.G (hr.mono (by omega)) (by rfl) d_outlets_of.g d_outlets_of.F.kp d_outlets_of.b .nil pass0 (pa_cons (pv 1) pa_nil)) pa_nil)) pa_nil))))))), ?_⟩
  exact run_w (k := 1) ((sim_seq (sim_ifS (sim_or (sim_not (sim_tB (sim_isi kit_list sim_var))) (sim_not (sim_tB (sim_cb cb_all (sim_cons (sim_lc (sim_it sim_var) (sim_name (vs := [2]) (by decide)) sim_yes (sim_call w_is_ask_len (sim_cons sim_var (sim_cons sim_var sim_nil)))) sim_nil)))))
 (sim_ret (sim_sh sim_bl))
 sim_skip)
 (sim_ret (sim_sh (sim_andV (sim_call w_is_rising_len (sim_cons (sim_call w_inlets_of_len (sim_cons sim_var sim_nil)) sim_nil)) (sim_call w_is_rising_len (sim_cons (sim_fz (sim_cbT cn_sortI (sim_cons (sim_call w_outlets_of_len (sim_cons sim_var sim_nil)) sim_nil))) sim_nil))))))) rfl h
abbrev st_asks_left : Stmt := topS 14
theorem sc_asks_left : FnScope ["table", "pairs"] ["table", "pairs"] (defScope st_asks_left) := ⟨rfl, rfl, rfl, by decide +kernel, rfl, by decide +kernel, by decide +kernel⟩
def w_asks_left : WF := wFn false 2 0 (wRet (wCallT w_left_out (wCons (wVar 0) (wCons (wCall w_inlets_of (wCons (wVar 1) wNil)) (wCons (wCall w_outlets_of (wCons (wVar 1) wNil)) wNil)))))
theorem w_asks_left_len {ds : List PyData} {N : Nat} {R : T → Nat → Prop} (h : w_asks_left ds N R) : ds.length = 2 := h.1
theorem w_asks_left_cg {ds ds' : List PyData} {N N' : Nat} {R : T → Nat → Prop} (h : ds = ds') (h' : N = N') : w_asks_left ds N R = w_asks_left ds' N' R := by rw [h, h']
theorem ok_asks_left {f : Addr} {fd : FuncData} (F : Fun K "asks_left" "asks_left" st_asks_left f fd) (B : Bm mg) {f_inlets_of : Addr} {fd_inlets_of : FuncData} (d_inlets_of : Df P w K mg base 1 "inlets_of" st_inlets_of ["pairs"] f_inlets_of fd_inlets_of (spW false 1 w_inlets_of)) {f_left_out : Addr} {fd_left_out : FuncData} (d_left_out : Df P w K mg base 1 "left_out" st_left_out ["table", "inlets", "outlets"] f_left_out fd_left_out (spW false 3 w_left_out)) {f_outlets_of : Addr} {fd_outlets_of : FuncData} (d_outlets_of : Df P w K mg base 1 "outlets_of" st_outlets_of ["pairs"] f_outlets_of fd_outlets_of (spW false 1 w_outlets_of)) : FnOk P w K mg base CX0 2 f fd ["table", "pairs"] (spW false 2 w_asks_left) := by
  refine F.ok sc_asks_left (fun vs H Q E h => spW_len h) (fun cdv A outer s H vs Q E hr h => ?_)
  refine ⟨_, (pss_one (ps_ret (pe_call d_left_out.G (hr.mono (by omega)) (by rfl) d_left_out.g d_left_out.F.kp d_left_out.b .nil pass0 (pa_cons (pv 0) (pa_cons (pe_call d_inlets_of.G (hr.mono (by omega)) (by rfl) d_inlets_of.g d_inlets_of.F.kp d_inlets_of.b .nil pass0 (pa_cons (pv 1) pa_nil)) (pa_cons (pe_call d_outlets_of.G (hr.mono (by omega)) (by rfl) d_outlets_of.g d_outlets_of.F.kp d_outlets_of.b .nil pass0 (pa_cons (pv 1) pa_nil)) pa_nil)))))), ?_⟩
  exact run_w (k := 0) ((sim_ret (sim_callT w_left_out_len (sim_cons sim_var (sim_cons (sim_call w_inlets_of_len (sim_cons sim_var sim_nil)) (sim_cons (sim_call w_outlets_of_len (sim_cons sim_var sim_nil)) sim_nil)))))) rfl h
abbrev st_free_ask : Stmt := topS 15
theorem sc_free_ask : FnScope ["table", "pairs", "asks"] ["table", "pairs"] (defScope st_free_ask) := ⟨rfl, rfl, rfl, by decide +kernel, rfl, by decide +kernel, by decide +kernel⟩
def w_free_ask : WF := wFn false 2 1 (wSeq (wAsg (wCall w_asks_of (wCons (wCall w_asks_left (wCons (wVar 0) (wCons (wVar 1) wNil))) wNil)) (wName 2))
 (wRet (wSh (wIf (wTru (wVar 2)) (wOp oIx (wVar 2) (wC (.int 0))) (wC .none)))))
theorem w_free_ask_len {ds : List PyData} {N : Nat} {R : T → Nat → Prop} (h : w_free_ask ds N R) : ds.length = 2 := h.1
theorem w_free_ask_cg {ds ds' : List PyData} {N N' : Nat} {R : T → Nat → Prop} (h : ds = ds') (h' : N = N') : w_free_ask ds N R = w_free_ask ds' N' R := by rw [h, h']
theorem ok_free_ask {f : Addr} {fd : FuncData} (F : Fun K "free_ask" "free_ask" st_free_ask f fd) (B : Bm mg) {f_asks_left : Addr} {fd_asks_left : FuncData} (d_asks_left : Df P w K mg base 2 "asks_left" st_asks_left ["table", "pairs"] f_asks_left fd_asks_left (spW false 2 w_asks_left)) {f_asks_of : Addr} {fd_asks_of : FuncData} (d_asks_of : Df P w K mg base 1 "asks_of" st_asks_of ["table"] f_asks_of fd_asks_of (spW false 1 w_asks_of)) : FnOk P w K mg base CX0 3 f fd ["table", "pairs"] (spW false 2 w_free_ask) := by
  refine F.ok sc_free_ask (fun vs H Q E h => spW_len h) (fun cdv A outer s H vs Q E hr h => ?_)
  refine ⟨_, (pss_cons (ps_set (i := 2) sc_free_ask.nd rfl (.inl rfl) (pe_call d_asks_of.G (hr.mono (by omega)) (by rfl) d_asks_of.g d_asks_of.F.kp d_asks_of.b .nil pass0 (pa_cons (pe_call d_asks_left.G (hr.mono (by omega)) (by rfl) d_asks_left.g d_asks_left.F.kp d_asks_left.b .nil pass0 (pa_cons (pv 0) (pa_cons (pv 1) pa_nil))) pa_nil)))
 (pss_one (ps_ret (pe_ifExp (pt_truthK K (pv 2) (by intro _; rfl)) (pe_ix (ixSK K) (pv 2) pe_int (fun _ _ => rfl)) pe_non)))), ?_⟩
  exact run_w (k := 1) ((sim_seq (sim_asg (sim_call w_asks_of_len (sim_cons (sim_call w_asks_left_len (sim_cons sim_var (sim_cons sim_var sim_nil))) sim_nil)) (sim_name (vs := [2]) (by decide)))
 (sim_ret (sim_sh (sim_if (sim_tru sim_var) (sim_op od_ix sim_var sim_int) sim_non))))) rfl h
abbrev st_first_pairs : Stmt := topS 16
theorem sc_first_pairs : FnScope ["table", "pairs", "ask"] ["table"] (defScope st_first_pairs) := ⟨rfl, rfl, rfl, by decide +kernel, rfl, by decide +kernel, by decide +kernel⟩
def w_first_pairs : WF := wFn false 1 2 (wSeq (wAsgT 1 (wLstT wNilT))
 (wSeq (wAsg (wVw (wCall w_free_ask (wCons (wVar 0) (wCons (wVar 1) wNil)))) (wName 2))
 (wSeq (wWhile (wTest (wOp oIsNot (wVar 2) (wC .none)))
 (wSeq (wApp 1 (wSh (wVar 2)))
 (wAsg (wVw (wCall w_free_ask (wCons (wVar 0) (wCons (wVar 1) wNil)))) (wName 2))))
 (wRetV 1))))
theorem w_first_pairs_len {ds : List PyData} {N : Nat} {R : T → Nat → Prop} (h : w_first_pairs ds N R) : ds.length = 1 := h.1
theorem w_first_pairs_cg {ds ds' : List PyData} {N N' : Nat} {R : T → Nat → Prop} (h : ds = ds') (h' : N = N') : w_first_pairs ds N R = w_first_pairs ds' N' R := by rw [h, h']
theorem ok_first_pairs {f : Addr} {fd : FuncData} (F : Fun K "first_pairs" "first_pairs" st_first_pairs f fd) (B : Bm mg) {f_free_ask : Addr} {fd_free_ask : FuncData} (d_free_ask : Df P w K mg base 3 "free_ask" st_free_ask ["table", "pairs"] f_free_ask fd_free_ask (spW false 2 w_free_ask)) : FnOk P w K mg base CX0 4 f fd ["table"] (spW false 1 w_first_pairs) := by
  refine F.ok sc_first_pairs (fun vs H Q E h => spW_len h) (fun cdv A outer s H vs Q E hr h => ?_)
  refine ⟨_, (pss_cons (ps_set (i := 1) sc_first_pairs.nd rfl (.inl rfl) (pe_lst pa_nil))
 (pss_cons (ps_set (i := 2) sc_first_pairs.nd rfl (.inl rfl) (pe_call d_free_ask.G (hr.mono (by omega)) (by rfl) d_free_ask.g d_free_ask.F.kp d_free_ask.b .nil pass0 (pa_cons (pv 0) (pa_cons (pv 1) pa_nil))))
 (pss_cons (ps_while PassesOwn.never (pt_cmpR op_notN (pv 2) pe_non (nomark _))
 (pss_cons (ps_expr (pe_bm PySem.F.plainAttrs_list PySem.F.slot_list_append PySem.F.type_list_append mt_append (pv 1) (pa_cons (pv 2) pa_nil)))
 (pss_one (ps_set (i := 2) sc_first_pairs.nd rfl (.inl rfl) (pe_call d_free_ask.G (hr.mono (by omega)) (by rfl) d_free_ask.g d_free_ask.F.kp d_free_ask.b .nil pass0 (pa_cons (pv 0) (pa_cons (pv 1) pa_nil)))))))
 (pss_one (ps_ret (pv 1)))))), ?_⟩
  exact run_w (k := 2) ((sim_seq (sim_asgT (sim_lstT sim_nilT))
 (sim_seq (sim_asg (sim_vw (sim_call w_free_ask_len (sim_cons sim_var (sim_cons sim_var sim_nil)))) (sim_name (vs := [2]) (by decide)))
 (sim_seq (sim_while (sim_test (sim_op od_isnot sim_var sim_non))
 (sim_seq (sim_app (sim_sh sim_var))
 (sim_asg (sim_vw (sim_call w_free_ask_len (sim_cons sim_var (sim_cons sim_var sim_nil)))) (sim_name (vs := [2]) (by decide)))))
 sim_retV)))) rfl h
abbrev st_free_inlets : Stmt := topS 18
theorem sc_free_inlets : FnScope ["table", "pairs", "inlets", "inlet"] ["table", "pairs"] (defScope st_free_inlets) := ⟨rfl, rfl, rfl, by decide +kernel, rfl, by decide +kernel, by decide +kernel⟩
def w_free_inlets : WF := wFn false 2 2 (wSeq (wAsg (wCall w_inlets_of (wCons (wVar 1) wNil)) (wName 2))
 (wRet (wLcT (wRng1 (wCb oLen (wCons (wVar 0) wNil))) (wName 3) (wTest (wOp (oIn true) (wVar 3) (wVar 2))) (wSh (wVar 3)) [3])))
theorem w_free_inlets_len {ds : List PyData} {N : Nat} {R : T → Nat → Prop} (h : w_free_inlets ds N R) : ds.length = 2 := h.1
theorem w_free_inlets_cg {ds ds' : List PyData} {N N' : Nat} {R : T → Nat → Prop} (h : ds = ds') (h' : N = N') : w_free_inlets ds N R = w_free_inlets ds' N' R := by rw [h, h']
theorem ok_free_inlets {f : Addr} {fd : FuncData} (F : Fun K "free_inlets" "free_inlets" st_free_inlets f fd) (B : Bm mg) {f_inlets_of : Addr} {fd_inlets_of : FuncData} (d_inlets_of : Df P w K mg base 1 "inlets_of" st_inlets_of ["pairs"] f_inlets_of fd_inlets_of (spW false 1 w_inlets_of)) : FnOk P w K mg base CX0 2 f fd ["table", "pairs"] (spW false 2 w_free_inlets) := by
  refine F.ok sc_free_inlets (fun vs H Q E h => spW_len h) (fun cdv A outer s H vs Q E hr h => ?_)
  refine ⟨_, (pss_cons (ps_set (i := 2) sc_free_inlets.nd rfl (.inr rfl) (pe_call d_inlets_of.G (hr.mono (by omega)) (by rfl) d_inlets_of.g d_inlets_of.F.kp d_inlets_of.b .nil pass0 (pa_cons (pv 1) pa_nil)))
 (pss_one (ps_ret (pe_lc (own := [("inlet", 3)]) rfl sc_free_inlets.nd (pi_range1 (by rfl) B.range (pa_cons (pe_callB (lenK K) (by rfl) B.len (by decide +kernel) (pa_cons (pv 0) pa_nil)) pa_nil)) (blkOk_by (own := [("inlet", 3)]) (by kernel_rfl)) (fun _ _ _ _ _ => (pg_name (i := 3) sc_free_inlets.nd rfl (.inl rfl))) (fun _ _ _ _ _ => (pts_one (pt_cmpR (notInK K) (pv 3) (pv 2) (by with_unfolding_all rfl)))) (fun _ _ _ _ _ => (pv 3)))))), ?_⟩
  exact run_w (k := 2) ((sim_seq (sim_asg (sim_call w_inlets_of_len (sim_cons sim_var sim_nil)) (sim_name (vs := [2]) (by decide)))
 (sim_ret (sim_lcT (sim_r1 (sim_cb cb_len (sim_cons sim_var sim_nil))) (sim_name (vs := [3]) (by decide)) (sim_test (sim_op od_in sim_var sim_var)) (sim_sh sim_var))))) rfl h
abbrev st_reached_by : Stmt := topS 19
theorem sc_reached_by : FnScope ["table", "pairs", "paired_with", "reached", "coming", "inlet", "outlet", "mark"] ["table", "pairs"] (defScope st_reached_by) := ⟨rfl, rfl, rfl, by decide +kernel, rfl, by decide +kernel, by decide +kernel⟩
def w_reached_by : WF := wFn false 2 6 (wSeq (wAsgT 2 (wDc (wIt (wVar 1)) (wGTup 2 (wGCons (wName 5) (wGCons (wName 6) wGNil))) (wVar 6) (wVar 5) [5, 6]))
 (wSeq (wAsgT 3 wD0)
 (wSeq (wAsgT 4 (wCallT w_free_inlets (wCons (wVar 0) (wCons (wVar 1) wNil))))
 (wSeq (wWhile (wVb (wTru (wVar 4)))
 (wSeq (wPop0 4 (wName 5))
 (wFor (wEnum (wOp oIx (wVar 0) (wVar 5))) (wGTup 2 (wGCons (wName 6) (wGCons (wName 7) wGNil)))
 (wIfS (wAnd (wTest (wOp oEq (wVar 7) (wC (.int 1)))) (wTest (wDNotIn 3 (wVar 6))))
 (wSeq (wDSet 3 (wVar 6) (wVar 5))
 (wIfS (wTest (wDIn 2 (wVar 6)))
 (wApp 4 (wSh (wDGet 2 (wVar 6))))
 wSkip))
 wSkip))))
 (wRetV 3)))))
theorem w_reached_by_len {ds : List PyData} {N : Nat} {R : T → Nat → Prop} (h : w_reached_by ds N R) : ds.length = 2 := h.1
theorem w_reached_by_cg {ds ds' : List PyData} {N N' : Nat} {R : T → Nat → Prop} (h : ds = ds') (h' : N = N') : w_reached_by ds N R = w_reached_by ds' N' R := by rw [h, h']
theorem ok_reached_by {f : Addr} {fd : FuncData} (F : Fun K "reached_by" "reached_by" st_reached_by f fd) (B : Bm mg) {f_free_inlets : Addr} {fd_free_inlets : FuncData} (d_free_inlets : Df P w K mg base 2 "free_inlets" st_free_inlets ["table", "pairs"] f_free_inlets fd_free_inlets (spW false 2 w_free_inlets)) : FnOk P w K mg base CX0 3 f fd ["table", "pairs"] (spW false 2 w_reached_by) := by
  refine F.ok sc_reached_by (fun vs H Q E h => spW_len h) (fun cdv A outer s H vs Q E hr h => ?_)
  refine ⟨_, (pss_cons (ps_setDc (k := 2) (own := [("inlet", 5), ("outlet", 6)]) rfl sc_reached_by.nd rfl rfl (swD_true rfl rfl rfl (by decide +kernel)) (pi_seq K (pv 1)) (blkOk_by (own := [("inlet", 5), ("outlet", 6)]) (by kernel_rfl)) (fun _ _ _ _ _ => (pg_tupK K (n := 2) rfl (pgs_cons (pg_name (i := 5) sc_reached_by.nd rfl (.inl rfl)) (pgs_cons (pg_name (i := 6) sc_reached_by.nd rfl (.inl rfl)) pgs_nil)))) (fun _ _ _ _ _ => pts_nil) (fun _ _ _ _ _ => (pv 6)) (fun _ _ _ _ _ => (pv 5)))
 (pss_cons (ps_set (i := 3) sc_reached_by.nd rfl (.inl rfl) pe_dnewK)
 (pss_cons (ps_set (i := 4) sc_reached_by.nd rfl (.inl rfl) (pe_call d_free_inlets.G (hr.mono (by omega)) (by rfl) d_free_inlets.g d_free_inlets.F.kp d_free_inlets.b .nil pass0 (pa_cons (pv 0) (pa_cons (pv 1) pa_nil))))
 (pss_cons (ps_while PassesOwn.never (pt_truthK K (pv 4) (by intro _; rfl))
 (pss_cons (ps_set (i := 5) sc_reached_by.nd rfl (.inl rfl) (pe_bm0 PySem.F.plainAttrs_list PySem.F.slot_list_pop PySem.F.type_list_pop mt_pop (pv 4)))
 (pss_one (ps_for PassesOwn.never rfl (pi_enumS K (by rfl) B.enumerate (pa_cons (pe_ix (ixSK K) (pv 0) (pv 5) (fun _ _ => rfl)) pa_nil)) (pg_tupK K (n := 2) rfl (pgs_cons (pg_name (i := 6) sc_reached_by.nd rfl (.inl rfl)) (pgs_cons (pg_name (i := 7) sc_reached_by.nd rfl (.inl rfl)) pgs_nil)))
 (pss_one (ps_if (PW.pt (pw_and (pt_cmpR (op_eqU K hr.units) (pv 7) pe_int (nomark _)) (pw_and1 (pt_cmp (pc_dnotin (Nat.lt_of_le_of_lt (Nat.add_le_add_left (Nat.le_of_ble_eq_true rfl) _) hr.units) (pv 6) (pv 3)) (by with_unfolding_all rfl)))))
 (pss_cons (ps_dput (Nat.lt_of_le_of_lt (Nat.add_le_add_left (Nat.le_of_ble_eq_true rfl) _) hr.units) (pv 3) (pv 6) (pv 5) (by rfl))
 (pss_one (ps_if (pt_cmp (pc_din (Nat.lt_of_le_of_lt (Nat.add_le_add_left (Nat.le_of_ble_eq_true rfl) _) hr.units) (pv 6) (pv 2)) (by with_unfolding_all rfl))
 (pss_one (ps_expr (pe_bm PySem.F.plainAttrs_list PySem.F.slot_list_append PySem.F.type_list_append mt_append (pv 4) (pa_cons (pe_dget (Nat.lt_of_le_of_lt (Nat.add_le_add_left (Nat.le_of_ble_eq_true rfl) _) hr.units) (pv 2) (pv 6) (fun _ _ => rfl)) pa_nil))))
 pss_nil)))
 pss_nil))))))
 (pss_one (ps_ret (pv 3))))))), ?_⟩
  exact run_w (k := 6) ((sim_seq (sim_asgT (sim_dc (sim_it sim_var) (sim_gtup (sim_gcons (sim_name (vs := [5, 6]) (by decide)) (sim_gcons (sim_name (vs := [5, 6]) (by decide)) sim_gnil))) sim_var sim_var))
 (sim_seq (sim_asgT sim_d0)
 (sim_seq (sim_asgT (sim_callT w_free_inlets_len (sim_cons sim_var (sim_cons sim_var sim_nil))))
 (sim_seq (sim_while (sim_vb (sim_tru sim_var))
 (sim_seq (sim_pop0 (sim_name (vs := [5]) (by decide)))
 (sim_for (sim_enum (sim_op od_ix sim_var sim_var)) (sim_gtup (sim_gcons (sim_name (vs := [6, 7]) (by decide)) (sim_gcons (sim_name (vs := [6, 7]) (by decide)) sim_gnil)))
 (sim_ifS (sim_and (sim_test (sim_op od_eq sim_var sim_int)) (sim_test (sim_dNotIn sim_var)))
 (sim_seq (sim_dSet sim_var sim_var)
 (sim_ifS (sim_test (sim_dIn sim_var))
 (sim_app (sim_sh (sim_dGet sim_var)))
 sim_skip))
 sim_skip))))
 sim_retV))))) rfl h
abbrev st_taken_over : Stmt := topS 20
theorem sc_taken_over : FnScope ["pairs", "reached", "last", "outlet_of", "outlet", "inlet", "given_up"] ["pairs", "reached", "last"] (defScope st_taken_over) := ⟨rfl, rfl, rfl, by decide +kernel, rfl, by decide +kernel, by decide +kernel⟩
def w_taken_over : WF := wFn false 3 4 (wSeq (wAsgT 3 (wDc (wIt (wVar 0)) (wGTup 2 (wGCons (wName 5) (wGCons (wName 4) wGNil))) (wVar 5) (wVar 4) [5, 4]))
 (wSeq (wAsg (wVar 2) (wName 4))
 (wSeq (wWhile (wTest (wOp oIsNot (wVar 4) (wC .none)))
 (wSeq (wAsg (wDGet 1 (wVar 4)) (wName 5))
 (wSeq (wAsg (wDGet1 3 (wVar 5)) (wName 6))
 (wSeq (wDSet 3 (wVar 5) (wVar 4))
 (wAsg (wVar 6) (wName 4))))))
 (wRet (wCbT oSortP (wCons (wFz (wLk 3 (wLcT (wKeys 3) (wName 5) wYes (wSh (wTup (wCons (wVar 5) (wCons (wDGet 3 (wVar 5)) wNil)))) [5]))) wNil))))))
theorem w_taken_over_len {ds : List PyData} {N : Nat} {R : T → Nat → Prop} (h : w_taken_over ds N R) : ds.length = 3 := h.1
theorem w_taken_over_cg {ds ds' : List PyData} {N N' : Nat} {R : T → Nat → Prop} (h : ds = ds') (h' : N = N') : w_taken_over ds N R = w_taken_over ds' N' R := by rw [h, h']
theorem ok_taken_over {f : Addr} {fd : FuncData} (F : Fun K "taken_over" "taken_over" st_taken_over f fd) (B : Bm mg)  : FnOk P w K mg base CX0 1 f fd ["pairs", "reached", "last"] (spW false 3 w_taken_over) := by
  refine F.ok sc_taken_over (fun vs H Q E h => spW_len h) (fun cdv A outer s H vs Q E hr h => ?_)
  refine ⟨_, (pss_cons (ps_set (i := 3) sc_taken_over.nd rfl (.inr rfl) (pe_dc (own := [("inlet", 5), ("outlet", 4)]) rfl sc_taken_over.nd (pi_seq K (pv 0)) (blkOk_by (own := [("inlet", 5), ("outlet", 4)]) (by kernel_rfl)) (fun _ _ _ _ _ => (pg_tupK K (n := 2) rfl (pgs_cons (pg_name (i := 5) sc_taken_over.nd rfl (.inl rfl)) (pgs_cons (pg_name (i := 4) sc_taken_over.nd rfl (.inl rfl)) pgs_nil)))) (fun _ _ _ _ _ => pts_nil) (fun _ _ _ _ _ => (pv 5)) (fun _ _ _ _ _ => (pv 4))))
 (pss_cons (ps_set (i := 4) sc_taken_over.nd rfl (.inl rfl) (pv 2))
 (pss_cons (ps_while PassesOwn.never (pt_cmpR op_notN (pv 4) pe_non (nomark _))
 (pss_cons (ps_set (i := 5) sc_taken_over.nd rfl (.inl rfl) (pe_dget (Nat.lt_of_le_of_lt (Nat.add_le_add_left (Nat.le_of_ble_eq_true rfl) _) hr.units) (pv 1) (pv 4) (fun _ _ => rfl)))
 (pss_cons (ps_set (i := 6) sc_taken_over.nd rfl (.inl rfl) (pe_dget1 (Nat.lt_of_le_of_lt (Nat.add_le_add_left (Nat.le_of_ble_eq_true rfl) _) hr.units) (pv 3) (pv 5) ⟨by rfl, by rfl, by rfl, by rfl⟩))
 (pss_cons (ps_dput (Nat.lt_of_le_of_lt (Nat.add_le_add_left (Nat.le_of_ble_eq_true rfl) _) hr.units) (pv 3) (pv 5) (pv 4) (by rfl))
 (pss_one (ps_set (i := 4) sc_taken_over.nd rfl (.inl rfl) (pv 6)))))))
 (pss_one (ps_ret (pe_callB (sortedPK K) (by rfl) B.sorted (by decide +kernel) (pa_cons (pe_lock (pe_lc (own := [("inlet", 5)]) rfl sc_taken_over.nd (pi_keys (pv 3)) (blkOk_by (own := [("inlet", 5)]) (by kernel_rfl)) (fun _ _ _ _ _ => (pg_name (i := 5) sc_taken_over.nd rfl (.inl rfl))) (fun _ _ _ _ _ => pts_nil) (fun _ _ _ _ _ => (pe_tup (pa_cons (pv 5) (pa_cons (pe_dget (Nat.lt_of_le_of_lt (Nat.add_le_add_left (Nat.le_of_ble_eq_true rfl) _) hr.units) (pv 3) (pv 5) (fun _ _ => rfl)) pa_nil)))))) pa_nil))))))), ?_⟩
  exact run_w (k := 4) ((sim_seq (sim_asgT (sim_dc (sim_it sim_var) (sim_gtup (sim_gcons (sim_name (vs := [5, 4]) (by decide)) (sim_gcons (sim_name (vs := [5, 4]) (by decide)) sim_gnil))) sim_var sim_var))
 (sim_seq (sim_asg sim_var (sim_name (vs := [4]) (by decide)))
 (sim_seq (sim_while (sim_test (sim_op od_isnot sim_var sim_non))
 (sim_seq (sim_asg (sim_dGet sim_var) (sim_name (vs := [5]) (by decide)))
 (sim_seq (sim_asg (sim_dGet1 sim_var) (sim_name (vs := [6]) (by decide)))
 (sim_seq (sim_dSet sim_var sim_var)
 (sim_asg sim_var (sim_name (vs := [4]) (by decide)))))))
 (sim_ret (sim_cbT cn_sortP (sim_cons (sim_fz (sim_lk (i := 3) (sim_lcT sim_keys (sim_name (vs := [5]) (by decide)) sim_yes (sim_sh (sim_tup (sim_cons sim_var (sim_cons (sim_dGet sim_var) sim_nil))))))) sim_nil))))))) rfl h
abbrev st_grown : Stmt := topS 21
theorem sc_grown : FnScope ["table", "pairs", "reached", "outlets", "free", "outlet"] ["table", "pairs"] (defScope st_grown) := ⟨rfl, rfl, rfl, by decide +kernel, rfl, by decide +kernel, by decide +kernel⟩
def w_grown : WF := wFn false 2 4 (wSeq (wAsgT 2 (wCallT w_reached_by (wCons (wVar 0) (wCons (wVar 1) wNil))))
 (wSeq (wAsg (wCall w_outlets_of (wCons (wVar 1) wNil)) (wName 3))
 (wSeq (wAsg (wFz (wLk 2 (wLcT (wKeys 2) (wName 5) (wTest (wOp (oIn true) (wVar 5) (wVar 3))) (wSh (wVar 5)) [5]))) (wName 4))
 (wRet (wVt (wIfT (wTru (wVar 4)) (wCallT w_taken_over (wCons (wVar 1) (wCons (wVar 2) (wCons (wOp oIx (wVar 4) (wC (.int 0))) wNil)))) (wSh (wC .none))))))))
theorem w_grown_len {ds : List PyData} {N : Nat} {R : T → Nat → Prop} (h : w_grown ds N R) : ds.length = 2 := h.1
theorem w_grown_cg {ds ds' : List PyData} {N N' : Nat} {R : T → Nat → Prop} (h : ds = ds') (h' : N = N') : w_grown ds N R = w_grown ds' N' R := by rw [h, h']
theorem ok_grown {f : Addr} {fd : FuncData} (F : Fun K "grown" "grown" st_grown f fd) (B : Bm mg) {f_outlets_of : Addr} {fd_outlets_of : FuncData} (d_outlets_of : Df P w K mg base 1 "outlets_of" st_outlets_of ["pairs"] f_outlets_of fd_outlets_of (spW false 1 w_outlets_of)) {f_reached_by : Addr} {fd_reached_by : FuncData} (d_reached_by : Df P w K mg base 3 "reached_by" st_reached_by ["table", "pairs"] f_reached_by fd_reached_by (spW false 2 w_reached_by)) {f_taken_over : Addr} {fd_taken_over : FuncData} (d_taken_over : Df P w K mg base 1 "taken_over" st_taken_over ["pairs", "reached", "last"] f_taken_over fd_taken_over (spW false 3 w_taken_over)) : FnOk P w K mg base CX0 4 f fd ["table", "pairs"] (spW false 2 w_grown) := by
  refine F.ok sc_grown (fun vs H Q E h => spW_len h) (fun cdv A outer s H vs Q E hr h => ?_)
  refine ⟨_, (pss_cons (ps_set (i := 2) sc_grown.nd rfl (.inl rfl) (pe_call d_reached_by.G (hr.mono (by omega)) (by rfl) d_reached_by.g d_reached_by.F.kp d_reached_by.b .nil pass0 (pa_cons (pv 0) (pa_cons (pv 1) pa_nil))))
 (pss_cons (ps_set (i := 3) sc_grown.nd rfl (.inr rfl) (pe_call d_outlets_of.G (hr.mono (by omega)) (by rfl) d_outlets_of.g d_outlets_of.F.kp d_outlets_of.b .nil pass0 (pa_cons (pv 1) pa_nil)))
 (pss_cons (ps_lock (ps_setLc (i := 4) (own := [("outlet", 5)]) rfl sc_grown.nd rfl rfl (sw_true rfl rfl rfl (by decide +kernel)) (pi_keys (pv 2)) (blkOk_by (own := [("outlet", 5)]) (by kernel_rfl)) (fun _ _ _ _ _ => (pg_name (i := 5) sc_grown.nd rfl (.inl rfl))) (fun _ _ _ _ _ => (pts_one (pt_cmpR (notInK K) (pv 5) (pv 3) (by with_unfolding_all rfl)))) (fun _ _ _ _ _ => (pv 5))))
 (pss_one (ps_ret (pe_ifExp (pt_truthK K (pv 4) (by intro _; rfl)) (pe_call d_taken_over.G (hr.mono (by omega)) (by rfl) d_taken_over.g d_taken_over.F.kp d_taken_over.b .nil pass0 (pa_cons (pv 1) (pa_cons (pv 2) (pa_cons (pe_ix (ixSK K) (pv 4) pe_int (fun _ _ => rfl)) pa_nil)))) pe_non)))))), ?_⟩
  exact run_w (k := 4) ((sim_seq (sim_asgT (sim_callT w_reached_by_len (sim_cons sim_var (sim_cons sim_var sim_nil))))
 (sim_seq (sim_asg (sim_call w_outlets_of_len (sim_cons sim_var sim_nil)) (sim_name (vs := [3]) (by decide)))
 (sim_seq (sim_lkS (sim_asg (sim_fz (sim_lk (i := 2) (sim_lcT sim_keys (sim_name (vs := [5]) (by decide)) (sim_test (sim_op od_in sim_var sim_var)) (sim_sh sim_var)))) (sim_name (vs := [4]) (by decide))))
 (sim_ret (sim_vt (sim_ifT (sim_tru sim_var) (sim_callT w_taken_over_len (sim_cons sim_var (sim_cons sim_var (sim_cons (sim_op od_ix sim_var sim_int) sim_nil)))) (sim_sh sim_non)))))))) rfl h
abbrev st_most_pairs : Stmt := topS 22
theorem sc_most_pairs : FnScope ["table", "pairs", "more"] ["table"] (defScope st_most_pairs) := ⟨rfl, rfl, rfl, by decide +kernel, rfl, by decide +kernel, by decide +kernel⟩
def w_most_pairs : WF := wFn false 1 2 (wSeq (wAsgT 1 (wCallT w_first_pairs (wCons (wVar 0) wNil)))
 (wSeq (wAsgT 2 (wVt (wCallT w_grown (wCons (wVar 0) (wCons (wVar 1) wNil)))))
 (wSeq (wWhile (wVb (wTest (wOp oIsNot (wVar 2) (wC .none))))
 (wSeq (wMove 1 2)
 (wAsgT 2 (wVt (wCallT w_grown (wCons (wVar 0) (wCons (wVar 1) wNil)))))))
 (wRetV 1))))
theorem w_most_pairs_len {ds : List PyData} {N : Nat} {R : T → Nat → Prop} (h : w_most_pairs ds N R) : ds.length = 1 := h.1
theorem w_most_pairs_cg {ds ds' : List PyData} {N N' : Nat} {R : T → Nat → Prop} (h : ds = ds') (h' : N = N') : w_most_pairs ds N R = w_most_pairs ds' N' R := by rw [h, h']
theorem ok_most_pairs {f : Addr} {fd : FuncData} (F : Fun K "most_pairs" "most_pairs" st_most_pairs f fd) (B : Bm mg) {f_first_pairs : Addr} {fd_first_pairs : FuncData} (d_first_pairs : Df P w K mg base 4 "first_pairs" st_first_pairs ["table"] f_first_pairs fd_first_pairs (spW false 1 w_first_pairs)) {f_grown : Addr} {fd_grown : FuncData} (d_grown : Df P w K mg base 4 "grown" st_grown ["table", "pairs"] f_grown fd_grown (spW false 2 w_grown)) : FnOk P w K mg base CX0 5 f fd ["table"] (spW false 1 w_most_pairs) := by
  refine F.ok sc_most_pairs (fun vs H Q E h => spW_len h) (fun cdv A outer s H vs Q E hr h => ?_)
  refine ⟨_, (pss_cons (ps_set (i := 1) sc_most_pairs.nd rfl (.inl rfl) (pe_call d_first_pairs.G (hr.mono (by omega)) (by rfl) d_first_pairs.g d_first_pairs.F.kp d_first_pairs.b .nil pass0 (pa_cons (pv 0) pa_nil)))
 (pss_cons (ps_set (i := 2) sc_most_pairs.nd rfl (.inl rfl) (pe_call d_grown.G (hr.mono (by omega)) (by rfl) d_grown.g d_grown.F.kp d_grown.b .nil pass0 (pa_cons (pv 0) (pa_cons (pv 1) pa_nil))))
 (pss_cons (ps_while PassesOwn.never (pt_cmpR op_notN (pv 2) pe_non (nomark _))
 (pss_cons (ps_set (i := 1) sc_most_pairs.nd rfl (.inl rfl) (pv 2))
 (pss_one (ps_set (i := 2) sc_most_pairs.nd rfl (.inl rfl) (pe_call d_grown.G (hr.mono (by omega)) (by rfl) d_grown.g d_grown.F.kp d_grown.b .nil pass0 (pa_cons (pv 0) (pa_cons (pv 1) pa_nil)))))))
 (pss_one (ps_ret (pv 1)))))), ?_⟩
  exact run_w (k := 2) ((sim_seq (sim_asgT (sim_callT w_first_pairs_len (sim_cons sim_var sim_nil)))
 (sim_seq (sim_asgT (sim_vt (sim_callT w_grown_len (sim_cons sim_var (sim_cons sim_var sim_nil)))))
 (sim_seq (sim_while (sim_vb (sim_test (sim_op od_isnot sim_var sim_non)))
 (sim_seq sim_move
 (sim_asgT (sim_vt (sim_callT w_grown_len (sim_cons sim_var (sim_cons sim_var sim_nil)))))))
 sim_retV)))) rfl h
abbrev st_cover_of : Stmt := topS 23
theorem sc_cover_of : FnScope ["table", "pairs", "reached", "inlets", "inlet", "outlet"] ["table"] (defScope st_cover_of) := ⟨rfl, rfl, rfl, by decide +kernel, rfl, by decide +kernel, by decide +kernel⟩
def w_cover_of : WF := wFn false 1 5 (wSeq (wAsg (wCall w_most_pairs (wCons (wVar 0) wNil)) (wName 1))
 (wSeq (wAsgT 2 (wCallT w_reached_by (wCons (wVar 0) (wCons (wVar 1) wNil))))
 (wSeq (wAsgT 3 (wLcT (wIt (wVar 1)) (wGTup 2 (wGCons (wName 4) (wGCons (wName 5) wGNil))) (wTest (wDNotIn 2 (wVar 5))) (wSh (wVar 4)) [4, 5]))
 (wRetVT 3 (wCbT oSortI (wCons (wFz (wDKeys 2)) wNil))))))
theorem w_cover_of_len {ds : List PyData} {N : Nat} {R : T → Nat → Prop} (h : w_cover_of ds N R) : ds.length = 1 := h.1
theorem w_cover_of_cg {ds ds' : List PyData} {N N' : Nat} {R : T → Nat → Prop} (h : ds = ds') (h' : N = N') : w_cover_of ds N R = w_cover_of ds' N' R := by rw [h, h']
theorem ok_cover_of {f : Addr} {fd : FuncData} (F : Fun K "cover_of" "cover_of" st_cover_of f fd) (B : Bm mg) {f_most_pairs : Addr} {fd_most_pairs : FuncData} (d_most_pairs : Df P w K mg base 5 "most_pairs" st_most_pairs ["table"] f_most_pairs fd_most_pairs (spW false 1 w_most_pairs)) {f_reached_by : Addr} {fd_reached_by : FuncData} (d_reached_by : Df P w K mg base 3 "reached_by" st_reached_by ["table", "pairs"] f_reached_by fd_reached_by (spW false 2 w_reached_by)) : FnOk P w K mg base CX0 6 f fd ["table"] (spW false 1 w_cover_of) := by
  refine F.ok sc_cover_of (fun vs H Q E h => spW_len h) (fun cdv A outer s H vs Q E hr h => ?_)
  refine ⟨_, (pss_cons (ps_set (i := 1) sc_cover_of.nd rfl (.inl rfl) (pe_call d_most_pairs.G (hr.mono (by omega)) (by rfl) d_most_pairs.g d_most_pairs.F.kp d_most_pairs.b .nil pass0 (pa_cons (pv 0) pa_nil)))
 (pss_cons (ps_set (i := 2) sc_cover_of.nd rfl (.inr rfl) (pe_call d_reached_by.G (hr.mono (by omega)) (by rfl) d_reached_by.g d_reached_by.F.kp d_reached_by.b .nil pass0 (pa_cons (pv 0) (pa_cons (pv 1) pa_nil))))
 (pss_cons (ps_setLc (i := 3) (own := [("inlet", 4), ("outlet", 5)]) rfl sc_cover_of.nd rfl rfl (sw_true rfl rfl rfl (by decide +kernel)) (pi_seq K (pv 1)) (blkOk_by (own := [("inlet", 4), ("outlet", 5)]) (by kernel_rfl)) (fun _ _ _ _ _ => (pg_tupK K (n := 2) rfl (pgs_cons (pg_name (i := 4) sc_cover_of.nd rfl (.inl rfl)) (pgs_cons (pg_name (i := 5) sc_cover_of.nd rfl (.inl rfl)) pgs_nil)))) (fun _ _ _ _ _ => (pts_one (pt_cmp (pc_dnotin (Nat.lt_of_le_of_lt (Nat.add_le_add_left (Nat.le_of_ble_eq_true rfl) _) hr.units) (pv 5) (pv 2)) (by with_unfolding_all rfl)))) (fun _ _ _ _ _ => (pv 4)))
 (pss_one (ps_ret (pe_tup (pa_cons (pv 3) (pa_cons (pe_callB (sortedIK K) (by rfl) B.sorted (by decide +kernel) (pa_cons (pe_callTy listDK (by rfl) B.list (by decide +kernel) (pa_cons (pv 2) pa_nil)) pa_nil)) pa_nil)))))))), ?_⟩
  exact run_w (k := 5) ((sim_seq (sim_asg (sim_call w_most_pairs_len (sim_cons sim_var sim_nil)) (sim_name (vs := [1]) (by decide)))
 (sim_seq (sim_asgT (sim_callT w_reached_by_len (sim_cons sim_var (sim_cons sim_var sim_nil))))
 (sim_seq (sim_asgT (sim_lcT (sim_it sim_var) (sim_gtup (sim_gcons (sim_name (vs := [4, 5]) (by decide)) (sim_gcons (sim_name (vs := [4, 5]) (by decide)) sim_gnil))) (sim_test (sim_dNotIn sim_var)) (sim_sh sim_var)))
 (sim_retVT (sim_cbT cn_sortI (sim_cons (sim_fz sim_dKeys) sim_nil))))))) rfl h
abbrev st_are_places : Stmt := topS 24
theorem sc_are_places : FnScope ["thing", "many", "place"] ["thing", "many"] (defScope st_are_places) := ⟨rfl, rfl, rfl, by decide +kernel, rfl, by decide +kernel, by decide +kernel⟩
def w_are_places : WF := wFn false 2 1 (wRet (wSh (wAndV (wIs isList (wVar 0)) (wAndV (wCb oAll (wCons (wLc (wIt (wVar 0)) (wName 2) wYes (wCall w_is_place (wCons (wVar 2) (wCons (wVar 1) wNil))) [2]) wNil)) (wCall w_is_rising (wCons (wVar 0) wNil))))))
theorem w_are_places_len {ds : List PyData} {N : Nat} {R : T → Nat → Prop} (h : w_are_places ds N R) : ds.length = 2 := h.1
theorem w_are_places_cg {ds ds' : List PyData} {N N' : Nat} {R : T → Nat → Prop} (h : ds = ds') (h' : N = N') : w_are_places ds N R = w_are_places ds' N' R := by rw [h, h']
theorem ok_are_places {f : Addr} {fd : FuncData} (F : Fun K "are_places" "are_places" st_are_places f fd) (B : Bm mg) {f_is_place : Addr} {fd_is_place : FuncData} (d_is_place : Df P w K mg base 3 "is_place" st_is_place ["thing", "many"] f_is_place fd_is_place (spW false 2 w_is_place)) {f_is_rising : Addr} {fd_is_rising : FuncData} (d_is_rising : Df P w K mg base 1 "is_rising" st_is_rising ["numbers"] f_is_rising fd_is_rising (spW false 1 w_is_rising)) : FnOk P w K mg base CX0 4 f fd ["thing", "many"] (spW false 2 w_are_places) := by
  refine F.ok sc_are_places (fun vs H Q E h => spW_len h) (fun cdv A outer s H vs Q E hr h => ?_)
  refine ⟨_, (pss_one (ps_ret (pe_and (pe_callB (isiK K) (by rfl) B.isinstance (by decide +kernel) (pa_cons (pv 0) (pa_cons (pe_bltn (v := .ty "list") (by rfl) B.list (by decide +kernel) rfl) pa_nil))) (pe_and (pe_callB (allK K) (by rfl) B.all (by decide +kernel) (pa_cons (pe_lc (own := [("place", 2)]) rfl sc_are_places.nd (pi_seq K (pv 0)) (blkOk_by (own := [("place", 2)]) (by kernel_rfl)) (fun _ _ _ _ _ => (pg_name (i := 2) sc_are_places.nd rfl (.inl rfl))) (fun _ _ _ _ _ => pts_nil) (fun _ _ _ _ _ => (pe_call d_is_place.G (hr.mono (by omega)) (by rfl) d_is_place.g d_is_place.F.kp d_is_place.b .nil pass0 (pa_cons (pv 2) (pa_cons (pv 1) pa_nil))))) pa_nil)) (pe_one (pe_call d_is_rising.G (hr.mono (by omega)) (by rfl) d_is_rising.g d_is_rising.F.kp d_is_rising.b .nil pass0 (pa_cons (pv 0) pa_nil))))))), ?_⟩
  exact run_w (k := 1) ((sim_ret (sim_sh (sim_andV (sim_isi kit_list sim_var) (sim_andV (sim_cb cb_all (sim_cons (sim_lc (sim_it sim_var) (sim_name (vs := [2]) (by decide)) sim_yes (sim_call w_is_place_len (sim_cons sim_var (sim_cons sim_var sim_nil)))) sim_nil)) (sim_call w_is_rising_len (sim_cons sim_var sim_nil))))))) rfl h
abbrev st_is_cover : Stmt := topS 25
theorem sc_is_cover : FnScope ["table", "thing", "inlets", "outlets"] ["table", "thing"] (defScope st_is_cover) := ⟨rfl, rfl, rfl, by decide +kernel, rfl, by decide +kernel, by decide +kernel⟩
def w_is_cover : WF := wFn false 2 2 (wSeq (wIfS (wOr (wNot (wTest (wIs isTuple (wVar 1)))) (wTest (wOp oNe (wCb oLen (wCons (wVar 1) wNil)) (wC (.int 2)))))
 (wRet (wSh (wC (.bool false))))
 wSkip)
 (wSeq (wAsg (wVar 1) (wGTup 2 (wGCons (wName 2) (wGCons (wName 3) wGNil))))
 (wSeq (wIfS (wOr (wNot (wTest (wCall w_are_places (wCons (wVar 2) (wCons (wCb oLen (wCons (wVar 0) wNil)) wNil))))) (wNot (wTest (wCall w_are_places (wCons (wVar 3) (wCons (wCall w_outlets_in (wCons (wVar 0) wNil)) wNil))))))
 (wRet (wSh (wC (.bool false))))
 wSkip)
 (wRet (wSh (wOp oEq (wCall w_asks_of (wCons (wCall w_left_out (wCons (wVar 0) (wCons (wVar 2) (wCons (wVar 3) wNil)))) wNil)) (wLst wNil)))))))
theorem w_is_cover_len {ds : List PyData} {N : Nat} {R : T → Nat → Prop} (h : w_is_cover ds N R) : ds.length = 2 := h.1
theorem w_is_cover_cg {ds ds' : List PyData} {N N' : Nat} {R : T → Nat → Prop} (h : ds = ds') (h' : N = N') : w_is_cover ds N R = w_is_cover ds' N' R := by rw [h, h']
theorem ok_is_cover {f : Addr} {fd : FuncData} (F : Fun K "is_cover" "is_cover" st_is_cover f fd) (B : Bm mg) {f_are_places : Addr} {fd_are_places : FuncData} (d_are_places : Df P w K mg base 4 "are_places" st_are_places ["thing", "many"] f_are_places fd_are_places (spW false 2 w_are_places)) {f_asks_of : Addr} {fd_asks_of : FuncData} (d_asks_of : Df P w K mg base 1 "asks_of" st_asks_of ["table"] f_asks_of fd_asks_of (spW false 1 w_asks_of)) {f_left_out : Addr} {fd_left_out : FuncData} (d_left_out : Df P w K mg base 1 "left_out" st_left_out ["table", "inlets", "outlets"] f_left_out fd_left_out (spW false 3 w_left_out)) {f_outlets_in : Addr} {fd_outlets_in : FuncData} (d_outlets_in : Df P w K mg base 1 "outlets_in" st_outlets_in ["table"] f_outlets_in fd_outlets_in (spW false 1 w_outlets_in)) : FnOk P w K mg base CX0 5 f fd ["table", "thing"] (spW false 2 w_is_cover) := by
  refine F.ok sc_is_cover (fun vs H Q E h => spW_len h) (fun cdv A outer s H vs Q E hr h => ?_)
  refine ⟨_, (pss_cons (ps_if (PW.pt (pw_or (pt_not (pt_val (pe_callB (isiK K) (by rfl) B.isinstance (by decide +kernel) (pa_cons (pv 1) (pa_cons (pe_bltn (v := .ty "tuple") (by rfl) B.tuple (by decide +kernel) rfl) pa_nil))))) (pw_or1 (pt_cmpR (op_neU K hr.units) (pe_callB (lenK K) (by rfl) B.len (by decide +kernel) (pa_cons (pv 1) pa_nil)) pe_int (nomark _)))))
 (pss_one (ps_ret pe_bl))
 pss_nil)
 (pss_cons (ps_asg (pv 1) (pg_tupK K (n := 2) rfl (pgs_cons (pg_name (i := 2) sc_is_cover.nd rfl (.inl rfl)) (pgs_cons (pg_name (i := 3) sc_is_cover.nd rfl (.inl rfl)) pgs_nil))))
 (pss_cons (ps_if (PW.pt (pw_or (pt_not (pt_val (pe_call d_are_places.G (hr.mono (by omega)) (by rfl) d_are_places.g d_are_places.F.kp d_are_places.b .nil pass0 (pa_cons (pv 2) (pa_cons (pe_callB (lenK K) (by rfl) B.len (by decide +kernel) (pa_cons (pv 0) pa_nil)) pa_nil))))) (pw_or1 (pt_not (pt_val (pe_call d_are_places.G (hr.mono (by omega)) (by rfl) d_are_places.g d_are_places.F.kp d_are_places.b .nil pass0 (pa_cons (pv 3) (pa_cons (pe_call d_outlets_in.G (hr.mono (by omega)) (by rfl) d_outlets_in.g d_outlets_in.F.kp d_outlets_in.b .nil pass0 (pa_cons (pv 0) pa_nil)) pa_nil))))))))
 (pss_one (ps_ret pe_bl))
 pss_nil)
 (pss_one (ps_ret (pe_cmpR (op_eqU K hr.units) (pe_call d_asks_of.G (hr.mono (by omega)) (by rfl) d_asks_of.g d_asks_of.F.kp d_asks_of.b .nil pass0 (pa_cons (pe_call d_left_out.G (hr.mono (by omega)) (by rfl) d_left_out.g d_left_out.F.kp d_left_out.b .nil pass0 (pa_cons (pv 0) (pa_cons (pv 2) (pa_cons (pv 3) pa_nil)))) pa_nil)) (pe_lst pa_nil) (nomark _))))))), ?_⟩
  exact run_w (k := 2) ((sim_seq (sim_ifS (sim_or (sim_not (sim_tB (sim_isi kit_tuple sim_var))) (sim_test (sim_op od_ne (sim_cb cb_len (sim_cons sim_var sim_nil)) sim_int)))
 (sim_ret (sim_sh sim_bl))
 sim_skip)
 (sim_seq (sim_asg sim_var (sim_gtup (sim_gcons (sim_name (vs := [2, 3]) (by decide)) (sim_gcons (sim_name (vs := [2, 3]) (by decide)) sim_gnil))))
 (sim_seq (sim_ifS (sim_or (sim_not (sim_tB (sim_call w_are_places_len (sim_cons sim_var (sim_cons (sim_cb cb_len (sim_cons sim_var sim_nil)) sim_nil))))) (sim_not (sim_tB (sim_call w_are_places_len (sim_cons sim_var (sim_cons (sim_call w_outlets_in_len (sim_cons sim_var sim_nil)) sim_nil))))))
 (sim_ret (sim_sh sim_bl))
 sim_skip)
 (sim_ret (sim_sh (sim_op od_eq (sim_call w_asks_of_len (sim_cons (sim_call w_left_out_len (sim_cons sim_var (sim_cons sim_var (sim_cons sim_var sim_nil)))) sim_nil)) (sim_lst sim_nil)))))))) rfl h
abbrev st_shows_most : Stmt := topS 26
theorem sc_shows_most : FnScope ["table", "pairs", "thing"] ["table", "pairs", "thing"] (defScope st_shows_most) := ⟨rfl, rfl, rfl, by decide +kernel, rfl, by decide +kernel, by decide +kernel⟩
def w_shows_most : WF := wFn false 3 0 (wRet (wSh (wAndV (wCall w_is_cover (wCons (wVar 0) (wCons (wVar 2) wNil))) (wOp oEq (wOp oAdd (wCb oLen (wCons (wOp oIx (wVar 2) (wC (.int 0))) wNil)) (wCb oLen (wCons (wOp oIx (wVar 2) (wC (.int 1))) wNil))) (wCb oLen (wCons (wVar 1) wNil))))))
theorem w_shows_most_len {ds : List PyData} {N : Nat} {R : T → Nat → Prop} (h : w_shows_most ds N R) : ds.length = 3 := h.1
theorem w_shows_most_cg {ds ds' : List PyData} {N N' : Nat} {R : T → Nat → Prop} (h : ds = ds') (h' : N = N') : w_shows_most ds N R = w_shows_most ds' N' R := by rw [h, h']
theorem ok_shows_most {f : Addr} {fd : FuncData} (F : Fun K "shows_most" "shows_most" st_shows_most f fd) (B : Bm mg) {f_is_cover : Addr} {fd_is_cover : FuncData} (d_is_cover : Df P w K mg base 5 "is_cover" st_is_cover ["table", "thing"] f_is_cover fd_is_cover (spW false 2 w_is_cover)) : FnOk P w K mg base CX0 6 f fd ["table", "pairs", "thing"] (spW false 3 w_shows_most) := by
  refine F.ok sc_shows_most (fun vs H Q E h => spW_len h) (fun cdv A outer s H vs Q E hr h => ?_)
  refine ⟨_, (pss_one (ps_ret (pe_and (pe_call d_is_cover.G (hr.mono (by omega)) (by rfl) d_is_cover.g d_is_cover.F.kp d_is_cover.b .nil pass0 (pa_cons (pv 0) (pa_cons (pv 2) pa_nil))) (pe_one (pe_cmpR (op_eqU K hr.units) (pe_op op_addU (pe_callB (lenK K) (by rfl) B.len (by decide +kernel) (pa_cons (pe_ix (ixSK K) (pv 2) pe_int (fun _ _ => rfl)) pa_nil)) (pe_callB (lenK K) (by rfl) B.len (by decide +kernel) (pa_cons (pe_ix (ixSK K) (pv 2) pe_int (fun _ _ => rfl)) pa_nil))) (pe_callB (lenK K) (by rfl) B.len (by decide +kernel) (pa_cons (pv 1) pa_nil)) (nomark _)))))), ?_⟩
  exact run_w (k := 0) ((sim_ret (sim_sh (sim_andV (sim_call w_is_cover_len (sim_cons sim_var (sim_cons sim_var sim_nil))) (sim_op od_eq (sim_op od_add (sim_cb cb_len (sim_cons (sim_op od_ix sim_var sim_int) sim_nil)) (sim_cb cb_len (sim_cons (sim_op od_ix sim_var sim_int) sim_nil))) (sim_cb cb_len (sim_cons sim_var sim_nil))))))) rfl h
abbrev st_law_box : Stmt := topS 28
theorem sc_law_box : FnScope ["_law_script", "_law_k", "_law_cell"] ["_law_script", "_law_k"] (defScope st_law_box) := ⟨rfl, rfl, rfl, by decide +kernel, rfl, by decide +kernel, by decide +kernel⟩
theorem ok_law_box {f : Addr} {fd : FuncData} (F : Fun K "_law_box" "_law_box" st_law_box f fd) (B : Bm mg) : FnOk P w K mg base CX0 1 f fd ["_law_script", "_law_k"] (spBox K) := by
  refine F.ok sc_law_box (fun vs H Q E h => ?_) (fun cdv A outer s H vs Q E hr h => ?_)
  · obtain ⟨a, ns, k, rfl, _⟩ := h
    rfl
  · obtain ⟨a, ns, k, rfl, hS, hk, q⟩ := h
    refine ⟨_, (pss_cons (ps_set (i := 2) sc_law_box.nd rfl (.inl rfl) (pe_ifExp (pt_cmpR op_lt (pv 1) (pe_callB (lenK K) (by rfl) B.len (by decide +kernel) (pa_cons (pv 0) pa_nil)) (nomark _)) (pe_ix (ixLK K) (pv 0) (pv 1) (fun _ _ => rfl)) pe_int))
 (pss_one (ps_ret (pe_lst (pa_cons (pe_op op_mul (pe_callB call_abs (by rfl) B.abs (by decide +kernel) (pa_cons (pv 2) pa_nil)) (pe_callTy call_int1 (by rfl) B.int (by decide +kernel) (pa_cons (pe_cmpR op_ge (pe_callB call_abs (by rfl) B.abs (by decide +kernel) (pa_cons (pv 2) pa_nil)) (pe_op op_pow pe_int pe_int) (nomark _)) pa_nil))) (pa_cons (pe_op op_mod (pe_op op_mul (pe_op op_add (pe_op op_add (pe_op op_mod (pv 2) pe_int) (pe_op op_mul pe_int (pv 1))) pe_int) pe_int) pe_int) (pa_cons pe_int pa_nil))))))), ?_⟩
    refine q_asg (v := .int (ns.getD k 0)) (ev_if (b := decide ((k : Int) < ((ns.map V.int).length : Int))) (et_test (ev_op (ev_var rfl) (ev_len (ev_var rfl) hS) rv_I0)) (fun hb => ?_) fun hb => ?_) fun H1 e1 => ?_
    · have hb' : (k : Int) < ((ns.map V.int).length : Int) := of_decide_eq_true hb
      have hk2 : k < ns.length := by rw [List.length_map] at hb'; omega
      refine ev_op (ev_var rfl) (ev_var rfl) (rv_ixL hS (atI_nat ?_))
      rw [List.getElem?_map, List.getElem?_eq_getElem hk2, List.getD_eq_getElem?_getD, List.getElem?_eq_getElem hk2] <;> rfl
    · have hb' : ¬ (k : Int) < ((ns.map V.int).length : Int) := of_decide_eq_false hb
      have hk2 : ns.length ≤ k := by rw [List.length_map] at hb'; omega
      rw [List.getD_eq_getElem?_getD, List.getElem?_eq_none hk2]
      exact ev_c
    · generalize ns.getD k 0 = c
      have hab : ∀ {σ : L2.St} {H : Hp}, σ[2]? = some (some (.int c)) → Ev (tCB (fun xs H Q => ∃ i, xs = [V.int i] ∧ Q (V.int (if i < 0 then -i else i)) H) (tCons (tVar 2) tNil)) σ H (.int (if c < 0 then -c else c)) := fun hs => ev_cb1 (ev_var hs) fun H1 Q q => ⟨c, rfl, q⟩
      have hnn : 0 ≤ (if c < 0 then -c else c) := by split <;> omega
      generalize (if c < 0 then -c else c) = ac at hab hnn
      have hbit : ∀ x : Bool, (0 : Int) ≤ (if x = true then 1 else 0) ∧ (if x = true then 1 else 0) ≤ (1 : Int) := fun x => by cases x <;> decide
      refine s_retL (el_lst (ea_cons (ev_op (hab rfl) (ev_cb1 (ev_op (hab rfl) (ev_op ev_c ev_c (rv_I ⟨by decide, by decide, by decide⟩)) rv_I0) fun H1 Q q => .inr ⟨_, rfl, q⟩) (rv_I (.inr ⟨by have := hbit (decide ((10 : Int) ^ (18 : Int).toNat ≤ ac)); omega, by have := hbit (decide ((10 : Int) ^ (18 : Int).toNat ≤ ac)); omega⟩)))
        (ea_cons (ev_op (ev_op (ev_op (ev_op (ev_op (ev_var rfl) ev_c (rv_I (by decide))) (ev_op ev_c (ev_var rfl) (rv_I (.inl ⟨by decide, by decide⟩))) rv_I0) ev_c rv_I0) ev_c (rv_I (.inr ⟨by decide, by decide⟩))) ev_c (rv_I (by decide))) (ea_cons ev_c ea_nil))) (by show 3 ≤ 100000; decide)) fun p H2 np e2 hp => ?_
      refine q p H2 (e1.trans e2) (fresh_back e1 np) ⟨_, _, _, hp, Int.mul_nonneg hnn (hbit _).1, ?_, ?_, Int.le_refl _, Int.le_refl _⟩
      · exact Int.emod_nonneg _ (by decide)
      · exact Int.emod_lt_of_pos _ (by decide)
abbrev st_law_take : Stmt := topS 29
theorem sc_law_take : FnScope ["_law_box_here", "_law_size", "_law_step", "_law_once", "_law_twice", "_law_found"] ["_law_box_here", "_law_size"] (defScope st_law_take) := ⟨rfl, rfl, rfl, by decide +kernel, rfl, by decide +kernel, by decide +kernel⟩
theorem ok0_law_take {f : Addr} {fd : FuncData} (F : Fun K "_law_take" "_law_take" st_law_take f fd) (B : Bm mg) : FnOk P w K mg base CX0 1 f fd ["_law_box_here", "_law_size"] spTake := by
  refine F.ok sc_law_take (fun vs H Q E h => ?_) (fun cdv A outer s H vs Q E hr h => ?_)
  · obtain ⟨b, m, n, rfl, _⟩ := h
    rfl
  · obtain ⟨b, m, n, rfl, hB, hn, hm1, hm2, q⟩ := h
    refine ⟨_, (pss_cons (ps_if (pt_cmpR op_gt (pe_ix (ixLK K) (pv 0) pe_int (fun _ _ => rfl)) pe_int (nomark _))
 (pss_cons (ps_asg (pe_callB call_divmod (by rfl) B.divmod (by decide +kernel) (pa_cons (pe_ix (ixLK K) (pv 0) pe_int (fun _ _ => rfl)) (pa_cons (pv 1) pa_nil))) (pg_tupK K (n := 2) rfl (pgs_cons (pg_sub (pv 0) pe_int set_list) (pgs_cons (pg_name (i := 5) sc_law_take.nd rfl (.inl rfl)) pgs_nil))))
 (pss_one (ps_ret (pv 5))))
 pss_nil)
 (pss_cons (ps_asg (pe_op op_add (pe_ix (ixLK K) (pv 0) pe_int (fun _ _ => rfl)) pe_int) (pg_sub (pv 0) pe_int set_list))
 (pss_cons (ps_set (i := 2) sc_law_take.nd rfl (.inl rfl) (pe_op op_add pe_int (pe_op op_mul (pe_ix (ixLK K) (pv 0) pe_int (fun _ _ => rfl)) (pe_ix (ixLK K) (pv 0) pe_int (fun _ _ => rfl)))))
 (pss_cons (ps_set (i := 3) sc_law_take.nd rfl (.inl rfl) (pe_op op_mod (pe_op op_mul (pe_op op_add (pe_ix (ixLK K) (pv 0) pe_int (fun _ _ => rfl)) (pe_op op_mul pe_int (pe_ix (ixLK K) (pv 0) pe_int (fun _ _ => rfl)))) (pv 2)) pe_int))
 (pss_cons (ps_set (i := 4) sc_law_take.nd rfl (.inl rfl) (pe_op op_mod (pe_op op_add (pe_op op_mul (pv 3) (pe_op op_add (pe_op op_mod (pv 3) pe_int) pe_int)) (pe_ix (ixLK K) (pv 0) pe_int (fun _ _ => rfl))) pe_int))
 (pss_one (ps_ret (pe_op op_mod (pe_op op_fdiv (pe_op op_mod (pe_op op_mul (pv 4) (pe_op op_add (pe_op op_mod (pv 4) pe_int) pe_int)) pe_int) pe_int) (pv 1))))))))), ?_⟩
    obtain ⟨r, sd, c, hb, hr0, hs0, hs1, hc0, hc1⟩ := hB
    have at0 : ∀ {σ : L2.St} {H : Hp} {x y z : V}, σ[0]? = some (some (.ref b)) → H b = some (.lst [x, y, z]) → Ev (tOp (rIxL K) (tVar 0) (tC (.int 0))) σ H x := fun hs hb => ev_op (ev_var hs) ev_c (rv_ixL (SqL.of hb) (atI_nat (j := 0) rfl))
    have at1 : ∀ {σ : L2.St} {H : Hp} {x y z : V}, σ[0]? = some (some (.ref b)) → H b = some (.lst [x, y, z]) → Ev (tOp (rIxL K) (tVar 0) (tC (.int 1))) σ H y := fun hs hb => ev_op (ev_var hs) ev_c (rv_ixL (SqL.of hb) (atI_nat (j := 1) rfl))
    have at2 : ∀ {σ : L2.St} {H : Hp} {x y z : V}, σ[0]? = some (some (.ref b)) → H b = some (.lst [x, y, z]) → Ev (tOp (rIxL K) (tVar 0) (tC (.int 2))) σ H z := fun hs hb => ev_op (ev_var hs) ev_c (rv_ixL (SqL.of hb) (atI_nat (j := 2) rfl))
    refine q_when (b := decide (0 < r)) (et_test (ev_op (at0 rfl hb) ev_c rv_I0)) (fun hp H1 e1 => ?_) fun hp H1 e1 => ?_
    · have hp' : 0 < r := of_decide_eq_true hp
      have hb1 := e1 _ _ hb
      refine at0 rfl hb1 H1 (Ex.refl _) _ fun H2 e2 => ?_
      have hb2 := e2 _ _ hb1
      refine ⟨.int m, rfl, r, m, rfl, ⟨by omega, by omega⟩, fun p np => ?_⟩
      have hpb : p ≠ b := (ne_of_none hb2 np).symm
      refine ⟨p, _, rfl, SqT.of upd_same, rfl, _, _, rfl, .ref b, rfl, b, _, 0, 0, rfl, rfl, by rw [upd_ne hpb.symm]; exact hb2, rfl, _, _, rfl, rfl, ?_⟩
      refine ⟨.int (r % m), rfl, ?_⟩
      have hq : 0 ≤ r / m := Int.ediv_nonneg hr0 (by omega)
      refine q (r % m) _ (Int.emod_nonneg _ (by omega)) (Int.emod_lt_of_pos _ (by omega)) ⟨r / m, sd, c, upd_same, hq, hs0, hs1, hc0, by omega⟩ ?_
      exact ((Keep.of (e1.trans e2)).new np).put (by simp)
    · have hb1 := e1 _ _ hb
      have e2 : Ex H1 H1 := Ex.refl _
      have hb2 := e2 _ _ hb1
      refine q_setL (j := 2) hb2 (ev_op (at2 rfl hb2) ev_c rv_I0) (ev_var rfl) ev_c (by show 2 < 3; decide) fun H3 e3 => ?_
      change tSeq _ _ _ _ (upd H3 b (.lst [.int r, .int sd, .int (c + 1)]))
      have k4 : Keep [b] H (upd H3 b (.lst [.int r, .int sd, .int (c + 1)])) := (Keep.of ((e1.trans e2).trans e3)).put (by simp)
      have hb4 : (upd H3 b (.lst [.int r, .int sd, .int (c + 1)])) b = some (.lst [.int r, .int sd, .int (c + 1)]) := upd_same
      generalize upd H3 b (.lst [.int r, .int sd, .int (c + 1)]) = H4 at k4 hb4
      have hcc : c + 1 ≤ 1000000001 := by omega
      refine q_asg (ev_op ev_c (ev_op (at2 rfl hb4) (at2 rfl hb4) (rv_I (.inl ⟨by omega, by omega⟩))) rv_I0) fun H5 e5 => ?_
      have hb5 := e5 _ _ hb4
      refine q_asg (ev_op (ev_op (ev_op (at1 rfl hb5) (ev_op ev_c (at2 rfl hb5) (rv_I (.inl ⟨by decide, by decide⟩))) rv_I0) (ev_var rfl) (rv_I (.inl ⟨by omega, by omega⟩))) ev_c (rv_I (by decide))) fun H6 e6 => ?_
      have hb6 := e6 _ _ hb5
      generalize ho : ((sd + 39373 * (c + 1)) * (69621 + (c + 1) * (c + 1))) % 2147483587 = once
      have ho1 : 0 ≤ once ∧ once < 2147483587 := by omega
      refine q_asg (ev_op (ev_op (ev_op (ev_var rfl) (ev_op (ev_op (ev_var rfl) ev_c (rv_I (by decide))) ev_c rv_I0) (rv_I (.inl ⟨by omega, by omega⟩))) (at2 rfl hb6) rv_I0) ev_c (rv_I (by decide))) fun H7 e7 => ?_
      generalize ht : (once * (once % 30011 + 5) + (c + 1)) % 2147483563 = twice
      have ht1 : 0 ≤ twice ∧ twice < 2147483563 := by omega
      refine s_ret (ev_op (ev_op (ev_op (ev_op (ev_var rfl) (ev_op (ev_op (ev_var rfl) ev_c (rv_I (by decide))) ev_c rv_I0) (rv_I (.inl ⟨by omega, by omega⟩))) ev_c (rv_I (by decide))) ev_c (rv_I ⟨by decide, by decide⟩)) (ev_var rfl) (rv_I (by show 0 < m; omega))) fun H8 e8 => ?_
      refine q _ H8 (Int.emod_nonneg _ (by omega)) (Int.emod_lt_of_pos _ (by omega)) ⟨r, sd, c + 1, ((e7.trans e8) _ _ (e6 _ _ hb5)), hr0, hs0, hs1, by omega, by omega⟩ (k4.ext (((e5.trans e6).trans e7).trans e8))
abbrev w_law_take : WF := w_take
theorem w_law_take_len {ds : List PyData} {N : Nat} {R : T → Nat → Prop} (h : w_law_take ds N R) : ds.length = 1 := w_take_len h
theorem ok_law_take {f : Addr} {fd : FuncData} (F : Fun K "_law_take" "_law_take" st_law_take f fd) (B : Bm mg) : FnOk P w K mg base CX0 1 f fd ["_law_box_here", "_law_size"] (spW true 1 w_law_take) := (ok0_law_take F B).imp fun _ _ _ _ h => sp_take h
abbrev st_law_folded : Stmt := topS 30
theorem sc_law_folded : FnScope ["_law_script", "_law_size", "_law_cells", "_law_k", "_law_cell"] ["_law_script", "_law_size"] (defScope st_law_folded) := ⟨rfl, rfl, rfl, by decide +kernel, rfl, by decide +kernel, by decide +kernel⟩
theorem ok_law_folded {f : Addr} {fd : FuncData} (F : Fun K "_law_folded" "_law_folded" st_law_folded f fd) (B : Bm mg) : FnOk P w K mg base CX0 1 f fd ["_law_script", "_law_size"] (spFold K) := by
  refine F.ok sc_law_folded (fun vs H Q E h => ?_) (fun cdv A outer s H vs Q E hr h => ?_)
  · obtain ⟨a, ns, z, rfl, _⟩ := h
    rfl
  · obtain ⟨a, ns, z, rfl, hS, hz1, hz2, hl, q⟩ := h
    refine ⟨_, (pss_cons (ps_set (i := 2) sc_law_folded.nd rfl (.inl rfl) (pe_callTy (listK K) (by rfl) B.list (by decide +kernel) (pa_cons (pe_slice (slLK K) (pv 0) po_none (po_some (pv 1))) pa_nil)))
 (pss_cons (ps_for PassesOwn.never rfl (pi_enumK K (by rfl) B.enumerate (pa_cons (pe_slice (slLK K) (pv 0) (po_some (pv 1)) (po_some pe_int)) pa_nil)) (pg_tupK K (n := 2) rfl (pgs_cons (pg_name (i := 3) sc_law_folded.nd rfl (.inl rfl)) (pgs_cons (pg_name (i := 4) sc_law_folded.nd rfl (.inl rfl)) pgs_nil)))
 (pss_one (ps_asg (pe_op op_add (pe_ix (ixLK K) (pv 2) (pe_op op_mod (pv 3) (pv 1)) (fun _ _ => rfl)) (pe_op op_mul (pv 4) (pe_op op_add (pv 3) pe_int))) (pg_sub (pv 2) (pe_op op_mod (pv 3) (pv 1)) set_list))))
 (pss_one (ps_ret (pv 2))))), ?_⟩
    refine el_sl (ev_var rfl) eo_none (eo_some (ev_var rfl)) hS H (Ex.refl _) _ fun p0 H1 np0 e1 hp0 => ⟨p0, _, rfl, .inl (SqL.of hp0), fun l nl => ?_⟩
    rw [cut_hi, ← List.map_take]
    have s1 : Same H (upd H1 l (.lst ((ns.take z).map V.int))) := e1.trans (Ex.new nl)
    have hl0 : H l = none := fresh_back e1 nl
    refine q_forE (el_sl (ev_var rfl) (eo_some (ev_var rfl)) (eo_some ev_c) (s1.seq hS)) (fun p k σ H' => ∃ (ms : List Int) (y3 y4 : Option V), σ = [some (.ref a), some (.int (z : Int)), some (.ref l), y3, y4] ∧ Same H H' ∧ H' l = some (.lst (ms.map V.int)) ∧ ms.length = min z ns.length ∧ H' p = some (.lst (cutV (ns.map V.int) (some (z : Int)) (some 63))) ∧ p ≠ l)
      (fun p H2 np e2 hp => ⟨ns.take z, none, none, rfl, s1.trans e2, e2 _ _ upd_same, by rw [List.length_take], hp, fun h => ?_⟩) (fun p k σ' H' _ hP => ?_) (fun p k x T σ' H' hx hP hT => ?_) (fun p σ' H' hP => ?_)
    · rw [h, upd_same] at np
      cases np
    · obtain ⟨_, _, _, _, _, _, _, hp, _⟩ := hP
      exact SqL.of hp
    · obtain ⟨ms, y3, y4, rfl, sm, hl', len, hp, hpl⟩ := hP
      have hx2 := hx
      rw [show (63 : Int) = ((63 : Nat) : Int) from rfl, cut_both, ← List.map_drop, ← List.map_take] at hx2
      rw [List.getElem?_map, Option.map_eq_some_iff] at hx2
      obtain ⟨n, hn, rfl⟩ := hx2
      have hzn : z < ns.length := by
        have := (List.getElem?_eq_some_iff.mp hn).1
        rw [List.length_take, List.length_drop] at this
        omega
      have hml : ms.length = z := by rw [len]; omega
      have hk63 : k < 1000 := by
        have := (List.getElem?_eq_some_iff.mp hn).1
        rw [List.length_take, List.length_drop] at this
        omega
      have nTl : l ≠ T := ne_of_none hl' hT
      have nTp : p ≠ T := ne_of_none hp hT
      have hj : k % z < (ms.map V.int).length := by rw [List.length_map, hml]; exact Nat.mod_lt _ (by omega)
      have hlT : (upd H' T (.tup [.int (k : Nat), .int n])) l = some (.lst (ms.map V.int)) := by rw [upd_ne nTl]; exact hl'
      have hix : ∀ {σ : L2.St} {H : Hp}, σ[1]? = some (some (.int (z : Int))) → σ[3]? = some (some (.int (k : Nat))) → Ev (tOp (rI (fun _ j => 0 < j) fun i j => .int (i % j)) (tVar 3) (tVar 1)) σ H (.int ((k % z : Nat) : Int)) := fun h1 h2 => ev_is (ev_op (ev_var h2) (ev_var h1) (rv_I (by show (0 : Int) < z; omega))) (by rw [Int.natCast_emod])
      refine s_setL (j := k % z) hlT (v := .int (ms[k % z]'(by rw [List.length_map] at hj; exact hj) + n * ((k : Nat) + 2))) (ev_op (ev_op (ev_var rfl) (hix rfl rfl) (rv_ixL (SqL.of hlT) (atI_nat ?_))) (ev_op (ev_var rfl) (ev_op (ev_var rfl) ev_c rv_I0) (rv_I (.inr ⟨by omega, by omega⟩))) rv_I0) (ev_var rfl) (hix rfl rfl) hj fun H2 e2 => ?_
      · rw [List.getElem?_map, List.getElem?_eq_getElem] <;> rfl
      · refine ⟨ms.set (k % z) (ms[k % z]'(by rw [List.length_map] at hj; exact hj) + n * ((k : Nat) + 2)), _, _, rfl, fun c o ho => ?_, ?_, ?_, ?_, hpl⟩
        · rw [upd_ne (ne_of_none ho hl0)]
          exact e2 _ _ (Ex.new hT _ _ (sm _ _ ho))
        · rw [upd_same, List.map_set]
        · rw [List.length_set]; exact len
        · rw [upd_ne hpl]
          exact e2 _ _ (by rw [upd_ne nTp]; exact hp)
    · obtain ⟨ms, y3, y4, rfl, sm, hl', len, _, _⟩ := hP
      exact s_ret (ev_var rfl) fun H2 e2 => q l ms H2 (sm.trans e2) hl0 (e2 _ _ hl') len
abbrev st_law_asks : Stmt := topS 31
theorem sc_law_asks : FnScope ["_law_table", "_law_found", "_law_i", "_law_row", "_law_j", "_law_bit"] ["_law_table"] (defScope st_law_asks) := ⟨rfl, rfl, rfl, by decide +kernel, rfl, by decide +kernel, by decide +kernel⟩
def w_law_asks : WF := wFn false 1 5 (wSeq (wAsgT 1 (wLstT wNilT))
 (wSeq (wFor (wEnum (wVar 0)) (wGTup 2 (wGCons (wName 2) (wGCons (wName 3) wGNil)))
 (wExt 1 (wLc (wEnum (wVar 3)) (wGTup 2 (wGCons (wName 4) (wGCons (wName 5) wGNil))) (wTest (wOp oEq (wVar 5) (wC (.int 1)))) (wTup (wCons (wVar 2) (wCons (wVar 4) wNil))) [4, 5])))
 (wRetV 1)))
theorem w_law_asks_len {ds : List PyData} {N : Nat} {R : T → Nat → Prop} (h : w_law_asks ds N R) : ds.length = 1 := h.1
theorem w_law_asks_cg {ds ds' : List PyData} {N N' : Nat} {R : T → Nat → Prop} (h : ds = ds') (h' : N = N') : w_law_asks ds N R = w_law_asks ds' N' R := by rw [h, h']
theorem ok_law_asks {f : Addr} {fd : FuncData} (F : Fun K "_law_asks" "_law_asks" st_law_asks f fd) (B : Bm mg)  : FnOk P w K mg base CX0 1 f fd ["_law_table"] (spW false 1 w_law_asks) := by
  refine F.ok sc_law_asks (fun vs H Q E h => spW_len h) (fun cdv A outer s H vs Q E hr h => ?_)
  refine ⟨_, (pss_cons (ps_set (i := 1) sc_law_asks.nd rfl (.inl rfl) (pe_lst pa_nil))
 (pss_cons (ps_for PassesOwn.never rfl (pi_enumS K (by rfl) B.enumerate (pa_cons (pv 0) pa_nil)) (pg_tupK K (n := 2) rfl (pgs_cons (pg_name (i := 2) sc_law_asks.nd rfl (.inr rfl)) (pgs_cons (pg_name (i := 3) sc_law_asks.nd rfl (.inl rfl)) pgs_nil)))
 (pss_one (ps_expr (pe_bm PySem.F.plainAttrs_list PySem.F.slot_list_extend PySem.F.type_list_extend mt_extend (pv 1) (pa_cons (pe_lc (own := [("_law_j", 4), ("_law_bit", 5)]) rfl sc_law_asks.nd (pi_enumS K (by rfl) B.enumerate (pa_cons (pv 3) pa_nil)) (blkOk_by (own := [("_law_j", 4), ("_law_bit", 5)]) (by kernel_rfl)) (fun _ _ _ _ _ => (pg_tupK K (n := 2) rfl (pgs_cons (pg_name (i := 4) sc_law_asks.nd rfl (.inl rfl)) (pgs_cons (pg_name (i := 5) sc_law_asks.nd rfl (.inl rfl)) pgs_nil)))) (fun _ _ _ _ _ => (pts_one (pt_cmpR (op_eqU K hr.units) (pv 5) pe_int (nomark _)))) (fun _ _ _ _ _ => (pe_tup (pa_cons (pv 2) (pa_cons (pv 4) pa_nil))))) pa_nil)))))
 (pss_one (ps_ret (pv 1))))), ?_⟩
  exact run_w (k := 5) ((sim_seq (sim_asgT (sim_lstT sim_nilT))
 (sim_seq (sim_for (sim_enum sim_var) (sim_gtup (sim_gcons (sim_name (vs := [2, 3]) (by decide)) (sim_gcons (sim_name (vs := [2, 3]) (by decide)) sim_gnil)))
 (sim_ext (sim_lc (sim_enum sim_var) (sim_gtup (sim_gcons (sim_name (vs := [4, 5]) (by decide)) (sim_gcons (sim_name (vs := [4, 5]) (by decide)) sim_gnil))) (sim_test (sim_op od_eq sim_var sim_int)) (sim_tup (sim_cons sim_var (sim_cons sim_var sim_nil))))))
 sim_retV))) rfl h
abbrev st_law_is_place : Stmt := topS 33
theorem sc_law_is_place : FnScope ["_law_thing", "_law_most"] ["_law_thing", "_law_most"] (defScope st_law_is_place) := ⟨rfl, rfl, rfl, by decide +kernel, rfl, by decide +kernel, by decide +kernel⟩
def w_law_is_place : WF := wFn false 2 0 (wRet (wSh (wAndV (wIs isInt (wVar 0)) (wAndV (wNotV (wIs isBool (wVar 0))) (wChain oLe oLt (wC (.int 0)) (wVar 0) (wVar 1))))))
theorem w_law_is_place_len {ds : List PyData} {N : Nat} {R : T → Nat → Prop} (h : w_law_is_place ds N R) : ds.length = 2 := h.1
theorem w_law_is_place_cg {ds ds' : List PyData} {N N' : Nat} {R : T → Nat → Prop} (h : ds = ds') (h' : N = N') : w_law_is_place ds N R = w_law_is_place ds' N' R := by rw [h, h']
theorem ok_law_is_place {f : Addr} {fd : FuncData} (F : Fun K "_law_is_place" "_law_is_place" st_law_is_place f fd) (B : Bm mg)  : FnOk P w K mg base CX0 1 f fd ["_law_thing", "_law_most"] (spW false 2 w_law_is_place) := by
  refine F.ok sc_law_is_place (fun vs H Q E h => spW_len h) (fun cdv A outer s H vs Q E hr h => ?_)
  refine ⟨_, (pss_one (ps_ret (pe_and (pe_callB (isiK K) (by rfl) B.isinstance (by decide +kernel) (pa_cons (pv 0) (pa_cons (pe_bltn (v := .ty "int") (by rfl) B.int (by decide +kernel) rfl) pa_nil))) (pe_and (pe_not (pe_callB (isiK K) (by rfl) B.isinstance (by decide +kernel) (pa_cons (pv 0) (pa_cons (pe_bltn (v := .ty "bool") (by rfl) B.bool (by decide +kernel) rfl) pa_nil)))) (pe_one (pe_chain op_le op_lt pe_int (pv 0) (pv 1))))))), ?_⟩
  exact run_w (k := 0) ((sim_ret (sim_sh (sim_andV (sim_isi kit_int sim_var) (sim_andV (sim_notV (sim_isi kit_bool sim_var)) (sim_chain od_le od_lt sim_int sim_var sim_var)))))) rfl h
abbrev st_law_are_pairs : Stmt := topS 32
theorem sc_law_are_pairs : FnScope ["_law_table", "_law_thing", "_law_rises", "_law_apart", "_law_at", "_law_pair", "_law_one", "_law_other", "_law_i", "_law_j"] ["_law_table", "_law_thing"] (defScope st_law_are_pairs) := ⟨rfl, rfl, rfl, by decide +kernel, rfl, by decide +kernel, by decide +kernel⟩
def w_law_are_pairs : WF := wFn false 2 8 (wSeq (wIfS (wOr (wNot (wTest (wIs isList (wVar 1)))) (wNot (wTest (wCb oAll (wCons (wLc (wIt (wVar 1)) (wName 5) wYes (wAndV (wIs isTuple (wVar 5)) (wOp oEq (wCb oLen (wCons (wVar 5) wNil)) (wC (.int 2)))) [5]) wNil)))))
 (wRet (wSh (wC (.bool false))))
 wSkip)
 (wSeq (wIfS (wNot (wTest (wCb oAll (wCons (wLc (wIt (wVar 1)) (wName 5) wYes (wAndV (wCall w_law_is_place (wCons (wOp oIx (wVar 5) (wC (.int 0))) (wCons (wCb oLen (wCons (wVar 0) wNil)) wNil))) (wCall w_law_is_place (wCons (wOp oIx (wVar 5) (wC (.int 1))) (wCons (wCb oLen (wCons (wOp oIx (wVar 0) (wC (.int 0))) wNil)) wNil)))) [5]) wNil))))
 (wRet (wSh (wC (.bool false))))
 wSkip)
 (wSeq (wAsg (wCb oAll (wCons (wLc (wZip (wVar 1) (wSl (wVar 1) (wPart (wC (.int 1))) wNoPart)) (wGTup 2 (wGCons (wName 6) (wGCons (wName 7) wGNil))) wYes (wOp oLtT (wVar 6) (wVar 7)) [6, 7]) wNil)) (wName 2))
 (wSeq (wAsg (wLc (wRng1 (wC (.int 2))) (wName 4) wYes (wOp oEq (wLenSet (wLc (wIt (wVar 1)) (wName 5) wYes (wOp oIx (wVar 5) (wVar 4)) [5])) (wCb oLen (wCons (wVar 1) wNil))) [4]) (wName 3))
 (wRet (wSh (wAndV (wVar 2) (wAndV (wOp oEq (wVar 3) (wLst (wCons (wC (.bool true)) (wCons (wC (.bool true)) wNil)))) (wCb oAll (wCons (wLc (wIt (wVar 1)) (wGTup 2 (wGCons (wName 8) (wGCons (wName 9) wGNil))) wYes (wOp oEq (wOp oIx (wOp oIx (wVar 0) (wVar 8)) (wVar 9)) (wC (.int 1))) [8, 9]) wNil))))))))))
theorem w_law_are_pairs_len {ds : List PyData} {N : Nat} {R : T → Nat → Prop} (h : w_law_are_pairs ds N R) : ds.length = 2 := h.1
theorem w_law_are_pairs_cg {ds ds' : List PyData} {N N' : Nat} {R : T → Nat → Prop} (h : ds = ds') (h' : N = N') : w_law_are_pairs ds N R = w_law_are_pairs ds' N' R := by rw [h, h']
theorem ok_law_are_pairs {f : Addr} {fd : FuncData} (F : Fun K "_law_are_pairs" "_law_are_pairs" st_law_are_pairs f fd) (B : Bm mg) {f_law_is_place : Addr} {fd_law_is_place : FuncData} (d_law_is_place : Df P w K mg base 1 "_law_is_place" st_law_is_place ["_law_thing", "_law_most"] f_law_is_place fd_law_is_place (spW false 2 w_law_is_place)) : FnOk P w K mg base CX0 2 f fd ["_law_table", "_law_thing"] (spW false 2 w_law_are_pairs) := by
  refine F.ok sc_law_are_pairs (fun vs H Q E h => spW_len h) (fun cdv A outer s H vs Q E hr h => ?_)
  refine ⟨_, (pss_cons (ps_if (PW.pt (pw_or (pt_not (pt_val (pe_callB (isiK K) (by rfl) B.isinstance (by decide +kernel) (pa_cons (pv 1) (pa_cons (pe_bltn (v := .ty "list") (by rfl) B.list (by decide +kernel) rfl) pa_nil))))) (pw_or1 (pt_not (pt_val (pe_callB (allK K) (by rfl) B.all (by decide +kernel) (pa_cons (pe_lc (own := [("_law_pair", 5)]) rfl sc_law_are_pairs.nd (pi_seq K (pv 1)) (blkOk_by (own := [("_law_pair", 5)]) (by kernel_rfl)) (fun _ _ _ _ _ => (pg_name (i := 5) sc_law_are_pairs.nd rfl (.inl rfl))) (fun _ _ _ _ _ => pts_nil) (fun _ _ _ _ _ => (pe_and (pe_callB (isiK K) (by rfl) B.isinstance (by decide +kernel) (pa_cons (pv 5) (pa_cons (pe_bltn (v := .ty "tuple") (by rfl) B.tuple (by decide +kernel) rfl) pa_nil))) (pe_one (pe_cmpR (op_eqU K hr.units) (pe_callB (lenK K) (by rfl) B.len (by decide +kernel) (pa_cons (pv 5) pa_nil)) pe_int (nomark _)))))) pa_nil)))))))
 (pss_one (ps_ret pe_bl))
 pss_nil)
 (pss_cons (ps_if (pt_not (pt_val (pe_callB (allK K) (by rfl) B.all (by decide +kernel) (pa_cons (pe_lc (own := [("_law_pair", 5)]) rfl sc_law_are_pairs.nd (pi_seq K (pv 1)) (blkOk_by (own := [("_law_pair", 5)]) (by kernel_rfl)) (fun _ _ _ _ _ => (pg_name (i := 5) sc_law_are_pairs.nd rfl (.inl rfl))) (fun _ _ _ _ _ => pts_nil) (fun _ _ _ _ _ => (pe_and (pe_call d_law_is_place.G (hr.mono (by omega)) (by rfl) d_law_is_place.g d_law_is_place.F.kp d_law_is_place.b .nil pass0 (pa_cons (pe_ix (ixSK K) (pv 5) pe_int (fun _ _ => rfl)) (pa_cons (pe_callB (lenK K) (by rfl) B.len (by decide +kernel) (pa_cons (pv 0) pa_nil)) pa_nil))) (pe_one (pe_call d_law_is_place.G (hr.mono (by omega)) (by rfl) d_law_is_place.g d_law_is_place.F.kp d_law_is_place.b .nil pass0 (pa_cons (pe_ix (ixSK K) (pv 5) pe_int (fun _ _ => rfl)) (pa_cons (pe_callB (lenK K) (by rfl) B.len (by decide +kernel) (pa_cons (pe_ix (ixSK K) (pv 0) pe_int (fun _ _ => rfl)) pa_nil)) pa_nil))))))) pa_nil))))
 (pss_one (ps_ret pe_bl))
 pss_nil)
 (pss_cons (ps_set (i := 2) sc_law_are_pairs.nd rfl (.inl rfl) (pe_callB (allK K) (by rfl) B.all (by decide +kernel) (pa_cons (pe_lc (own := [("_law_one", 6), ("_law_other", 7)]) rfl sc_law_are_pairs.nd (pi_zipS K (by rfl) B.zip (pa_cons (pv 1) (pa_cons (pe_slice (slLK K) (pv 1) (po_some pe_int) po_none) pa_nil))) (blkOk_by (own := [("_law_one", 6), ("_law_other", 7)]) (by kernel_rfl)) (fun _ _ _ _ _ => (pg_tupK K (n := 2) rfl (pgs_cons (pg_name (i := 6) sc_law_are_pairs.nd rfl (.inl rfl)) (pgs_cons (pg_name (i := 7) sc_law_are_pairs.nd rfl (.inl rfl)) pgs_nil)))) (fun _ _ _ _ _ => pts_nil) (fun _ _ _ _ _ => (pe_cmpR (ltTK K hr.units0) (pv 6) (pv 7) (nomark _)))) pa_nil)))
 (pss_cons (ps_setLc (i := 3) (own := [("_law_at", 4)]) rfl sc_law_are_pairs.nd rfl rfl (sw_true rfl rfl rfl (by decide +kernel)) (pi_range1 (by rfl) B.range (pa_cons pe_int pa_nil)) (blkOk_by (own := [("_law_at", 4)]) (by kernel_rfl)) (fun _ _ _ _ _ => (pg_name (i := 4) sc_law_are_pairs.nd rfl (by first | exact Or.inl rfl | exact Or.inr rfl))) (fun _ _ _ _ _ => pts_nil) (fun _ _ _ _ _ => (pe_cmpR (op_eqU K hr.units) (pe_lenSet K (by rfl) B.len (by rfl) B.set (pe_lc (own := [("_law_pair", 5)]) rfl sc_law_are_pairs.nd (pi_seq K (pv 1)) (blkOk_by (own := [("_law_pair", 5)]) (by kernel_rfl)) (fun _ _ _ _ _ => (pg_name (i := 5) sc_law_are_pairs.nd rfl (.inl rfl))) (fun _ _ _ _ _ => pts_nil) (fun _ _ _ _ _ => (pe_ix (ixSK K) (pv 5) (pv 4) (fun _ _ => rfl))))) (pe_callB (lenK K) (by rfl) B.len (by decide +kernel) (pa_cons (pv 1) pa_nil)) (nomark _))))
 (pss_one (ps_ret (pe_and (pv 2) (pe_and (pe_cmpR (op_eqU K hr.units) (pv 3) (pe_lst (pa_cons pe_bl (pa_cons pe_bl pa_nil))) (nomark _)) (pe_one (pe_callB (allK K) (by rfl) B.all (by decide +kernel) (pa_cons (pe_lc (own := [("_law_i", 8), ("_law_j", 9)]) rfl sc_law_are_pairs.nd (pi_seq K (pv 1)) (blkOk_by (own := [("_law_i", 8), ("_law_j", 9)]) (by kernel_rfl)) (fun _ _ _ _ _ => (pg_tupK K (n := 2) rfl (pgs_cons (pg_name (i := 8) sc_law_are_pairs.nd rfl (.inl rfl)) (pgs_cons (pg_name (i := 9) sc_law_are_pairs.nd rfl (.inl rfl)) pgs_nil)))) (fun _ _ _ _ _ => pts_nil) (fun _ _ _ _ _ => (pe_cmpR (op_eqU K hr.units) (pe_ix (ixSK K) (pe_ix (ixSK K) (pv 0) (pv 8) (fun _ _ => rfl)) (pv 9) (fun _ _ => rfl)) pe_int (nomark _)))) pa_nil))))))))))), ?_⟩
  exact run_w (k := 8) ((sim_seq (sim_ifS (sim_or (sim_not (sim_tB (sim_isi kit_list sim_var))) (sim_not (sim_tB (sim_cb cb_all (sim_cons (sim_lc (sim_it sim_var) (sim_name (vs := [5]) (by decide)) sim_yes (sim_andV (sim_isi kit_tuple sim_var) (sim_op od_eq (sim_cb cb_len (sim_cons sim_var sim_nil)) sim_int))) sim_nil)))))
 (sim_ret (sim_sh sim_bl))
 sim_skip)
 (sim_seq (sim_ifS (sim_not (sim_tB (sim_cb cb_all (sim_cons (sim_lc (sim_it sim_var) (sim_name (vs := [5]) (by decide)) sim_yes (sim_andV (sim_call w_law_is_place_len (sim_cons (sim_op od_ix sim_var sim_int) (sim_cons (sim_cb cb_len (sim_cons sim_var sim_nil)) sim_nil))) (sim_call w_law_is_place_len (sim_cons (sim_op od_ix sim_var sim_int) (sim_cons (sim_cb cb_len (sim_cons (sim_op od_ix sim_var sim_int) sim_nil)) sim_nil))))) sim_nil))))
 (sim_ret (sim_sh sim_bl))
 sim_skip)
 (sim_seq (sim_asg (sim_cb cb_all (sim_cons (sim_lc (sim_zip sim_var (sim_sl sim_var (sim_part sim_int) sim_noPart)) (sim_gtup (sim_gcons (sim_name (vs := [6, 7]) (by decide)) (sim_gcons (sim_name (vs := [6, 7]) (by decide)) sim_gnil))) sim_yes (sim_op od_ltT sim_var sim_var)) sim_nil)) (sim_name (vs := [2]) (by decide)))
 (sim_seq (sim_asg (sim_lc (sim_r1 sim_int) (sim_name (vs := [4]) (by decide)) sim_yes (sim_op od_eq (sim_lenSet (sim_lc (sim_it sim_var) (sim_name (vs := [5]) (by decide)) sim_yes (sim_op od_ix sim_var sim_var))) (sim_cb cb_len (sim_cons sim_var sim_nil)))) (sim_name (vs := [3]) (by decide)))
 (sim_ret (sim_sh (sim_andV sim_var (sim_andV (sim_op od_eq sim_var (sim_lst (sim_cons sim_bl (sim_cons sim_bl sim_nil)))) (sim_cb cb_all (sim_cons (sim_lc (sim_it sim_var) (sim_gtup (sim_gcons (sim_name (vs := [8, 9]) (by decide)) (sim_gcons (sim_name (vs := [8, 9]) (by decide)) sim_gnil))) sim_yes (sim_op od_eq (sim_op od_ix (sim_op od_ix sim_var sim_var) sim_var) sim_int)) sim_nil))))))))))) rfl h
abbrev st_law_covers : Stmt := topS 34
theorem sc_law_covers : FnScope ["_law_table", "_law_count", "_law_thing", "_law_met", "_law_some", "_law_most", "_law_i", "_law_j", "_law_one", "_law_other"] ["_law_table", "_law_count", "_law_thing"] (defScope st_law_covers) := ⟨rfl, rfl, rfl, by decide +kernel, rfl, by decide +kernel, by decide +kernel⟩
def w_law_covers : WF := wFn false 3 7 (wSeq (wIfS (wOr (wNot (wTest (wIs isTuple (wVar 2)))) (wTest (wOp oNe (wCb oLen (wCons (wVar 2) wNil)) (wC (.int 2)))))
 (wRet (wSh (wC (.bool false))))
 wSkip)
 (wSeq (wFor (wZip (wVar 2) (wTup (wCons (wCb oLen (wCons (wVar 0) wNil)) (wCons (wCb oLen (wCons (wOp oIx (wVar 0) (wC (.int 0))) wNil)) wNil)))) (wGTup 2 (wGCons (wName 4) (wGCons (wName 5) wGNil)))
 (wSeq (wIfS (wOr (wNot (wTest (wIs isList (wVar 4)))) (wNot (wTest (wCb oAll (wCons (wLc (wIt (wVar 4)) (wName 8) wYes (wCall w_law_is_place (wCons (wVar 8) (wCons (wVar 5) wNil))) [8]) wNil)))))
 (wRet (wSh (wC (.bool false))))
 wSkip)
 (wIfS (wNot (wTest (wCb oAll (wCons (wLc (wZip (wVar 4) (wSl (wVar 4) (wPart (wC (.int 1))) wNoPart)) (wGTup 2 (wGCons (wName 8) (wGCons (wName 9) wGNil))) wYes (wOp oLt (wVar 8) (wVar 9)) [8, 9]) wNil))))
 (wRet (wSh (wC (.bool false))))
 wSkip)))
 (wSeq (wAsg (wCb oAll (wCons (wLc (wIt (wCall w_law_asks (wCons (wVar 0) wNil))) (wGTup 2 (wGCons (wName 6) (wGCons (wName 7) wGNil))) wYes (wOrV (wOp (oIn false) (wVar 6) (wOp oIx (wVar 2) (wC (.int 0)))) (wOp (oIn false) (wVar 7) (wOp oIx (wVar 2) (wC (.int 1))))) [6, 7]) wNil)) (wName 3))
 (wRet (wSh (wAndV (wVar 3) (wOp oEq (wOp oAdd (wCb oLen (wCons (wOp oIx (wVar 2) (wC (.int 0))) wNil)) (wCb oLen (wCons (wOp oIx (wVar 2) (wC (.int 1))) wNil))) (wVar 1))))))))
theorem w_law_covers_len {ds : List PyData} {N : Nat} {R : T → Nat → Prop} (h : w_law_covers ds N R) : ds.length = 3 := h.1
theorem w_law_covers_cg {ds ds' : List PyData} {N N' : Nat} {R : T → Nat → Prop} (h : ds = ds') (h' : N = N') : w_law_covers ds N R = w_law_covers ds' N' R := by rw [h, h']
theorem ok_law_covers {f : Addr} {fd : FuncData} (F : Fun K "_law_covers" "_law_covers" st_law_covers f fd) (B : Bm mg) {f_law_asks : Addr} {fd_law_asks : FuncData} (d_law_asks : Df P w K mg base 1 "_law_asks" st_law_asks ["_law_table"] f_law_asks fd_law_asks (spW false 1 w_law_asks)) {f_law_is_place : Addr} {fd_law_is_place : FuncData} (d_law_is_place : Df P w K mg base 1 "_law_is_place" st_law_is_place ["_law_thing", "_law_most"] f_law_is_place fd_law_is_place (spW false 2 w_law_is_place)) : FnOk P w K mg base CX0 2 f fd ["_law_table", "_law_count", "_law_thing"] (spW false 3 w_law_covers) := by
  refine F.ok sc_law_covers (fun vs H Q E h => spW_len h) (fun cdv A outer s H vs Q E hr h => ?_)
  refine ⟨_, (pss_cons (ps_if (PW.pt (pw_or (pt_not (pt_val (pe_callB (isiK K) (by rfl) B.isinstance (by decide +kernel) (pa_cons (pv 2) (pa_cons (pe_bltn (v := .ty "tuple") (by rfl) B.tuple (by decide +kernel) rfl) pa_nil))))) (pw_or1 (pt_cmpR (op_neU K hr.units) (pe_callB (lenK K) (by rfl) B.len (by decide +kernel) (pa_cons (pv 2) pa_nil)) pe_int (nomark _)))))
 (pss_one (ps_ret pe_bl))
 pss_nil)
 (pss_cons (ps_for PassesOwn.never rfl (pi_zipS K (by rfl) B.zip (pa_cons (pv 2) (pa_cons (pe_tup (pa_cons (pe_callB (lenK K) (by rfl) B.len (by decide +kernel) (pa_cons (pv 0) pa_nil)) (pa_cons (pe_callB (lenK K) (by rfl) B.len (by decide +kernel) (pa_cons (pe_ix (ixSK K) (pv 0) pe_int (fun _ _ => rfl)) pa_nil)) pa_nil))) pa_nil))) (pg_tupK K (n := 2) rfl (pgs_cons (pg_name (i := 4) sc_law_covers.nd rfl (.inl rfl)) (pgs_cons (pg_name (i := 5) sc_law_covers.nd rfl (.inr rfl)) pgs_nil)))
 (pss_cons (ps_if (PW.pt (pw_or (pt_not (pt_val (pe_callB (isiK K) (by rfl) B.isinstance (by decide +kernel) (pa_cons (pv 4) (pa_cons (pe_bltn (v := .ty "list") (by rfl) B.list (by decide +kernel) rfl) pa_nil))))) (pw_or1 (pt_not (pt_val (pe_callB (allK K) (by rfl) B.all (by decide +kernel) (pa_cons (pe_lc (own := [("_law_one", 8)]) rfl sc_law_covers.nd (pi_seq K (pv 4)) (blkOk_by (own := [("_law_one", 8)]) (by kernel_rfl)) (fun _ _ _ _ _ => (pg_name (i := 8) sc_law_covers.nd rfl (.inl rfl))) (fun _ _ _ _ _ => pts_nil) (fun _ _ _ _ _ => (pe_call d_law_is_place.G (hr.mono (by omega)) (by rfl) d_law_is_place.g d_law_is_place.F.kp d_law_is_place.b .nil pass0 (pa_cons (pv 8) (pa_cons (pv 5) pa_nil))))) pa_nil)))))))
 (pss_one (ps_ret pe_bl))
 pss_nil)
 (pss_one (ps_if (pt_not (pt_val (pe_callB (allK K) (by rfl) B.all (by decide +kernel) (pa_cons (pe_lc (own := [("_law_one", 8), ("_law_other", 9)]) rfl sc_law_covers.nd (pi_zipS K (by rfl) B.zip (pa_cons (pv 4) (pa_cons (pe_slice (slLK K) (pv 4) (po_some pe_int) po_none) pa_nil))) (blkOk_by (own := [("_law_one", 8), ("_law_other", 9)]) (by kernel_rfl)) (fun _ _ _ _ _ => (pg_tupK K (n := 2) rfl (pgs_cons (pg_name (i := 8) sc_law_covers.nd rfl (.inl rfl)) (pgs_cons (pg_name (i := 9) sc_law_covers.nd rfl (.inl rfl)) pgs_nil)))) (fun _ _ _ _ _ => pts_nil) (fun _ _ _ _ _ => (pe_cmpR op_lt (pv 8) (pv 9) (nomark _)))) pa_nil))))
 (pss_one (ps_ret pe_bl))
 pss_nil))))
 (pss_cons (ps_set (i := 3) sc_law_covers.nd rfl (.inl rfl) (pe_callB (allK K) (by rfl) B.all (by decide +kernel) (pa_cons (pe_lc (own := [("_law_i", 6), ("_law_j", 7)]) rfl sc_law_covers.nd (pi_seq K (pe_call d_law_asks.G (hr.mono (by omega)) (by rfl) d_law_asks.g d_law_asks.F.kp d_law_asks.b .nil pass0 (pa_cons (pv 0) pa_nil))) (blkOk_by (own := [("_law_i", 6), ("_law_j", 7)]) (by kernel_rfl)) (fun _ _ _ _ _ => (pg_tupK K (n := 2) rfl (pgs_cons (pg_name (i := 6) sc_law_covers.nd rfl (.inl rfl)) (pgs_cons (pg_name (i := 7) sc_law_covers.nd rfl (.inl rfl)) pgs_nil)))) (fun _ _ _ _ _ => pts_nil) (fun _ _ _ _ _ => (pe_or (pe_cmpR (inK K) (pv 6) (pe_ix (ixSK K) (pv 2) pe_int (fun _ _ => rfl)) (by with_unfolding_all rfl)) (pe_one (pe_cmpR (inK K) (pv 7) (pe_ix (ixSK K) (pv 2) pe_int (fun _ _ => rfl)) (by with_unfolding_all rfl)))))) pa_nil)))
 (pss_one (ps_ret (pe_and (pv 3) (pe_one (pe_cmpR (op_eqU K hr.units) (pe_op op_addU (pe_callB (lenK K) (by rfl) B.len (by decide +kernel) (pa_cons (pe_ix (ixSK K) (pv 2) pe_int (fun _ _ => rfl)) pa_nil)) (pe_callB (lenK K) (by rfl) B.len (by decide +kernel) (pa_cons (pe_ix (ixSK K) (pv 2) pe_int (fun _ _ => rfl)) pa_nil))) (pv 1) (nomark _))))))))), ?_⟩
  exact run_w (k := 7) ((sim_seq (sim_ifS (sim_or (sim_not (sim_tB (sim_isi kit_tuple sim_var))) (sim_test (sim_op od_ne (sim_cb cb_len (sim_cons sim_var sim_nil)) sim_int)))
 (sim_ret (sim_sh sim_bl))
 sim_skip)
 (sim_seq (sim_for (sim_zip sim_var (sim_tup (sim_cons (sim_cb cb_len (sim_cons sim_var sim_nil)) (sim_cons (sim_cb cb_len (sim_cons (sim_op od_ix sim_var sim_int) sim_nil)) sim_nil)))) (sim_gtup (sim_gcons (sim_name (vs := [4, 5]) (by decide)) (sim_gcons (sim_name (vs := [4, 5]) (by decide)) sim_gnil)))
 (sim_seq (sim_ifS (sim_or (sim_not (sim_tB (sim_isi kit_list sim_var))) (sim_not (sim_tB (sim_cb cb_all (sim_cons (sim_lc (sim_it sim_var) (sim_name (vs := [8]) (by decide)) sim_yes (sim_call w_law_is_place_len (sim_cons sim_var (sim_cons sim_var sim_nil)))) sim_nil)))))
 (sim_ret (sim_sh sim_bl))
 sim_skip)
 (sim_ifS (sim_not (sim_tB (sim_cb cb_all (sim_cons (sim_lc (sim_zip sim_var (sim_sl sim_var (sim_part sim_int) sim_noPart)) (sim_gtup (sim_gcons (sim_name (vs := [8, 9]) (by decide)) (sim_gcons (sim_name (vs := [8, 9]) (by decide)) sim_gnil))) sim_yes (sim_op od_lt sim_var sim_var)) sim_nil))))
 (sim_ret (sim_sh sim_bl))
 sim_skip)))
 (sim_seq (sim_asg (sim_cb cb_all (sim_cons (sim_lc (sim_it (sim_call w_law_asks_len (sim_cons sim_var sim_nil))) (sim_gtup (sim_gcons (sim_name (vs := [6, 7]) (by decide)) (sim_gcons (sim_name (vs := [6, 7]) (by decide)) sim_gnil))) sim_yes (sim_orV (sim_op od_in sim_var (sim_op od_ix sim_var sim_int)) (sim_op od_in sim_var (sim_op od_ix sim_var sim_int)))) sim_nil)) (sim_name (vs := [3]) (by decide)))
 (sim_ret (sim_sh (sim_andV sim_var (sim_op od_eq (sim_op od_add (sim_cb cb_len (sim_cons (sim_op od_ix sim_var sim_int) sim_nil)) (sim_cb cb_len (sim_cons (sim_op od_ix sim_var sim_int) sim_nil))) sim_var)))))))) rfl h
abbrev st_law_best : Stmt := topS 35
theorem sc_law_best : FnScope ["_law_table", "_law_first", "_law_gone", "_law_best_here", "_law_j", "_law_bit"] ["_law_table", "_law_first", "_law_gone"] (defScope st_law_best) := ⟨rfl, rfl, rfl, by decide +kernel, rfl, by decide +kernel, by decide +kernel⟩
def wr_law_best : Nat → WF
  | 0 => fun _ _ _ => False
  | n + 1 => wFn false 3 3 (wSeq (wIfS (wTest (wOp oEq (wVar 1) (wCb oLen (wCons (wVar 0) wNil))))
 (wRet (wSh (wC (.int 0))))
 wSkip)
 (wSeq (wAsg (wCall (wr_law_best n) (wCons (wVar 0) (wCons (wOp oAdd (wVar 1) (wC (.int 1))) (wCons (wVar 2) wNil)))) (wName 3))
 (wSeq (wFor (wEnum (wOp oIx (wVar 0) (wVar 1))) (wGTup 2 (wGCons (wName 4) (wGCons (wName 5) wGNil)))
 (wIfS (wAnd (wTest (wOp oEq (wVar 5) (wC (.int 1)))) (wTest (wOp (oIn true) (wVar 4) (wVar 2))))
 (wAsg (wCb oMax2 (wCons (wVar 3) (wCons (wOp oAdd (wC (.int 1)) (wCall (wr_law_best n) (wCons (wVar 0) (wCons (wOp oAdd (wVar 1) (wC (.int 1))) (wCons (wOp oAdd (wVar 2) (wLst (wCons (wVar 4) wNil))) wNil))))) wNil))) (wName 3))
 wSkip))
 (wRet (wSh (wVar 3))))))
theorem wr_law_best_len : ∀ (n : Nat) {ds : List PyData} {N : Nat} {R : T → Nat → Prop}, wr_law_best n ds N R → ds.length = 3
  | 0, _, _, _, h => h.elim
  | _ + 1, _, _, _, h => h.1
def w_law_best : WF := wr_law_best 5
theorem w_law_best_len {ds : List PyData} {N : Nat} {R : T → Nat → Prop} (h : w_law_best ds N R) : ds.length = 3 := wr_law_best_len 5 h
theorem okr_law_best {f : Addr} {fd : FuncData} (F : Fun K "_law_best" "_law_best" st_law_best f fd) (B : Bm mg) (gg : mg "_law_best" = some (.ref f)) (bb : Binds K fd ["_law_table", "_law_first", "_law_gone"] [])  : ∀ n : Nat, FnOk P w K mg base CX0 (n + 1) f fd ["_law_table", "_law_first", "_law_gone"] (spW false 3 (wr_law_best n))
  | 0 => by
    refine F.ok sc_law_best (fun vs H Q E h => spW_len h) (fun cdv A outer s H vs Q E hr h => ?_)
    obtain ⟨_, _, _, _, _, _, _, _, _, _, _, _, _, _, hw, _⟩ := h
    exact hw.elim
  | n + 1 => by
    have d_law_best : Df P w K mg base (n + 1) "_law_best" st_law_best ["_law_table", "_law_first", "_law_gone"] f fd (spW false 3 (wr_law_best n)) := ⟨F, gg, bb, okr_law_best F B gg bb  n⟩
    refine F.ok sc_law_best (fun vs H Q E h => spW_len h) (fun cdv A outer s H vs Q E hr h => ?_)
    refine ⟨_, (pss_cons (ps_if (pt_cmpR (op_eqU K hr.units) (pv 1) (pe_callB (lenK K) (by rfl) B.len (by decide +kernel) (pa_cons (pv 0) pa_nil)) (nomark _))
 (pss_one (ps_ret pe_int))
 pss_nil)
 (pss_cons (ps_set (i := 3) sc_law_best.nd rfl (.inl rfl) (pe_call d_law_best.G (hr.mono (by omega)) (by rfl) d_law_best.g d_law_best.F.kp d_law_best.b .nil pass0 (pa_cons (pv 0) (pa_cons (pe_op op_addU (pv 1) pe_int) (pa_cons (pv 2) pa_nil)))))
 (pss_cons (ps_for PassesOwn.never rfl (pi_enumS K (by rfl) B.enumerate (pa_cons (pe_ix (ixSK K) (pv 0) (pv 1) (fun _ _ => rfl)) pa_nil)) (pg_tupK K (n := 2) rfl (pgs_cons (pg_name (i := 4) sc_law_best.nd rfl (.inl rfl)) (pgs_cons (pg_name (i := 5) sc_law_best.nd rfl (.inl rfl)) pgs_nil)))
 (pss_one (ps_if (PW.pt (pw_and (pt_cmpR (op_eqU K hr.units) (pv 5) pe_int (nomark _)) (pw_and1 (pt_cmpR (notInK K) (pv 4) (pv 2) (by with_unfolding_all rfl)))))
 (pss_one (ps_set (i := 3) sc_law_best.nd rfl (.inl rfl) (pe_callB (call_max2 rfl) (by rfl) B.max (by decide +kernel) (pa_cons (pv 3) (pa_cons (pe_op op_addU pe_int (pe_call d_law_best.G (hr.mono (by omega)) (by rfl) d_law_best.g d_law_best.F.kp d_law_best.b .nil pass0 (pa_cons (pv 0) (pa_cons (pe_op op_addU (pv 1) pe_int) (pa_cons (pe_op op_addU (pv 2) (pe_lst (pa_cons (pv 4) pa_nil))) pa_nil))))) pa_nil)))))
 pss_nil)))
 (pss_one (ps_ret (pv 3)))))), ?_⟩
    exact run_w (k := 3) ((sim_seq (sim_ifS (sim_test (sim_op od_eq sim_var (sim_cb cb_len (sim_cons sim_var sim_nil))))
 (sim_ret (sim_sh sim_int))
 sim_skip)
 (sim_seq (sim_asg (sim_call (wr_law_best_len n) (sim_cons sim_var (sim_cons (sim_op od_add sim_var sim_int) (sim_cons sim_var sim_nil)))) (sim_name (vs := [3]) (by decide)))
 (sim_seq (sim_for (sim_enum (sim_op od_ix sim_var sim_var)) (sim_gtup (sim_gcons (sim_name (vs := [4, 5]) (by decide)) (sim_gcons (sim_name (vs := [4, 5]) (by decide)) sim_gnil)))
 (sim_ifS (sim_and (sim_test (sim_op od_eq sim_var sim_int)) (sim_test (sim_op od_in sim_var sim_var)))
 (sim_asg (sim_cb cb_max2 (sim_cons sim_var (sim_cons (sim_op od_add sim_int (sim_call (wr_law_best_len n) (sim_cons sim_var (sim_cons (sim_op od_add sim_var sim_int) (sim_cons (sim_op od_add sim_var (sim_lst (sim_cons sim_var sim_nil))) sim_nil))))) sim_nil))) (sim_name (vs := [3]) (by decide)))
 sim_skip))
 (sim_ret (sim_sh sim_var)))))) rfl h
theorem ok_law_best {f : Addr} {fd : FuncData} (F : Fun K "_law_best" "_law_best" st_law_best f fd) (B : Bm mg) (gg : mg "_law_best" = some (.ref f)) (bb : Binds K fd ["_law_table", "_law_first", "_law_gone"] [])  : FnOk P w K mg base CX0 6 f fd ["_law_table", "_law_first", "_law_gone"] (spW false 3 w_law_best) := okr_law_best F B gg bb  5
abbrev st_law_grown_right : Stmt := topS 36
theorem sc_law_grown_right : FnScope ["_law_table", "_law_pairs", "_law_most", "_law_turn", "_law_more", "_law_inlets", "_law_outlets", "_law_i", "_law_j"] ["_law_table", "_law_pairs", "_law_most"] (defScope st_law_grown_right) := ⟨rfl, rfl, rfl, by decide +kernel, rfl, by decide +kernel, by decide +kernel⟩
def w_law_grown_right : WF := wFn false 3 6 (wSeq (wFor (wRng1 (wOp oSub (wVar 2) (wCb oLen (wCons (wVar 1) wNil)))) (wName 3)
 (wSeq (wAsg (wCall w_grown (wCons (wVar 0) (wCons (wVar 1) wNil))) (wName 4))
 (wSeq (wIfS (wOr (wTest (wOp oIs (wVar 4) (wC .none))) (wOr (wNot (wTest (wCall w_law_are_pairs (wCons (wVar 0) (wCons (wVar 4) wNil))))) (wTest (wOp oNe (wCb oLen (wCons (wVar 4) wNil)) (wOp oAdd (wCb oLen (wCons (wVar 1) wNil)) (wC (.int 1)))))))
 (wRet (wSh (wC (.bool false))))
 wSkip)
 (wSeq (wParN [5, 6] (wConsT (wSh (wLc (wIt (wVar 4)) (wGTup 2 (wGCons (wName 7) (wGCons (wName 8) wGNil))) wYes (wVar 7) [7, 8])) (wConsT (wSh (wLc (wIt (wVar 4)) (wGTup 2 (wGCons (wName 7) (wGCons (wName 8) wGNil))) wYes (wVar 8) [7, 8])) wNilT)))
 (wSeq (wIfS (wNot (wTest (wCb oAll (wCons (wLc (wIt (wVar 1)) (wGTup 2 (wGCons (wName 7) (wGCons (wName 8) wGNil))) wYes (wAndV (wOp (oIn false) (wVar 7) (wVar 5)) (wOp (oIn false) (wVar 8) (wVar 6))) [7, 8]) wNil))))
 (wRet (wSh (wC (.bool false))))
 wSkip)
 (wAsg (wVar 4) (wName 1)))))))
 (wRet (wSh (wAndV (wOp oIs (wCall w_grown (wCons (wVar 0) (wCons (wVar 1) wNil))) (wC .none)) (wOp (oIsB false) (wCall w_are_pairs (wCons (wVar 0) (wCons (wVar 1) wNil))) (wC (.bool true)))))))
theorem w_law_grown_right_len {ds : List PyData} {N : Nat} {R : T → Nat → Prop} (h : w_law_grown_right ds N R) : ds.length = 3 := h.1
theorem w_law_grown_right_cg {ds ds' : List PyData} {N N' : Nat} {R : T → Nat → Prop} (h : ds = ds') (h' : N = N') : w_law_grown_right ds N R = w_law_grown_right ds' N' R := by rw [h, h']
theorem ok_law_grown_right {f : Addr} {fd : FuncData} (F : Fun K "_law_grown_right" "_law_grown_right" st_law_grown_right f fd) (B : Bm mg) {f_law_are_pairs : Addr} {fd_law_are_pairs : FuncData} (d_law_are_pairs : Df P w K mg base 2 "_law_are_pairs" st_law_are_pairs ["_law_table", "_law_thing"] f_law_are_pairs fd_law_are_pairs (spW false 2 w_law_are_pairs)) {f_are_pairs : Addr} {fd_are_pairs : FuncData} (d_are_pairs : Df P w K mg base 5 "are_pairs" st_are_pairs ["table", "thing"] f_are_pairs fd_are_pairs (spW false 2 w_are_pairs)) {f_grown : Addr} {fd_grown : FuncData} (d_grown : Df P w K mg base 4 "grown" st_grown ["table", "pairs"] f_grown fd_grown (spW false 2 w_grown)) : FnOk P w K mg base CX0 6 f fd ["_law_table", "_law_pairs", "_law_most"] (spW false 3 w_law_grown_right) := by
  refine F.ok sc_law_grown_right (fun vs H Q E h => spW_len h) (fun cdv A outer s H vs Q E hr h => ?_)
  refine ⟨_, (pss_cons (ps_for PassesOwn.never rfl (pi_range1 (by rfl) B.range (pa_cons (pe_op op_sub (pv 2) (pe_callB (lenK K) (by rfl) B.len (by decide +kernel) (pa_cons (pv 1) pa_nil))) pa_nil)) (pg_name (i := 3) sc_law_grown_right.nd rfl (.inl rfl))
 (pss_cons (ps_set (i := 4) sc_law_grown_right.nd rfl (.inl rfl) (pe_call d_grown.G (hr.mono (by omega)) (by rfl) d_grown.g d_grown.F.kp d_grown.b .nil pass0 (pa_cons (pv 0) (pa_cons (pv 1) pa_nil))))
 (pss_cons (ps_if (PW.pt (pw_or (pt_cmpR op_isN (pv 4) pe_non (nomark _)) (pw_or (pt_not (pt_val (pe_call d_law_are_pairs.G (hr.mono (by omega)) (by rfl) d_law_are_pairs.g d_law_are_pairs.F.kp d_law_are_pairs.b .nil pass0 (pa_cons (pv 0) (pa_cons (pv 4) pa_nil))))) (pw_or1 (pt_cmpR (op_neU K hr.units) (pe_callB (lenK K) (by rfl) B.len (by decide +kernel) (pa_cons (pv 4) pa_nil)) (pe_op op_addU (pe_callB (lenK K) (by rfl) B.len (by decide +kernel) (pa_cons (pv 1) pa_nil)) pe_int) (nomark _))))))
 (pss_one (ps_ret pe_bl))
 pss_nil)
 (pss_cons (ps_asg (pe_tup (pa_cons (pe_lc (own := [("_law_i", 7), ("_law_j", 8)]) rfl sc_law_grown_right.nd (pi_seq K (pv 4)) (blkOk_by (own := [("_law_i", 7), ("_law_j", 8)]) (by kernel_rfl)) (fun _ _ _ _ _ => (pg_tupK K (n := 2) rfl (pgs_cons (pg_name (i := 7) sc_law_grown_right.nd rfl (.inl rfl)) (pgs_cons (pg_name (i := 8) sc_law_grown_right.nd rfl (.inl rfl)) pgs_nil)))) (fun _ _ _ _ _ => pts_nil) (fun _ _ _ _ _ => (pv 7))) (pa_cons (pe_lc (own := [("_law_i", 7), ("_law_j", 8)]) rfl sc_law_grown_right.nd (pi_seq K (pv 4)) (blkOk_by (own := [("_law_i", 7), ("_law_j", 8)]) (by kernel_rfl)) (fun _ _ _ _ _ => (pg_tupK K (n := 2) rfl (pgs_cons (pg_name (i := 7) sc_law_grown_right.nd rfl (.inl rfl)) (pgs_cons (pg_name (i := 8) sc_law_grown_right.nd rfl (.inl rfl)) pgs_nil)))) (fun _ _ _ _ _ => pts_nil) (fun _ _ _ _ _ => (pv 8))) pa_nil))) (pg_tupK K (n := 2) rfl (pgs_cons (pg_name (i := 5) sc_law_grown_right.nd rfl (.inr rfl)) (pgs_cons (pg_name (i := 6) sc_law_grown_right.nd rfl (.inr rfl)) pgs_nil))))
 (pss_cons (ps_if (pt_not (pt_val (pe_callB (allK K) (by rfl) B.all (by decide +kernel) (pa_cons (pe_lc (own := [("_law_i", 7), ("_law_j", 8)]) rfl sc_law_grown_right.nd (pi_seq K (pv 1)) (blkOk_by (own := [("_law_i", 7), ("_law_j", 8)]) (by kernel_rfl)) (fun _ _ _ _ _ => (pg_tupK K (n := 2) rfl (pgs_cons (pg_name (i := 7) sc_law_grown_right.nd rfl (.inl rfl)) (pgs_cons (pg_name (i := 8) sc_law_grown_right.nd rfl (.inl rfl)) pgs_nil)))) (fun _ _ _ _ _ => pts_nil) (fun _ _ _ _ _ => (pe_and (pe_cmpR (inK K) (pv 7) (pv 5) (by with_unfolding_all rfl)) (pe_one (pe_cmpR (inK K) (pv 8) (pv 6) (by with_unfolding_all rfl)))))) pa_nil))))
 (pss_one (ps_ret pe_bl))
 pss_nil)
 (pss_one (ps_set (i := 1) sc_law_grown_right.nd rfl (.inl rfl) (pv 4))))))))
 (pss_one (ps_ret (pe_and (pe_cmpR op_isN (pe_call d_grown.G (hr.mono (by omega)) (by rfl) d_grown.g d_grown.F.kp d_grown.b .nil pass0 (pa_cons (pv 0) (pa_cons (pv 1) pa_nil))) pe_non (nomark _)) (pe_one (pe_cmpR op_isB (pe_call d_are_pairs.G (hr.mono (by omega)) (by rfl) d_are_pairs.g d_are_pairs.F.kp d_are_pairs.b .nil pass0 (pa_cons (pv 0) (pa_cons (pv 1) pa_nil))) pe_bl (nomark _))))))), ?_⟩
  exact run_w (k := 6) ((sim_seq (sim_for (sim_r1 (sim_op od_sub sim_var (sim_cb cb_len (sim_cons sim_var sim_nil)))) (sim_name (vs := [3]) (by decide))
 (sim_seq (sim_asg (sim_call w_grown_len (sim_cons sim_var (sim_cons sim_var sim_nil))) (sim_name (vs := [4]) (by decide)))
 (sim_seq (sim_ifS (sim_or (sim_test (sim_op od_is sim_var sim_non)) (sim_or (sim_not (sim_tB (sim_call w_law_are_pairs_len (sim_cons sim_var (sim_cons sim_var sim_nil))))) (sim_test (sim_op od_ne (sim_cb cb_len (sim_cons sim_var sim_nil)) (sim_op od_add (sim_cb cb_len (sim_cons sim_var sim_nil)) sim_int)))))
 (sim_ret (sim_sh sim_bl))
 sim_skip)
 (sim_seq (sim_parG2 (sim_consT (sim_sh (sim_lc (sim_it sim_var) (sim_gtup (sim_gcons (sim_name (vs := [7, 8]) (by decide)) (sim_gcons (sim_name (vs := [7, 8]) (by decide)) sim_gnil))) sim_yes sim_var)) (sim_consT (sim_sh (sim_lc (sim_it sim_var) (sim_gtup (sim_gcons (sim_name (vs := [7, 8]) (by decide)) (sim_gcons (sim_name (vs := [7, 8]) (by decide)) sim_gnil))) sim_yes sim_var)) sim_nilT)))
 (sim_seq (sim_ifS (sim_not (sim_tB (sim_cb cb_all (sim_cons (sim_lc (sim_it sim_var) (sim_gtup (sim_gcons (sim_name (vs := [7, 8]) (by decide)) (sim_gcons (sim_name (vs := [7, 8]) (by decide)) sim_gnil))) sim_yes (sim_andV (sim_op od_in sim_var sim_var) (sim_op od_in sim_var sim_var))) sim_nil))))
 (sim_ret (sim_sh sim_bl))
 sim_skip)
 (sim_asg sim_var (sim_name (vs := [1]) (by decide))))))))
 (sim_ret (sim_sh (sim_andV (sim_op od_is (sim_call w_grown_len (sim_cons sim_var (sim_cons sim_var sim_nil))) sim_non) (sim_op od_isB (sim_call w_are_pairs_len (sim_cons sim_var (sim_cons sim_var sim_nil))) sim_bl)))))) rfl h
abbrev st_law_table_right : Stmt := topS 37
theorem sc_law_table_right : FnScope ["_law_table", "_law_fewer", "_law_most", "_law_first", "_law_pairs", "_law_cover", "_law_k"] ["_law_table"] (defScope st_law_table_right) := ⟨rfl, rfl, rfl, by decide +kernel, rfl, by decide +kernel, by decide +kernel⟩
def w_law_table_right : WF := wFn false 1 6 (wSeq (wParN [2, 3] (wConsT (wSh (wCall w_law_best (wCons (wVar 0) (wCons (wC (.int 0)) (wCons (wLst wNil) wNil))))) (wConsT (wSh (wCall w_first_pairs (wCons (wVar 0) wNil))) wNilT)))
 (wSeq (wIfS (wOr (wNot (wTest (wCall w_law_are_pairs (wCons (wVar 0) (wCons (wVar 3) wNil))))) (wOr (wTest (wOp oIsNot (wCall w_free_ask (wCons (wVar 0) (wCons (wVar 3) wNil))) (wC .none))) (wTest (wOp oLt (wOp oMul (wC (.int 2)) (wCb oLen (wCons (wVar 3) wNil))) (wVar 2)))))
 (wRet (wSh (wC (.bool false))))
 wSkip)
 (wSeq (wIfS (wOr (wNot (wTest (wCall w_law_grown_right (wCons (wVar 0) (wCons (wVar 3) (wCons (wVar 2) wNil)))))) (wNot (wTest (wCall w_law_grown_right (wCons (wVar 0) (wCons (wLst wNil) (wCons (wVar 2) wNil)))))))
 (wRet (wSh (wC (.bool false))))
 wSkip)
 (wSeq (wParN [4, 5] (wConsT (wSh (wCall w_most_pairs (wCons (wVar 0) wNil))) (wConsT (wSh (wCall w_cover_of (wCons (wVar 0) wNil))) wNilT)))
 (wSeq (wIfS (wOr (wNot (wTest (wCall w_law_are_pairs (wCons (wVar 0) (wCons (wVar 4) wNil))))) (wOr (wTest (wOp oNe (wCb oLen (wCons (wVar 4) wNil)) (wVar 2))) (wNot (wTest (wCall w_law_covers (wCons (wVar 0) (wCons (wVar 2) (wCons (wVar 5) wNil))))))))
 (wRet (wSh (wC (.bool false))))
 wSkip)
 (wSeq (wAsg (wLc (wRng1 (wVar 2)) (wName 6) wYes (wCall w_shows_most (wCons (wVar 0) (wCons (wSl (wVar 4) wNoPart (wPart (wVar 6))) (wCons (wVar 5) wNil)))) [6]) (wName 1))
 (wRet (wSh (wAndV (wOp (oIsB false) (wCall w_shows_most (wCons (wVar 0) (wCons (wVar 4) (wCons (wVar 5) wNil)))) (wC (.bool true))) (wOp oNotInD (wC (.bool true)) (wVar 1)))))))))))
theorem w_law_table_right_len {ds : List PyData} {N : Nat} {R : T → Nat → Prop} (h : w_law_table_right ds N R) : ds.length = 1 := h.1
theorem w_law_table_right_cg {ds ds' : List PyData} {N N' : Nat} {R : T → Nat → Prop} (h : ds = ds') (h' : N = N') : w_law_table_right ds N R = w_law_table_right ds' N' R := by rw [h, h']
theorem ok_law_table_right {f : Addr} {fd : FuncData} (F : Fun K "_law_table_right" "_law_table_right" st_law_table_right f fd) (B : Bm mg) {f_law_are_pairs : Addr} {fd_law_are_pairs : FuncData} (d_law_are_pairs : Df P w K mg base 2 "_law_are_pairs" st_law_are_pairs ["_law_table", "_law_thing"] f_law_are_pairs fd_law_are_pairs (spW false 2 w_law_are_pairs)) {f_law_best : Addr} {fd_law_best : FuncData} (d_law_best : Df P w K mg base 6 "_law_best" st_law_best ["_law_table", "_law_first", "_law_gone"] f_law_best fd_law_best (spW false 3 w_law_best)) {f_law_covers : Addr} {fd_law_covers : FuncData} (d_law_covers : Df P w K mg base 2 "_law_covers" st_law_covers ["_law_table", "_law_count", "_law_thing"] f_law_covers fd_law_covers (spW false 3 w_law_covers)) {f_law_grown_right : Addr} {fd_law_grown_right : FuncData} (d_law_grown_right : Df P w K mg base 6 "_law_grown_right" st_law_grown_right ["_law_table", "_law_pairs", "_law_most"] f_law_grown_right fd_law_grown_right (spW false 3 w_law_grown_right)) {f_cover_of : Addr} {fd_cover_of : FuncData} (d_cover_of : Df P w K mg base 6 "cover_of" st_cover_of ["table"] f_cover_of fd_cover_of (spW false 1 w_cover_of)) {f_first_pairs : Addr} {fd_first_pairs : FuncData} (d_first_pairs : Df P w K mg base 4 "first_pairs" st_first_pairs ["table"] f_first_pairs fd_first_pairs (spW false 1 w_first_pairs)) {f_free_ask : Addr} {fd_free_ask : FuncData} (d_free_ask : Df P w K mg base 3 "free_ask" st_free_ask ["table", "pairs"] f_free_ask fd_free_ask (spW false 2 w_free_ask)) {f_most_pairs : Addr} {fd_most_pairs : FuncData} (d_most_pairs : Df P w K mg base 5 "most_pairs" st_most_pairs ["table"] f_most_pairs fd_most_pairs (spW false 1 w_most_pairs)) {f_shows_most : Addr} {fd_shows_most : FuncData} (d_shows_most : Df P w K mg base 6 "shows_most" st_shows_most ["table", "pairs", "thing"] f_shows_most fd_shows_most (spW false 3 w_shows_most)) : FnOk P w K mg base CX0 7 f fd ["_law_table"] (spW false 1 w_law_table_right) := by
  refine F.ok sc_law_table_right (fun vs H Q E h => spW_len h) (fun cdv A outer s H vs Q E hr h => ?_)
  refine ⟨_, (pss_cons (ps_par (i := 2) (j := 3) (by rfl) sc_law_table_right.nd rfl rfl (by decide) rfl rfl (pa_cons (pe_call d_law_best.G (hr.mono (by omega)) (by rfl) d_law_best.g d_law_best.F.kp d_law_best.b .nil pass0 (pa_cons (pv 0) (pa_cons pe_int (pa_cons (pe_lst pa_nil) pa_nil)))) (pa_cons (pe_call d_first_pairs.G (hr.mono (by omega)) (by rfl) d_first_pairs.g d_first_pairs.F.kp d_first_pairs.b .nil pass0 (pa_cons (pv 0) pa_nil)) pa_nil)) (by rfl))
 (pss_cons (ps_if (PW.pt (pw_or (pt_not (pt_val (pe_call d_law_are_pairs.G (hr.mono (by omega)) (by rfl) d_law_are_pairs.g d_law_are_pairs.F.kp d_law_are_pairs.b .nil pass0 (pa_cons (pv 0) (pa_cons (pv 3) pa_nil))))) (pw_or (pt_cmpR op_notN (pe_call d_free_ask.G (hr.mono (by omega)) (by rfl) d_free_ask.g d_free_ask.F.kp d_free_ask.b .nil pass0 (pa_cons (pv 0) (pa_cons (pv 3) pa_nil))) pe_non (nomark _)) (pw_or1 (pt_cmpR op_lt (pe_op op_mulU pe_int (pe_callB (lenK K) (by rfl) B.len (by decide +kernel) (pa_cons (pv 3) pa_nil))) (pv 2) (nomark _))))))
 (pss_one (ps_ret pe_bl))
 pss_nil)
 (pss_cons (ps_if (PW.pt (pw_or (pt_not (pt_val (pe_call d_law_grown_right.G (hr.mono (by omega)) (by rfl) d_law_grown_right.g d_law_grown_right.F.kp d_law_grown_right.b .nil pass0 (pa_cons (pv 0) (pa_cons (pv 3) (pa_cons (pv 2) pa_nil)))))) (pw_or1 (pt_not (pt_val (pe_call d_law_grown_right.G (hr.mono (by omega)) (by rfl) d_law_grown_right.g d_law_grown_right.F.kp d_law_grown_right.b .nil pass0 (pa_cons (pv 0) (pa_cons (pe_lst pa_nil) (pa_cons (pv 2) pa_nil)))))))))
 (pss_one (ps_ret pe_bl))
 pss_nil)
 (pss_cons (ps_asg (pe_tup (pa_cons (pe_call d_most_pairs.G (hr.mono (by omega)) (by rfl) d_most_pairs.g d_most_pairs.F.kp d_most_pairs.b .nil pass0 (pa_cons (pv 0) pa_nil)) (pa_cons (pe_call d_cover_of.G (hr.mono (by omega)) (by rfl) d_cover_of.g d_cover_of.F.kp d_cover_of.b .nil pass0 (pa_cons (pv 0) pa_nil)) pa_nil))) (pg_tupK K (n := 2) rfl (pgs_cons (pg_name (i := 4) sc_law_table_right.nd rfl (.inr rfl)) (pgs_cons (pg_name (i := 5) sc_law_table_right.nd rfl (.inr rfl)) pgs_nil))))
 (pss_cons (ps_if (PW.pt (pw_or (pt_not (pt_val (pe_call d_law_are_pairs.G (hr.mono (by omega)) (by rfl) d_law_are_pairs.g d_law_are_pairs.F.kp d_law_are_pairs.b .nil pass0 (pa_cons (pv 0) (pa_cons (pv 4) pa_nil))))) (pw_or (pt_cmpR (op_neU K hr.units) (pe_callB (lenK K) (by rfl) B.len (by decide +kernel) (pa_cons (pv 4) pa_nil)) (pv 2) (nomark _)) (pw_or1 (pt_not (pt_val (pe_call d_law_covers.G (hr.mono (by omega)) (by rfl) d_law_covers.g d_law_covers.F.kp d_law_covers.b .nil pass0 (pa_cons (pv 0) (pa_cons (pv 2) (pa_cons (pv 5) pa_nil))))))))))
 (pss_one (ps_ret pe_bl))
 pss_nil)
 (pss_cons (ps_setLc (i := 1) (own := [("_law_k", 6)]) rfl sc_law_table_right.nd rfl rfl (sw_true rfl rfl rfl (by decide +kernel)) (pi_range1 (by rfl) B.range (pa_cons (pv 2) pa_nil)) (blkOk_by (own := [("_law_k", 6)]) (by kernel_rfl)) (fun _ _ _ _ _ => (pg_name (i := 6) sc_law_table_right.nd rfl (.inl rfl))) (fun _ _ _ _ _ => pts_nil) (fun _ _ _ _ _ => (pe_call d_shows_most.G (hr.mono (by omega)) (by rfl) d_shows_most.g d_shows_most.F.kp d_shows_most.b .nil pass0 (pa_cons (pv 0) (pa_cons (pe_slice (slLK K) (pv 4) po_none (po_some (pv 6))) (pa_cons (pv 5) pa_nil))))))
 (pss_one (ps_ret (pe_and (pe_cmpR op_isB (pe_call d_shows_most.G (hr.mono (by omega)) (by rfl) d_shows_most.g d_shows_most.F.kp d_shows_most.b .nil pass0 (pa_cons (pv 0) (pa_cons (pv 4) (pa_cons (pv 5) pa_nil)))) pe_bl (nomark _)) (pe_one (pe_cmpR (notInDK K (room65 hr)) pe_bl (pv 1) (by with_unfolding_all rfl)))))))))))), ?_⟩
  exact run_w (k := 6) ((sim_seq (sim_par2 (sim_consT (sim_sh (sim_call w_law_best_len (sim_cons sim_var (sim_cons sim_int (sim_cons (sim_lst sim_nil) sim_nil))))) (sim_consT (sim_sh (sim_call w_first_pairs_len (sim_cons sim_var sim_nil))) sim_nilT)))
 (sim_seq (sim_ifS (sim_or (sim_not (sim_tB (sim_call w_law_are_pairs_len (sim_cons sim_var (sim_cons sim_var sim_nil))))) (sim_or (sim_test (sim_op od_isnot (sim_call w_free_ask_len (sim_cons sim_var (sim_cons sim_var sim_nil))) sim_non)) (sim_test (sim_op od_lt (sim_op od_mul sim_int (sim_cb cb_len (sim_cons sim_var sim_nil))) sim_var))))
 (sim_ret (sim_sh sim_bl))
 sim_skip)
 (sim_seq (sim_ifS (sim_or (sim_not (sim_tB (sim_call w_law_grown_right_len (sim_cons sim_var (sim_cons sim_var (sim_cons sim_var sim_nil)))))) (sim_not (sim_tB (sim_call w_law_grown_right_len (sim_cons sim_var (sim_cons (sim_lst sim_nil) (sim_cons sim_var sim_nil)))))))
 (sim_ret (sim_sh sim_bl))
 sim_skip)
 (sim_seq (sim_parG2 (sim_consT (sim_sh (sim_call w_most_pairs_len (sim_cons sim_var sim_nil))) (sim_consT (sim_sh (sim_call w_cover_of_len (sim_cons sim_var sim_nil))) sim_nilT)))
 (sim_seq (sim_ifS (sim_or (sim_not (sim_tB (sim_call w_law_are_pairs_len (sim_cons sim_var (sim_cons sim_var sim_nil))))) (sim_or (sim_test (sim_op od_ne (sim_cb cb_len (sim_cons sim_var sim_nil)) sim_var)) (sim_not (sim_tB (sim_call w_law_covers_len (sim_cons sim_var (sim_cons sim_var (sim_cons sim_var sim_nil))))))))
 (sim_ret (sim_sh sim_bl))
 sim_skip)
 (sim_seq (sim_asg (sim_lc (sim_r1 sim_var) (sim_name (vs := [6]) (by decide)) sim_yes (sim_call w_shows_most_len (sim_cons sim_var (sim_cons (sim_sl sim_var sim_noPart (sim_part sim_var)) (sim_cons sim_var sim_nil))))) (sim_name (vs := [1]) (by decide)))
 (sim_ret (sim_sh (sim_andV (sim_op od_isB (sim_call w_shows_most_len (sim_cons sim_var (sim_cons sim_var (sim_cons sim_var sim_nil)))) sim_bl) (sim_op od_notInD sim_bl sim_var))))))))))) rfl h
abbrev st_law : Stmt := topS 38
theorem sc_law : FnScope ["_law_script", "_law_box_here", "_law_begin", "_law_turn", "_law_n", "_law_m", "_law_number", "_law_table", "_law_i", "_law_j"] ["_law_script"] (defScope st_law) := ⟨rfl, rfl, rfl, by decide +kernel, rfl, by decide +kernel, by decide +kernel⟩
end
end K83

set_option Elab.async false
set_option linter.all false
set_option maxRecDepth 100000
set_option maxHeartbeats 1000000
namespace K83
open PySem PySem.Spec PyProof.Rows L2 Evl Cg
local macro_rules
  | `(tactic| sizeOf_list_dec) => `(tactic| simp (config := {failIfUnchanged := false}) only [↓wVar_eq, ↓wC_eq, ↓wRetV_eq, ↓wFrz_eq, isBox_eq, ↓wNil_eq, ↓wCons_eq, ↓wOp_eq, ↓wOpT_eq, ↓wUn_eq, ↓wCb_eq, ↓wCbT_eq, ↓wTest_eq, ↓wTru_eq, ↓wYes_eq, ↓wNot_eq, ↓wAnd_eq, ↓wOr_eq, ↓wAndV_eq, ↓wOrV_eq, ↓wNotV_eq, ↓wIf_eq, ↓wIfT_eq, ↓wChain_eq, ↓wLst_eq, ↓wTup_eq, ↓wNilT_eq, ↓wConsT_eq, ↓wLstT_eq, ↓wTupT_eq, ↓wSh_eq, ↓wFz_eq, ↓wVw_eq, ↓wVb_eq, ↓wVt_eq, view_nil, view_cons, view_no, view_box, view_is, ↓wCall_eq, ↓wCallT_eq, ↓wCallB_eq, ↓wCallBT_eq, ↓wIs_eq, ↓wNoPart_eq, ↓wPart_eq, ↓wSl_eq, ↓wSlT_eq, ↓wRevT_eq, ↓wRgL_eq, ↓wSkip_eq, ↓wBreak_eq, ↓wCont_eq, ↓wSeq_eq, ↓seq_nx, ↓seq_rt, ↓seq_bk, ↓seq_ct, ↓loop_nx, ↓loop_rt, ↓loop_bk, ↓loop_ct, ↓fn_nx, ↓fn_rt, ↓wRet_eq, ↓wRetN_eq, ↓wIfS_eq, ↓wAsgT_eq, ↓wAsg_eq, ↓wParN_eq, setsE_cons, setsE_nil, ↓wDrop_eq, ↓wName_eq, ↓wGNil_eq, ↓wGCons_eq, ↓wGTup_eq, ↓wApp_eq, ↓wRev_eq, ↓wClr_eq, ↓wExt_eq, ↓wSet_eq, ↓wPop_eq, ↓wipe_nil, ↓wipe_cons, env0_f, env0_t, atSh_is, atIs_is, atOwn_is, atBox_is, bIf_t, bIf_f, bIf_not, dBool_is, dInt_is, dTup_is, dList_is, dSeq_list, dSeq_tup, dSeq_seq, dTru_none, dTru_bool, dTru_int, dTru_list, dTru_tup, dCons_is, oI_int, oI0_int, oAdd_int, oAdd_list, oMul_int, oMul_list, oNeg_int, oEq_int, oEq_bool, oEq_nn, oEq_in, oEq_ni, oNe_int, oNe_bool, oNe_nn, oNe_in, oNe_ni, oEq_list, oNe_list, oEq_tup, oNe_tup, oEq_str, oNe_str, oIx_list, oIx_tup, oIx_seq, oLen_list, oLen_tup, oLen_seq, oInt_int, oInt_bool, oAbs_int, oMin2_int, oMax2_int, oAll_is, oSum_is, oListD_list, oListD_tup, oListD_seq, oTuple_list, oTuple_tup, oTuple_seq, oRepr_is, oIs_none, oIsNot_none, in_nats_t, in_nats_f, oIn_list, oIn_seq, oList_list, oList_tup, oList_seq, oCat_list, oRep_list, atI_l0, atI_l1, atI_l2, exists_eq_left', exists_eq_left, wPickT_eq, ↓wDNew_eq, ↓wDPut_eq, ↓wDList_eq, atDic_is, ↓wDGet_eq, ↓wDIn_eq, ↓wDNotIn_eq, ↓wDGet1_eq, ↓wD0_eq, ↓wDKeys_eq, ↓wDSort_eq, ↓wDSet_eq, ↓wLk_eq, ↓wKeys_eq, ↓wItems_eq, atD_own, atD_frz, atD_sh, atDO_is, atF_is, ↓wPop0_eq, ↓wSelf_eq, ↓wMove_eq, ↓wRetVT_eq, ↓wApp2_eq, ↓wSet2_eq, ↓wSetP_eq, ↓wAug_eq, oCount_list, ↓wRetPick_eq, oIsB_is, ↓wBmL_eq, oIndexS_is, ↓wAppPop_eq, ↓wAppPopT_eq, ↓wRev2_eq, oSumS_list, oSumS_tup, oSumS_seq, ↓wRetV2_eq, atOwnB_lst, atOwnB_tup, atL_int, mkT_t, mkT_f, w_take_is, w_same_is, isNone_none, isNone_bool, isNone_int, isNone_str, isNone_list, isNone_tup, isInt_none, isInt_bool, isInt_int, isInt_str, isInt_list, isInt_tup, isBool_none, isBool_bool, isBool_int, isBool_str, isBool_list, isBool_tup, isList_none, isList_bool, isList_int, isList_str, isList_list, isList_tup, isTuple_none, isTuple_bool, isTuple_int, isTuple_str, isTuple_list, isTuple_tup, isStr_none, isStr_bool, isStr_int, isStr_str, isStr_list, isStr_tup, isNone_seq, isList_seq, isTuple_seq, isInt_seq, isBool_seq, isStr_seq, dTru_seq, List.isEmpty_nil, List.isEmpty_cons, beq_self_eq_true, decide_true, decide_false, T.clean, T.cleans, T.data, T.datas, imm, immAll, List.getElem?_cons_zero, List.getElem?_cons_succ, List.set_cons_zero, List.set_cons_succ, List.map_cons, List.map_nil, List.cons_append, List.nil_append, List.replicate_succ, List.replicate_zero, List.length_cons, List.length_nil, List.length_map, if_true, if_false, Bool.true_and, Bool.and_true, Bool.false_and, Bool.and_false, Bool.not_true, Bool.not_false, Bool.or_true, Bool.true_or, Bool.false_or, Bool.or_false, Bool.false_eq_true, reduceIte, reduceCtorEq, true_and, and_true, Option.some.injEq, Nat.reduceAdd, Nat.reduceLeDiff, Int.reduceLE, Int.reduceLT, Int.cast_ofNat_Int, Int.reduceBEq, Int.reduceToNat])
/-! tables -/
section
variable {N : Nat} {R : T → Nat → Prop} {k1 k2 k3 k4 : Bool} {M : Mat}
theorem outlets_in_spec {r : List Int} {Ms : Mat} (h : R (.sh (.int (r.length : Int))) N) : w_outlets_in [tabD k1 k2 (r :: Ms)] N R := by
  refine ⟨rfl, ?_⟩
  unfold tabD
  cases k1
  · show wRet _ _ [.is (.sh (.tuple _))] _
    sizeOf_list_dec
    unfold rowD
    sizeOf_list_dec
    exact h
  · show wRet _ _ [.is (.sh (.list _))] _
    sizeOf_list_dec
    unfold rowD
    sizeOf_list_dec
    exact h
theorem asks_of_spec (hz : Sz M) (h : R (.lst ((asksN M).map fun p => .sh (pD p))) N) : w_asks_of [tabD k1 k2 M] N R := by
  refine ⟨rfl, ?_⟩
  sizeOf_list_dec
  refine lcT2_f M.zipIdx (fun p => .tuple [.int (p.2 : Nat), rowD k2 p.1]) (fun p => p.1.zipIdx) (fun _ q => .tuple [.int (q.2 : Nat), .int q.1]) (fun p q => if q.1 == 1 then some (pD (p.2, q.2)) else none) (fun _ => true) ?_ (fun x X B hx hA hB => ?_) ?_ ?_
  · rw [← enum_map]
    exact gv_en (fun R h => by sizeOf_list_dec; exact h) (by unfold tabD; exact seqOf_seqD _ _)
  · sizeOf_list_dec
    refine gv_en (d := rowD k2 x.1) (ds := x.1.map PyData.int) (fun R h => by sizeOf_list_dec; exact h) (by unfold rowD; exact seqOf_seqD _ _) _ ?_
    rw [enum_map]
    refine hA rfl _ fun y A B hy hA hB => ?_
    sizeOf_list_dec
    cases e : (y.1 == 1) with
    | true => exact hA _ (by rw [e]; rfl)
    | false => exact hB (by rw [e]; rfl)
  · exact Nat.le_trans (Nat.le_of_eq (by unfold asksN askRow pD; simp only [if_true]; rw [List.length_flatMap, List.length_flatMap]; congr 2; funext p; rw [List.length_filterMap_eq_countP, List.length_filterMap_eq_countP]; congr 1; funext q; split <;> rfl)) (Nat.le_trans (asks_len hz) (by decide))
  · have e : (M.zipIdx.flatMap fun x => if true = true then x.1.zipIdx.filterMap (fun q => if q.1 == 1 then some (pD (x.2, q.2)) else none) else []) = (asksN M).map pD := by
      unfold asksN askRow
      rw [List.map_flatMap]
      simp only [if_true]
      congr 1
      funext x
      rw [List.map_filterMap]
      congr 1
      funext q
      split <;> rfl
    rw [e, List.map_map]
    exact h
theorem left_out_spec {I O : List Nat} (hz : Sz M) (h : R (.lst ((leftN I O M).map fun r => .lst (r.map fun x => .sh (.int x)))) N) : w_left_out [tabD k1 k2 M, seqD k3 (I.map nD), seqD k4 (O.map nD)] N R := by
  refine ⟨rfl, ?_⟩
  sizeOf_list_dec
  refine lcT_m M.zipIdx (fun p => .tuple [.int (p.2 : Nat), rowD k2 p.1]) (fun p => .lst (p.1.zipIdx.map fun q => .sh (.int (if cutB I O p.2 q.2 then 0 else q.1)))) ?_ (by rw [List.length_zipIdx]; have := hz.1; omega) (fun x A hx hA => ?_) ?_
  · rw [← enum_map]
    exact gv_en (fun R h => by sizeOf_list_dec; exact h) (by unfold tabD; exact seqOf_seqD _ _)
  · sizeOf_list_dec
    refine lcT_m x.1.zipIdx (fun q => .tuple [.int (q.2 : Nat), .int q.1]) (fun q => .sh (.int (if cutB I O x.2 q.2 then 0 else q.1))) ?_ (by rw [List.length_zipIdx]; have := hz.2 _ (zipIdx_fst hx); omega) (fun y A hy hA => ?_) hA
    · have e := enum_map PyData.int x.1
      rw [← e]
      exact gv_en (d := rowD k2 x.1) (fun R h => by sizeOf_list_dec; exact h) (by unfold rowD; exact seqOf_seqD _ _)
    · have eI : I.map nD = (I.map fun n : Nat => (n : Int)).map PyData.int := by rw [List.map_map]; rfl
      have eO : O.map nD = (O.map fun n : Nat => (n : Int)).map PyData.int := by rw [List.map_map]; rfl
      rw [eI, eO]
      sizeOf_list_dec
      rw [contains_nat, contains_nat]
      unfold cutB at hA
      cases hi : I.contains x.2 with
      | true =>
        rw [hi] at hA
        exact hA
      | false =>
        rw [hi] at hA
        sizeOf_list_dec
        cases ho : O.contains y.2 with
        | true =>
          rw [ho] at hA
          exact hA
        | false =>
          rw [ho] at hA
          exact hA
  · unfold leftN at h
    rw [List.map_map] at h
    have e : (fun p : List Int × Nat => T.lst (p.1.zipIdx.map fun q => T.sh (.int (if cutB I O p.2 q.2 then 0 else q.1)))) = ((fun r : List Int => T.lst (r.map fun x => T.sh (.int x))) ∘ fun p : List Int × Nat => p.1.zipIdx.map fun q => if cutB I O p.2 q.2 then 0 else q.1) := by
      funext p
      show _ = T.lst ((p.1.zipIdx.map _).map _)
      rw [List.map_map]
      rfl
    rw [e]
    exact h
theorem tab_data (M : Mat) : (T.lst (M.map fun r => T.lst (r.map fun x => T.sh (.int x)))).data = tabD true true M := by
  show PyData.list (T.datas _) = PyData.list _
  rw [datas_map, List.map_map]
  congr 1
  refine List.map_congr_left fun r _ => ?_
  show PyData.list (T.datas _) = PyData.list _
  rw [datas_map, List.map_map]
  rfl
theorem prs_data (ps : List Pr) : (T.lst (ps.map fun p => T.sh (pD p))).data = .list (ps.map pD) := by
  show PyData.list (T.datas _) = PyData.list _
  rw [datas_map, List.map_map]
  rfl
theorem nats_data (ns : List Nat) : (T.lst (ns.map fun n => T.sh (nD n))).data = .list (ns.map nD) := by
  show PyData.list (T.datas _) = PyData.list _
  rw [datas_map, List.map_map]
  rfl
end
/-! pairs -/
section
variable {N : Nat} {R : T → Nat → Prop} {k1 k2 k3 k4 : Bool} {M : Mat} {ps : List Pr}
theorem is_between_spec {i a b : Int} (h : R (.sh (.bool (decide (a ≤ i) && decide (i ≤ b)))) N) : w_is_between [.int i, .int a, .int b] N R := by
  refine ⟨rfl, ?_⟩
  sizeOf_list_dec
  refine ⟨rfl, ?_⟩
  sizeOf_list_dec
  refine bIf_dec (fun hc => ?_) fun hc => ?_
  · rw [decide_eq_true hc] at h
    exact h
  · rw [decide_eq_false hc] at h
    exact h
theorem is_place_spec {i : Int} {n : Nat} (h : R (.sh (.bool (decide (0 ≤ i) && decide (i < (n : Int))))) N) : w_is_place [.int i, .int (n : Int)] N R := by
  refine ⟨rfl, ?_⟩
  sizeOf_list_dec
  refine is_between_spec ?_
  have e : decide (i ≤ (n : Int) - 1) = decide (i < (n : Int)) := decide_eq_decide.mpr (by omega)
  rw [e]
  exact h
theorem is_rising_spec {ns : List Int} (hn : ns.length ≤ 40000) (h : R (.sh (.bool (risesB ns))) N) : w_is_rising [.list (ns.map PyData.int)] N R := by
  refine ⟨rfl, ?_⟩
  sizeOf_list_dec
  refine lc_m (ns.zip (ns.drop 1)) (fun p => .tuple [.int p.1, .int p.2]) (fun p => .bool (decide (p.1 < p.2))) ?_ (by rw [List.length_zip]; omega) (fun x A hx hA => ?_) ?_
  · rw [← zip_map]
    refine gv_zip (fun R h => by sizeOf_list_dec; exact h) (fun R h => by
      sizeOf_list_dec
      rw [show (1 : Int) = ((1 : Nat) : Int) from rfl, cut_from, ← List.map_drop]
      exact h)
  · sizeOf_list_dec
    exact hA
  · have e : (ns.zip (ns.drop 1)).map (fun p => PyData.bool (decide (p.1 < p.2))) = ((ns.zip (ns.drop 1)).map fun p => decide (p.1 < p.2)).map PyData.bool := by rw [List.map_map]; rfl
    rw [e]
    sizeOf_list_dec
    rw [rises_zip]
    exact h
theorem inlets_of_spec (hl : ps.length ≤ 40000) (h : R (.lst (ps.map fun p => .sh (nD p.1))) N) : w_inlets_of [seqD k3 (ps.map pD)] N R := by
  refine ⟨rfl, ?_⟩
  sizeOf_list_dec
  refine lcT_m ps pD (fun p => .sh (nD p.1)) (gv_it (fun R h => by sizeOf_list_dec; exact h) (seqOf_seqD _ _)) hl (fun x A hx hA => ?_) h
  unfold pD
  sizeOf_list_dec
  exact hA
theorem outlets_of_spec (hl : ps.length ≤ 40000) (h : R (.lst (ps.map fun p => .sh (nD p.2))) N) : w_outlets_of [seqD k3 (ps.map pD)] N R := by
  refine ⟨rfl, ?_⟩
  sizeOf_list_dec
  refine lcT_m ps pD (fun p => .sh (nD p.2)) (gv_it (fun R h => by sizeOf_list_dec; exact h) (seqOf_seqD _ _)) hl (fun x A hx hA => ?_) h
  unfold pD
  sizeOf_list_dec
  exact hA
theorem asks_left_spec (hz : Sz M) (hl : ps.length ≤ 40000) (h : R (.lst ((leftN (ps.map (·.1)) (ps.map (·.2)) M).map fun r => .lst (r.map fun x => .sh (.int x)))) N) : w_asks_left [tabD k1 k2 M, seqD k3 (ps.map pD)] N R := by
  refine ⟨rfl, ?_⟩
  sizeOf_list_dec
  refine inlets_of_spec hl (outlets_of_spec hl ?_)
  have e1 := nats_data (ps.map (·.1))
  have e2 := nats_data (ps.map (·.2))
  rw [List.map_map] at e1 e2
  rw [show (fun p : Pr => T.sh (nD p.1)) = ((fun n => T.sh (nD n)) ∘ fun x : Pr => x.1) from rfl, show (fun p : Pr => T.sh (nD p.2)) = ((fun n => T.sh (nD n)) ∘ fun x : Pr => x.2) from rfl, e1, e2]
  exact left_out_spec (k3 := true) (k4 := true) hz h
theorem free_ask_spec (hz : Sz M) (hl : ps.length ≤ 40000) (h : R (.sh (oD ((asksN M).find? (freeB ps)))) N) : w_free_ask [tabD k1 k2 M, seqD k3 (ps.map pD)] N R := by
  refine ⟨rfl, ?_⟩
  sizeOf_list_dec
  refine asks_left_spec hz hl ?_
  rw [tab_data]
  refine asks_of_spec hz.left ?_
  rw [prs_data]
  rw [← asks_free] at h
  generalize asksN (leftN (ps.map (·.1)) (ps.map (·.2)) M) = L at h
  cases L with
  | nil => 
    sizeOf_list_dec
    exact h
  | cons p L =>
    sizeOf_list_dec
    exact h
theorem is_ask_spec {p : Pr} (hp : cell M p.1 p.2 = 1) (hn : ∃ m, ∀ r ∈ M, r.length = m) (h : R (.sh (.bool true)) N) : w_is_ask [tabD k1 k2 M, pD p] N R := by
  refine ⟨rfl, ?_⟩
  unfold pD
  sizeOf_list_dec
  obtain ⟨m, hm⟩ := hn
  have hlt : p.1 < M.length ∧ p.2 < (M.getD p.1 []).length := by
    have := Prs.lt (M := M) (ps := [p]) ⟨fun q hq => by rw [List.mem_singleton.mp hq]; exact hp, by simp, by simp⟩ (List.mem_singleton.mpr rfl)
    exact this
  have hrow : M[p.1]? = some (M.getD p.1 []) := by rw [List.getD_eq_getElem?_getD, List.getElem?_eq_getElem hlt.1]; rfl
  have hl := hm _ (List.mem_of_getElem? hrow)
  have get : ∀ (R' : PyData → Nat → Prop), R' (.int 1) N → oIx (tabD k1 k2 M) (.int (p.1 : Nat)) fun d => oIx d (.int (p.2 : Nat)) fun e => R' e N := fun R' hR => by
    unfold tabD
    sizeOf_list_dec
    refine ⟨rowD k2 (M.getD p.1 []), ?_, ?_⟩
    · refine atI_nat ?_
      rw [List.getElem?_map, hrow]
      rfl
    · unfold rowD
      sizeOf_list_dec
      refine ⟨_, atI_int hlt.2, ?_⟩
      rw [show (M.getD p.1 []).getD p.2 0 = 1 from hp]
      exact hR
  have len : ∀ (S : PyData → Prop), S (.int (M.length : Nat)) → oLen [tabD k1 k2 M] S := fun S hS => by
    unfold tabD
    sizeOf_list_dec
    exact hS
  refine len _ ?_
  refine is_place_spec ?_
  rw [decide_eq_true (by omega : (0 : Int) ≤ (p.1 : Int)), decide_eq_true (by omega : (p.1 : Int) < (M.length : Int))]
  sizeOf_list_dec
  cases M with
  | nil => exact absurd hlt.1 (Nat.not_lt_zero _)
  | cons r Ms =>
    refine outlets_in_spec ?_
    have hr := hm r (List.mem_cons_self ..)
    refine is_place_spec ?_
    rw [decide_eq_true (by omega : (0 : Int) ≤ (p.2 : Int)), decide_eq_true (by omega : (p.2 : Int) < (r.length : Int))]
    sizeOf_list_dec
    refine get (fun e N => oEq e (.int 1) fun f => R (.sh f) N) ?_
    sizeOf_list_dec
    exact h
theorem all_true {α : Type} (xs : List α) : (xs.map fun _ => true).all id = true := by
  rw [List.all_eq_true]
  intro x hx
  obtain ⟨_, _, rfl⟩ := List.mem_map.mp hx
  rfl
theorem are_pairs_spec (hp : Prs M ps) (hz : Sz M) (hn : ∃ m, ∀ r ∈ M, r.length = m) (h : R (.sh (.bool true)) N) : w_are_pairs [tabD k1 k2 M, .list (ps.map pD)] N R := by
  have hl : ps.length ≤ 40000 := by have := hp.len; have := hz.1; omega
  refine ⟨rfl, ?_⟩
  sizeOf_list_dec
  refine lc_m ps pD (fun _ => .bool true) (gv_it (fun R h => by sizeOf_list_dec; exact h) rfl) hl (fun x A hx hA => ?_) ?_
  · sizeOf_list_dec
    exact is_ask_spec (hp.ask x hx) hn hA
  · have e : ps.map (fun _ => PyData.bool true) = (ps.map fun _ => true).map PyData.bool := by rw [List.map_map]; rfl
    rw [e]
    sizeOf_list_dec
    rw [all_true]
    sizeOf_list_dec
    refine inlets_of_spec (k3 := true) hl ?_
    have e1 : (T.lst (ps.map fun p => .sh (nD p.1))).data = .list ((ps.map fun p : Pr => (p.1 : Int)).map PyData.int) := by
      show PyData.list (T.datas _) = _
      rw [datas_map, List.map_map, List.map_map]
      rfl
    have e2 : (T.lst (ps.map fun p => .sh (nD p.2))).data = .list ((ps.map fun p : Pr => (p.2 : Int)).map PyData.int) := by
      show PyData.list (T.datas _) = _
      rw [datas_map, List.map_map, List.map_map]
      rfl
    rw [e1]
    refine is_rising_spec (by rw [List.length_map]; exact hl) ?_
    have h1 := rises_nat hp.rise
    rw [List.map_map] at h1
    rw [show (ps.map fun p : Pr => (p.1 : Int)) = ps.map ((fun n : Nat => (n : Int)) ∘ fun x : Pr => x.1) from rfl, h1]
    sizeOf_list_dec
    refine outlets_of_spec (k3 := true) hl ?_
    rw [e2]
    refine ⟨_, intsOf_map _, fun ms hpm hsm => ?_⟩
    show w_is_rising [(T.lst ((ms.map PyData.int).map T.sh)).data] _ _
    rw [data_shs]
    refine is_rising_spec (by rw [hpm.length_eq, List.length_map]; exact hl) ?_
    rw [rises_sorted hp.once (by rw [List.map_map]; exact hpm) hsm]
    exact h
end
/-! first pairs -/
section
variable {N : Nat} {R : T → Nat → Prop} {k1 k2 k3 k4 : Bool} {M : Mat} {ps : List Pr}
theorem first_pairs_spec (hz : Sz M) (h : R (.lst ((greedy (asksN M)).map fun p => .sh (pD p))) N) : w_first_pairs [tabD k1 k2 M] N R := by
  refine ⟨rfl, ?_⟩
  sizeOf_list_dec
  have nolen : ∀ {pre suf : List Pr}, asksN M = pre ++ suf → (greedy pre).length ≤ 40000 := fun {pre suf} hs => by
    obtain ⟨s, h1, h2⟩ := gfold_grow pre []
    have e : greedy pre = s := h1
    have h3 := h2.length_le
    have h4 := asks_len hz
    rw [hs, List.length_append] at h4
    rw [e]; omega
  have hp0 : seqD true (([] : List Pr).map pD) = .list [] := rfl
  rw [← hp0]
  refine free_ask_spec hz (by decide) ?_
  have immO : ∀ o : Option Pr, imm (oD o) = true := fun o => by cases o <;> rfl
  refine ⟨immO _, ?_⟩
  sizeOf_list_dec
  refine while_i (fun m ε M' => M' = N ∧ ∃ pre suf, asksN M = pre ++ suf ∧ m = suf.length ∧ ε = [.is (.sh (tabD k1 k2 M)), .is (.lst ((greedy pre).map fun p => .sh (pD p))), .is (.sh (oD ((asksN M).find? (freeB (greedy pre)))))]) (asksN M).length ⟨rfl, [], asksN M, rfl, rfl, rfl⟩ (fun m ε M' hI => ?_)
  obtain ⟨rfl, pre, suf, hs, rfl, rfl⟩ := hI
  sizeOf_list_dec
  rcases first_free hs with ⟨h1, h2⟩ | ⟨p, s1, s2, h1, h2, h3⟩
  · rw [h1, show isNone (oD none) = true from rfl]
    sizeOf_list_dec
    rw [← h2]
    exact h
  · rw [h1, show isNone (oD (some p)) = false from rfl, show oD (some p) = pD p from rfl]
    sizeOf_list_dec
    refine ⟨Nat.le_trans (nolen hs) (by decide), ?_⟩
    have e1 : (greedy pre).map (fun p => T.sh (pD p)) ++ [T.sh (pD p)] = (greedy (pre ++ s1 ++ [p])).map fun p => T.sh (pD p) := by
      rw [h3, List.map_append, List.map_cons, List.map_nil]
    have hs2 : asksN M = (pre ++ s1 ++ [p]) ++ s2 := by rw [hs, h2]; simp
    have e3 : PyData.list (T.datas ((greedy (pre ++ s1 ++ [p])).map fun p => T.sh (pD p))) = seqD true ((greedy (pre ++ s1 ++ [p])).map pD) := prs_data (greedy (pre ++ s1 ++ [p]))
    rw [e1, e3]
    refine free_ask_spec hz (nolen hs2) ⟨immO _, ?_⟩
    sizeOf_list_dec
    exact ⟨s2.length, by rw [h2, List.length_append, List.length_cons]; omega, pre ++ s1 ++ [p], s2, hs2, rfl, rfl⟩
end
/-! what is reached, and pairs grown -/
section
variable {N : Nat} {R : T → Nat → Prop} {k1 k2 k3 : Bool} {M : Mat} {P : List Pr}
theorem ks_data (P : List Pr) : (T.lst (P.map fun p => T.sh (nD p.1))).data = seqD true ((Ks P).map nD) := by
  show PyData.list (T.datas _) = _
  unfold Ks
  rw [datas_map, List.map_map, List.map_map]
  rfl
theorem vs_data (P : List Pr) : (T.lst (P.map fun p => T.sh (nD p.2))).data = seqD true ((Vs P).map nD) := by
  show PyData.list (T.datas _) = _
  unfold Vs
  rw [datas_map, List.map_map, List.map_map]
  rfl
theorem free_inlets_spec (hz : Sz M) (hl : P.length ≤ 40000) (h : R (.lst ((freeN M P).map fun i => .sh (nD i))) N) : w_free_inlets [tabD k1 k2 M, seqD k3 (P.map pD)] N R := by
  refine ⟨rfl, ?_⟩
  sizeOf_list_dec
  refine inlets_of_spec hl ?_
  rw [ks_data]
  refine lcT_f (List.range M.length) (fun k => PyData.int (k : Int)) (fun k => if !(Ks P).contains k then some (.sh (nD k)) else none) (gv_r1 (n := M.length) (fun R h => by unfold tabD; sizeOf_list_dec; exact h) (by have := hz.1; omega)) (by rw [List.length_range]; have := hz.1; omega) (fun k A B hk hA hB => ?_) ?_
  · sizeOf_list_dec
    cases e : (Ks P).contains k with
    | true =>
      rw [e] at hB
      sizeOf_list_dec
      exact hB rfl
    | false =>
      rw [e] at hA
      sizeOf_list_dec
      exact hA _ rfl
  · rw [filter_map_if]
    exact h
/-- what reached_by tells -/
structure Rch (M : Mat) (P L : List Pr) : Prop where
  shut : Shut M M.length P L
  way : ∃ ρ, Way M P (fun i => i < M.length ∧ i ∉ Ks P) L ρ ∧ ∀ o ∈ Ks L, ρ o < 200
theorem reached_by_spec (hz : Sz M) (hP : Apart P) (ha : ∀ p ∈ P, cell M p.1 p.2 = 1) (h : Rch M P (reachF M P) → R (.dic ((reachF M P).map cN)) N) : w_reached_by [tabD k1 k2 M, seqD k3 (P.map pD)] N R := by
  have hlt : ∀ p ∈ P, p.1 < M.length := fun p hp => (cell_lt (ha p hp)).1
  have hl : P.length ≤ 40000 := by
    have := nodup_len (apart_iff.mp hP).1 fun x hx => by
      obtain ⟨v, hv⟩ := mem_ks.mp hx
      exact hlt _ hv
    unfold Ks at this
    rw [List.length_map] at this
    have := hz.1
    omega
  refine ⟨rfl, ?_⟩
  sizeOf_list_dec
  refine dc_m P pD (·.2) (·.1) (gv_it (fun R h => by sizeOf_list_dec; exact h) (seqOf_seqD _ _)) hl (apart_iff.mp hP).2 (fun p A hp hA => ?_) ?_
  · unfold pD
    sizeOf_list_dec
    exact hA
  rw [show (P.map fun x => (x.2, x.1)) = flipP P from rfl]
  sizeOf_list_dec
  refine free_inlets_spec hz hl ?_
  sizeOf_list_dec
  have mem0 : ∀ i, i ∈ freeN M P ↔ i < M.length ∧ (i < M.length ∧ i ∉ Ks P) := fun i => by
    unfold freeN
    rw [List.mem_filter, List.mem_range, Bool.not_eq_true', ← Bool.not_eq_true, List.contains_iff_mem]
    exact ⟨fun h => ⟨h.1, h⟩, fun h => h.2⟩
  refine while_i (fun m ε M' => N = M' ∧ ∃ (L : List Pr) (C : List Nat) (t : Nat) (a5 a6 a7 : Sl), m = C.length + (100 - L.length) ∧ t + m ≤ 200 ∧ iterS (turnS M P) t ([], freeN M P) = (L, C) ∧ Mid M M.length P (fun i => i < M.length ∧ i ∉ Ks P) t C L ∧ ε = [.is (.sh (tabD k1 k2 M)), .is (.sh (seqD k3 (P.map pD))), .is (.dic ((flipP P).map cN)), .is (.dic (L.map cN)), .is (.lst (C.map fun i => .sh (nD i))), a5, a6, a7]) _ ⟨rfl, [], _, 0, _, _, _, rfl, by have e1 := List.length_filter_le (fun i => !(Ks P).contains i) (List.range M.length); rw [List.length_range] at e1; have := hz.1; have e2 : (freeN M P).length ≤ M.length := e1; show 0 + ((freeN M P).length + 100) ≤ 200; omega, rfl, Mid.first mem0, rfl⟩ (fun m ε M' hI => ?_)
  obtain ⟨rfl, L, C, t, a5, a6, a7, rfl, hm2, hit, mid, rfl⟩ := hI
  sizeOf_list_dec
  rcases List.eq_nil_or_concat C with rfl | ⟨C', i, rfl⟩
  · sizeOf_list_dec
    have eL : reachF M P = L := by
      unfold reachF
      rw [iter_end hit rfl (T := 200) (by omega)]
    rw [eL] at h
    exact h ⟨mid.shut hlt, mid.way.imp fun ρ q => ⟨q.1, fun o ho => by have := q.2 o ho; omega⟩⟩
  · have eC : C'.concat i = C' ++ [i] := List.concat_eq_append
    rw [eC] at mid hm2 hit ⊢
    rw [List.length_append, List.length_singleton] at hm2
    have edat : T.datas ((C' ++ [i]).map fun i => T.sh (nD i)) = C'.map nD ++ [nD i] := by rw [datas_map, List.map_map, List.map_append]; rfl
    have eemp : (C'.map nD ++ [nD i]).isEmpty = false := by cases C' <;> rfl
    rw [edat, eemp]
    sizeOf_list_dec
    rw [List.length_append]
    refine ⟨by rw [List.length_singleton]; omega, .int (i : Nat), ?_, ?_⟩
    · rw [List.map_append, List.getElem?_append_right (by rw [List.length_map]; exact Nat.le_refl _)]
      simp
      rfl
    rw [List.map_append, List.map_cons, List.map_nil, List.dropLast_concat]
    sizeOf_list_dec
    have hi : i < M.length := (mid.com i (List.mem_append_right _ (List.mem_singleton.mpr rfl))).1
    have hr : M[i]? = some (M.getD i []) := by rw [List.getD_eq_getElem?_getD, List.getElem?_eq_getElem hi]; rfl
    generalize er : M.getD i [] = r at hr
    have hrl := hz.2 r (List.mem_of_getElem? hr)
    have row0 : Row M M.length P (fun i => i < M.length ∧ i ∉ Ks P) t i (fun j => 0 ≤ j) C' L := mid.row (List.mem_append_right _ (List.mem_singleton.mpr rfl)) (fun x hx => (List.mem_append.mp hx).imp id fun h => List.mem_singleton.mp h) (fun x hx => List.mem_append_left _ hx) fun j _ => Nat.zero_le _
    refine for_en (d := rowD k2 r) (ds := r.map PyData.int) (fun k ε M' => N = M' ∧ ∃ (L2 : List Pr) (C2 : List Nat) (a6 a7 : Sl), C2.length + (100 - L2.length) ≤ C'.length + (100 - L.length) ∧ (r.zipIdx.take k).foldl (rowStep P i) (L, C') = (L2, C2) ∧ Row M M.length P (fun i => i < M.length ∧ i ∉ Ks P) t i (fun j => k ≤ j) C2 L2 ∧ ε = [.is (.sh (tabD k1 k2 M)), .is (.sh (seqD k3 (P.map pD))), .is (.dic ((flipP P).map cN)), .is (.dic (L2.map cN)), .is (.lst (C2.map fun i => .sh (nD i))), .is (.sh (.int (i : Nat))), a6, a7]) (fun R h => by
      unfold tabD
      sizeOf_list_dec
      exact ⟨rowD k2 r, atI_nat (by rw [List.getElem?_map, hr]; rfl), h⟩) (seqOf_seqD _ _) ⟨rfl, L, C', _, _, Nat.le_refl _, rfl, row0, rfl⟩ (fun k x ε M' hx hI => ?_) fun ε M' hI => ?_
    · obtain ⟨rfl, L2, C2, a6, a7, hm, hfo, row, rfl⟩ := hI
      rw [List.getElem?_map] at hx
      cases hrk : r[k]? with
      | none => rw [hrk] at hx; cases hx
      | some x0 =>
        rw [hrk] at hx
        have ex : PyData.int x0 = x := Option.some.inj hx
        subst ex
        have ecell : cell M i k = x0 := by unfold cell; rw [er, List.getD_eq_getElem?_getD, hrk]; rfl
        have hzk : r.zipIdx[k]? = some (x0, k) := by rw [List.getElem?_zipIdx, hrk]; simp
        have hfs : (r.zipIdx.take (k + 1)).foldl (rowStep P i) (L, C') = rowStep P i (L2, C2) (x0, k) := by
          rw [take_snoc hzk, List.foldl_append, hfo]
          rfl
        have hno : ¬ (x0 = 1 ∧ k ∉ Ks L2) → (r.zipIdx.take (k + 1)).foldl (rowStep P i) (L, C') = (L2, C2) := fun hn => hfs.trans (if_neg hn)
        have skip : (cell M i k ≠ 1 ∨ k ∈ Ks L2) → Row M M.length P (fun i => i < M.length ∧ i ∉ Ks P) t i (fun j => k + 1 ≤ j) C2 L2 := fun hk => row.skip fun j hj hc => by
          by_cases hjk : j = k
          · rw [hjk] at hc ⊢
            exact .inr (hk.resolve_left fun z => z hc)
          · exact .inl (by omega)
        sizeOf_list_dec
        refine bIf_beq (fun e1 => ?_) fun ne1 => ?_
        · rw [valI_some]
          refine bIf_of (fun hs => ?_) fun hs => ?_
          · exact ⟨L2, C2, _, _, hm, hno (fun z => z.2 (val_isSome.mp hs)), skip (.inr (val_isSome.mp hs)), rfl⟩
          · have hk : k ∉ Ks L2 := fun z => by rw [val_isSome.mpr z] at hs; cases hs
            have hl2 : L2.length ≤ 100 := by
              obtain ⟨ρ, w, _⟩ := row.way
              exact way_len w hz row.ks
            refine ⟨by omega, ?_⟩
            rw [putI_cN, put_new hk, valI_cN]
            have hc1 : cell M i k = 1 := ecell.trans e1
            have kf : (Ks (flipP P)).Nodup := by rw [ks_flip]; exact (apart_iff.mp hP).2
            cases hv : valN (flipP P) k with
            | none =>
              have row2 : Row M M.length P (fun i => i < M.length ∧ i ∉ Ks P) t i (fun j => k + 1 ≤ j) C2 (L2 ++ [(k, i)]) := row.add hk hc1 (fun x hx => hx) (fun x hx => absurd (mem_ks.mpr ⟨x, mem_flip.mpr hx⟩) (val_none.mp hv)) (fun x hx => .inl hx) fun j hj hc => by
                by_cases hjk : j = k
                · exact .inr hjk
                · exact .inl (by omega)
              rw [show (Option.map (fun v : Nat => (v : Int)) none) = none from rfl, Option.isSome_none]
              sizeOf_list_dec
              refine ⟨L2 ++ [(k, i)], C2, _, _, ?_, ?_, row2, rfl⟩
              · rw [List.length_append, List.length_singleton]
                omega
              · rw [hfs]
                refine (if_pos ⟨e1, hk⟩).trans ?_
                show (L2 ++ [(k, i)], C2 ++ (valN (flipP P) k).toList) = _
                rw [hv, Option.toList_none, List.append_nil]
            | some y =>
              have hy : (y, k) ∈ P := mem_flip.mp ((val_some kf).mp hv)
              have row2 : Row M M.length P (fun i => i < M.length ∧ i ∉ Ks P) t i (fun j => k + 1 ≤ j) (C2 ++ [y]) (L2 ++ [(k, i)]) := row.add hk hc1 (fun x hx => List.mem_append_left _ hx) (fun x hx => List.mem_append_right _ (List.mem_singleton.mpr (val_fun (apart_iff.mp hP).2 hx hy))) (fun x hx => (List.mem_append.mp hx).imp id fun h => by rw [List.mem_singleton.mp h]; exact ⟨hlt _ hy, hy⟩) fun j hj hc => by
                by_cases hjk : j = k
                · exact .inr hjk
                · exact .inl (by omega)
              have hl3 : (L2 ++ [(k, i)]).length ≤ 100 := by
                obtain ⟨ρ, w, _⟩ := row2.way
                exact way_len w hz row2.ks
              rw [List.length_append, List.length_singleton] at hl3
              rw [show (Option.map (fun v : Nat => (v : Int)) (some y)) = some (y : Int) from rfl, Option.isSome_some]
              sizeOf_list_dec
              have el : C2.map (fun i => T.sh (nD i)) ++ [T.sh (PyData.int (y : Int))] = (C2 ++ [y]).map fun i => T.sh (nD i) := by rw [List.map_append]; rfl
              rw [el]
              refine ⟨by omega, L2 ++ [(k, i)], C2 ++ [y], _, _, ?_, ?_, row2, rfl⟩
              · rw [List.length_append, List.length_append, List.length_singleton, List.length_singleton]
                omega
              · rw [hfs]
                refine (if_pos ⟨e1, hk⟩).trans ?_
                show (L2 ++ [(k, i)], C2 ++ (valN (flipP P) k).toList) = _
                rw [hv]
                rfl
        · exact ⟨L2, C2, _, _, hm, hno (fun z => ne1 z.1), skip (.inl (by rw [ecell]; exact ne1)), rfl⟩
    · obtain ⟨rfl, L2, C2, a6, a7, hm, hfo, row, rfl⟩ := hI
      rw [List.length_map] at row hfo
      rw [List.take_of_length_le (by rw [List.length_zipIdx]; exact Nat.le_refl _)] at hfo
      sizeOf_list_dec
      refine ⟨_, ?_, L2, C2, t + 1, _, _, _, rfl, ?_, ?_, row.mid fun j hj hc => ?_, rfl⟩
      · omega
      · omega
      · show turnS M P (iterS (turnS M P) t ([], freeN M P)) = _
        rw [hit]
        unfold turnS
        rw [List.getLast?_concat, List.dropLast_concat]
        show (M.getD i []).zipIdx.foldl (rowStep P i) (L, C') = _
        rw [er]
        exact hfo
      · have := (cell_lt hc).2
        rw [er] at this
        omega
theorem taken_over_spec {L : List Pr} {o : Nat} (hz : Sz M) (hP : Apart P) (ha : ∀ p ∈ P, cell M p.1 p.2 = 1) (hr : Rch M P L) (ho : o ∈ Ks L) (hv : o ∉ Vs P) (h : Grown M P (overF L P o) → R (.lst ((sortF (overF L P o)).map fun p => .sh (pD p))) N) : w_taken_over [seqD k3 (P.map pD), .dict ((L.map cN).map kdI), .int (o : Nat)] N R := by
  have hlt : ∀ p ∈ P, p.1 < M.length := fun p hp => (cell_lt (ha p hp)).1
  have hl : P.length ≤ 100 := by
    have := nodup_len (apart_iff.mp hP).1 fun x hx => by
      obtain ⟨v, hv⟩ := mem_ks.mp hx
      exact hlt _ hv
    unfold Ks at this
    rw [List.length_map] at this
    have := hz.1
    omega
  obtain ⟨ρ, w, hρ⟩ := hr.way
  refine ⟨rfl, ?_⟩
  sizeOf_list_dec
  refine dc_m P pD (·.1) (·.2) (gv_it (fun R h => by sizeOf_list_dec; exact h) (seqOf_seqD _ _)) (by omega) (apart_iff.mp hP).1 (fun p A hp hA => ?_) ?_
  · unfold pD
    sizeOf_list_dec
    exact hA
  rw [show (P.map fun x => (x.1, x.2)) = P from List.map_id' P]
  sizeOf_list_dec
  refine while_i (fun m ε M' => N = M' ∧ ∃ (D : List Pr) (x : Option Nat) (a5 a6 : Sl) (t : Nat), t + m ≤ 300 ∧ iterS (overS L) t (P, some o) = (D, x) ∧ ((∃ o, x = some o ∧ m = ρ o + 1 ∧ Aug M P L ρ D o) ∨ (x = none ∧ m = 0 ∧ Grown M P D)) ∧ ε = [.is (.sh (seqD k3 (P.map pD))), .is (.sh (.dict ((L.map cN).map kdI))), .is (.sh (.int (o : Nat))), .is (.dic (D.map cN)), .is (.sh (oInt? (x.map fun v : Nat => (v : Int)))), a5, a6]) _ ⟨rfl, P, some o, _, _, 0, by have := hρ o ho; show 0 + (ρ o + 1) ≤ 300; omega, rfl, .inl ⟨o, rfl, rfl, aug_first hP ha ho hv⟩, rfl⟩ (fun m ε M' hI => ?_)
  obtain ⟨rfl, D, x, a5, a6, t, ht, hit, hx, rfl⟩ := hI
  rcases hx with ⟨o2, rfl, rfl, aug⟩ | ⟨rfl, rfl, gr⟩
  · rw [show (Option.map (fun v : Nat => (v : Int)) (some o2)) = some (o2 : Int) from rfl, show oInt? (some (o2 : Int)) = PyData.int o2 from rfl]
    sizeOf_list_dec
    obtain ⟨i, hi, hstep⟩ := aug_step hP (fun i h => h.2) hr.shut.ks w aug
    rw [valI_cN, hi]
    sizeOf_list_dec
    refine ⟨(i : Int), rfl, by rw [aug.len]; omega, ?_⟩
    rw [putI_cN, valI_cN]
    rcases hstep with ⟨e, g⟩ | ⟨o', e, l, a⟩
    · rw [e]
      exact ⟨0, by omega, putN D i o2, none, _, _, t + 1, by omega, by show overS L (iterS (overS L) t (P, some o)) = _; rw [hit]; unfold overS; simp only [hi, e], .inr ⟨rfl, rfl, g⟩, rfl⟩
    · rw [e]
      exact ⟨ρ o' + 1, by omega, putN D i o2, some o', _, _, t + 1, by omega, by show overS L (iterS (overS L) t (P, some o)) = _; rw [hit]; unfold overS; simp only [hi, e], .inl ⟨o', rfl, rfl, a⟩, rfl⟩
  · rw [show (Option.map (fun v : Nat => (v : Int)) none) = none from rfl, show oInt? none = PyData.none from rfl]
    sizeOf_list_dec
    refine lcT_m D (fun p => PyData.int (p.1 : Nat)) (fun p => .sh (pD p)) (fun R h => ?_) (by rw [gr.len]; omega) (fun p A hp hA => ?_) ?_
    · sizeOf_list_dec
      rw [List.map_map]
      exact h
    · sizeOf_list_dec
      rw [valI_cN, (val_some gr.ks).mpr (show (p.1, p.2) ∈ D from hp)]
      exact ⟨_, rfl, hA⟩
    · have eD : overF L P o = D := by
        unfold overF
        rw [iter_end hit rfl (T := 300) (by omega)]
      rw [eD] at h
      refine ⟨cleansM fun p _ => rfl, ?_⟩
      rw [dataP]
      refine sortP_is gr.ks ?_
      rw [List.map_map]
      exact h gr
theorem grown_spec (hz : Sz M) (hP : Apart P) (ha : ∀ p ∈ P, cell M p.1 p.2 = 1) (h0 : grownF M P = none → (∃ X Y, Cov M M.length X Y ∧ X.length + Y.length = P.length) → R (.sh .none) N) (h1 : ∀ ps, grownF M P = some ps → Prs M ps → ps.length = P.length + 1 → (∀ i ∈ Ks P, i ∈ Ks ps) → (∀ j ∈ Vs P, j ∈ Vs ps) → R (.lst (ps.map fun p => .sh (pD p))) N) : w_grown [tabD k1 k2 M, seqD k3 (P.map pD)] N R := by
  have hlt : ∀ p ∈ P, p.1 < M.length := fun p hp => (cell_lt (ha p hp)).1
  have hl : P.length ≤ 100 := by
    have := nodup_len (apart_iff.mp hP).1 fun x hx => by
      obtain ⟨v, hv⟩ := mem_ks.mp hx
      exact hlt _ hv
    unfold Ks at this
    rw [List.length_map] at this
    have := hz.1
    omega
  refine ⟨rfl, ?_⟩
  sizeOf_list_dec
  refine reached_by_spec hz hP ha fun rch => ?_
  sizeOf_list_dec
  refine outlets_of_spec (by omega) ?_
  rw [vs_data]
  sizeOf_list_dec
  have rl : (reachF M P).length ≤ 100 := by
    obtain ⟨ρ, w, _⟩ := rch.way
    exact way_len w hz rch.shut.ks
  refine lcT_f (reachF M P) (fun p => PyData.int (p.1 : Nat)) (fun p => if (!(Vs P).contains p.1) = true then some (.sh (nD p.1)) else none) (fun R h => ?_) (by omega) (fun p A B hp hA hB => ?_) ?_
  · sizeOf_list_dec
    rw [List.map_map]
    exact h
  · sizeOf_list_dec
    cases e : (Vs P).contains p.1 with
    | true =>
      rw [e] at hB
      sizeOf_list_dec
      exact hB rfl
    | false =>
      rw [e] at hA
      sizeOf_list_dec
      exact hA _ rfl
  · rw [filter_map_if (fun p : Pr => !(Vs P).contains p.1) (fun p : Pr => T.sh (nD p.1))]
    have eF : ((reachF M P).filter fun p => !(Vs P).contains p.1).map (fun p => T.sh (nD p.1)) = ((Ks (reachF M P)).filter fun o => !(Vs P).contains o).map fun o => T.sh (nD o) := by
      unfold Ks
      rw [List.filter_map, List.map_map]
      rfl
    rw [eF]
    refine ⟨cleansM fun p _ => rfl, ?_⟩
    have eG : grownF M P = match ((Ks (reachF M P)).filter fun o => !(Vs P).contains o).head? with | none => none | some o => some (sortF (overF (reachF M P) P o)) := rfl
    cases hF : (Ks (reachF M P)).filter fun o => !(Vs P).contains o with
    | nil =>
      rw [hF] at eG
      have hv : ∀ o ∈ Ks (reachF M P), o ∈ Vs P := fun o ho => by
        have := List.filter_eq_nil_iff.mp hF o ho
        rw [Bool.not_eq_true', ← Bool.not_eq_true, List.contains_iff_mem] at this
        exact Classical.byContradiction this
      sizeOf_list_dec
      exact h0 eG ⟨_, _, shut_cov rch.shut, shut_size rch.shut hP hv⟩
    | cons o os =>
      rw [hF] at eG
      have ho : o ∈ (Ks (reachF M P)).filter fun o => !(Vs P).contains o := by rw [hF]; exact List.mem_cons_self ..
      obtain ⟨ho1, ho2⟩ := List.mem_filter.mp ho
      rw [Bool.not_eq_true', ← Bool.not_eq_true, List.contains_iff_mem] at ho2
      sizeOf_list_dec
      refine taken_over_spec hz hP ha rch ho1 ho2 fun gr => ⟨cleansM fun p _ => rfl, ?_⟩
      have sp := sort_perm (overF (reachF M P) P o)
      exact h1 _ eG (sort_prs gr.ks gr.vs gr.ask) (sp.length_eq.trans gr.len) (fun i hi => (ks_perm sp).mem_iff.mpr (gr.keys i hi)) fun j hj => (vs_perm sp).mem_iff.mpr (gr.vals j hj)
end
/-! the most pairs -/
section
variable {N : Nat} {R : T → Nat → Prop} {k1 k2 k3 : Bool} {M : Mat} {P : List Pr}
def mostS (M : Mat) (ps : List Pr) : List Pr := match grownF M ps with
  | none => ps
  | some q => q
def mostF (M : Mat) : List Pr := iterS (mostS M) 101 (greedy (asksN M))
theorem prs_apart {ps : List Pr} (h : Prs M ps) : Apart ps := apart_iff.mpr ⟨List.Pairwise.imp (fun h => Nat.ne_of_lt h) h.rise, h.once⟩
def tOf : Option (List Pr) → T
  | none => .sh .none
  | some ps => .lst (ps.map fun p => .sh (pD p))
theorem tOf_clean (o : Option (List Pr)) : (tOf o).clean = true := by
  cases o with
  | none => rfl
  | some ps => exact cleansM fun p _ => rfl
def Told (M : Mat) (ps : List Pr) : Prop := (grownF M ps = none ∧ ∃ X Y, Cov M M.length X Y ∧ X.length + Y.length = ps.length) ∨ ∃ q, grownF M ps = some q ∧ Prs M q ∧ q.length = ps.length + 1
theorem grown_is {ps : List Pr} (hz : Sz M) (hp : Prs M ps) (h : Told M ps → R (tOf (grownF M ps)) N) : w_grown [tabD k1 k2 M, seqD k3 (ps.map pD)] N R := by
  refine grown_spec hz (prs_apart hp) hp.ask (fun g c => ?_) fun q g h1 h2 _ _ => ?_
  · have := h (.inl ⟨g, c⟩)
    rw [g] at this
    exact this
  · have := h (.inr ⟨q, g, h1, h2⟩)
    rw [g] at this
    exact this
theorem most_pairs_spec (hz : Sz M) (h : Prs M (mostF M) → (∃ X Y, Cov M M.length X Y ∧ X.length + Y.length = (mostF M).length) → R (.lst ((mostF M).map fun p => .sh (pD p))) N) : w_most_pairs [tabD k1 k2 M] N R := by
  refine ⟨rfl, ?_⟩
  sizeOf_list_dec
  refine first_pairs_spec hz ?_
  sizeOf_list_dec
  have hg := greedy_prs M
  have dl : ∀ ps : List Pr, PyData.list (T.datas (ps.map fun p => T.sh (pD p))) = seqD true (ps.map pD) := fun ps => by
    rw [datas_map, List.map_map]
    rfl
  rw [dl]
  refine grown_is hz hg fun told => ⟨tOf_clean _, ?_⟩
  refine while_i (fun m ε M' => N = M' ∧ ∃ (ps : List Pr) (t : Nat), m = M.length + 1 - ps.length ∧ Prs M ps ∧ iterS (mostS M) t (greedy (asksN M)) = ps ∧ t + m ≤ 101 ∧ Told M ps ∧ ε = [.is (.sh (tabD k1 k2 M)), .is (.lst (ps.map fun p => .sh (pD p))), .is (tOf (grownF M ps))]) _ ⟨rfl, greedy (asksN M), 0, rfl, hg, rfl, by have := hz.1; omega, told, rfl⟩ (fun m ε M' hI => ?_)
  obtain ⟨rfl, ps, t, rfl, hp, hit, ht, told, rfl⟩ := hI
  have hl := hp.len
  rcases told with ⟨g, c⟩ | ⟨q, g, hq, hql⟩
  · rw [g]
    have e : mostF M = ps := iter_end hit (by unfold mostS; rw [g]) (by omega)
    rw [e] at h
    rw [show tOf none = T.sh .none from rfl]
    sizeOf_list_dec
    exact h hp c
  · rw [g]
    have hql2 := hq.len
    rw [show tOf (some q) = T.lst (q.map fun p => T.sh (pD p)) from rfl]
    sizeOf_list_dec
    rw [dl]
    refine grown_is hz hq fun told2 => ⟨tOf_clean _, ?_⟩
    refine ⟨_, ?_, q, t + 1, rfl, hq, ?_, ?_, told2, rfl⟩
    · omega
    · show mostS M (iterS (mostS M) t (greedy (asksN M))) = q
      rw [hit]
      unfold mostS
      rw [g]
    · omega
end
end K83

set_option Elab.async false
set_option linter.all false
set_option maxRecDepth 100000
set_option maxHeartbeats 1000000
namespace K83
open PySem PySem.Spec PyProof.Rows L2 Evl Cg
local macro_rules
  | `(tactic| sizeOf_list_dec) => `(tactic| simp (config := {failIfUnchanged := false}) only [↓wVar_eq, ↓wC_eq, ↓wRetV_eq, ↓wFrz_eq, isBox_eq, ↓wNil_eq, ↓wCons_eq, ↓wOp_eq, ↓wOpT_eq, ↓wUn_eq, ↓wCb_eq, ↓wCbT_eq, ↓wTest_eq, ↓wTru_eq, ↓wYes_eq, ↓wNot_eq, ↓wAnd_eq, ↓wOr_eq, ↓wAndV_eq, ↓wOrV_eq, ↓wNotV_eq, ↓wIf_eq, ↓wIfT_eq, ↓wChain_eq, ↓wLst_eq, ↓wTup_eq, ↓wNilT_eq, ↓wConsT_eq, ↓wLstT_eq, ↓wTupT_eq, ↓wSh_eq, ↓wFz_eq, ↓wVw_eq, ↓wVb_eq, ↓wVt_eq, view_nil, view_cons, view_no, view_box, view_is, ↓wCall_eq, ↓wCallT_eq, ↓wCallB_eq, ↓wCallBT_eq, ↓wIs_eq, ↓wNoPart_eq, ↓wPart_eq, ↓wSl_eq, ↓wSlT_eq, ↓wRevT_eq, ↓wRgL_eq, ↓wSkip_eq, ↓wBreak_eq, ↓wCont_eq, ↓wSeq_eq, ↓seq_nx, ↓seq_rt, ↓seq_bk, ↓seq_ct, ↓loop_nx, ↓loop_rt, ↓loop_bk, ↓loop_ct, ↓fn_nx, ↓fn_rt, ↓wRet_eq, ↓wRetN_eq, ↓wIfS_eq, ↓wAsgT_eq, ↓wAsg_eq, ↓wParN_eq, setsE_cons, setsE_nil, ↓wDrop_eq, ↓wName_eq, ↓wGNil_eq, ↓wGCons_eq, ↓wGTup_eq, ↓wApp_eq, ↓wRev_eq, ↓wClr_eq, ↓wExt_eq, ↓wSet_eq, ↓wPop_eq, ↓wipe_nil, ↓wipe_cons, env0_f, env0_t, atSh_is, atIs_is, atOwn_is, atBox_is, bIf_t, bIf_f, bIf_not, dBool_is, dInt_is, dTup_is, dList_is, dSeq_list, dSeq_tup, dSeq_seq, dTru_none, dTru_bool, dTru_int, dTru_list, dTru_tup, dCons_is, oI_int, oI0_int, oAdd_int, oAdd_list, oMul_int, oMul_list, oNeg_int, oEq_int, oEq_bool, oEq_nn, oEq_in, oEq_ni, oNe_int, oNe_bool, oNe_nn, oNe_in, oNe_ni, oEq_list, oNe_list, oEq_tup, oNe_tup, oEq_str, oNe_str, oIx_list, oIx_tup, oIx_seq, oLen_list, oLen_tup, oLen_seq, oInt_int, oInt_bool, oAbs_int, oMin2_int, oMax2_int, oAll_is, oSum_is, oListD_list, oListD_tup, oListD_seq, oTuple_list, oTuple_tup, oTuple_seq, oRepr_is, oIs_none, oIsNot_none, in_nats_t, in_nats_f, oIn_list, oIn_seq, oList_list, oList_tup, oList_seq, oCat_list, oRep_list, atI_l0, atI_l1, atI_l2, exists_eq_left', exists_eq_left, wPickT_eq, ↓wDNew_eq, ↓wDPut_eq, ↓wDList_eq, atDic_is, ↓wDGet_eq, ↓wDIn_eq, ↓wDNotIn_eq, ↓wDGet1_eq, ↓wD0_eq, ↓wDKeys_eq, ↓wDSort_eq, ↓wDSet_eq, ↓wLk_eq, ↓wKeys_eq, ↓wItems_eq, atD_own, atD_frz, atD_sh, atDO_is, atF_is, ↓wPop0_eq, ↓wSelf_eq, ↓wMove_eq, ↓wRetVT_eq, ↓wApp2_eq, ↓wSet2_eq, ↓wSetP_eq, ↓wAug_eq, oCount_list, ↓wRetPick_eq, oIsB_is, ↓wBmL_eq, oIndexS_is, ↓wAppPop_eq, ↓wAppPopT_eq, ↓wRev2_eq, oSumS_list, oSumS_tup, oSumS_seq, ↓wRetV2_eq, atOwnB_lst, atOwnB_tup, atL_int, mkT_t, mkT_f, w_take_is, w_same_is, isNone_none, isNone_bool, isNone_int, isNone_str, isNone_list, isNone_tup, isInt_none, isInt_bool, isInt_int, isInt_str, isInt_list, isInt_tup, isBool_none, isBool_bool, isBool_int, isBool_str, isBool_list, isBool_tup, isList_none, isList_bool, isList_int, isList_str, isList_list, isList_tup, isTuple_none, isTuple_bool, isTuple_int, isTuple_str, isTuple_list, isTuple_tup, isStr_none, isStr_bool, isStr_int, isStr_str, isStr_list, isStr_tup, isNone_seq, isList_seq, isTuple_seq, isInt_seq, isBool_seq, isStr_seq, dTru_seq, List.isEmpty_nil, List.isEmpty_cons, beq_self_eq_true, decide_true, decide_false, T.clean, T.cleans, T.data, T.datas, imm, immAll, List.getElem?_cons_zero, List.getElem?_cons_succ, List.set_cons_zero, List.set_cons_succ, List.map_cons, List.map_nil, List.cons_append, List.nil_append, List.replicate_succ, List.replicate_zero, List.length_cons, List.length_nil, List.length_map, if_true, if_false, Bool.true_and, Bool.and_true, Bool.false_and, Bool.and_false, Bool.not_true, Bool.not_false, Bool.or_true, Bool.true_or, Bool.false_or, Bool.or_false, Bool.false_eq_true, reduceIte, reduceCtorEq, true_and, and_true, Option.some.injEq, Nat.reduceAdd, Nat.reduceLeDiff, Int.reduceLE, Int.reduceLT, Int.cast_ofNat_Int, Int.reduceBEq, Int.reduceToNat])
/-! covers -/
section
variable {N : Nat} {R : T → Nat → Prop} {k1 k2 k3 : Bool} {M : Mat} {P : List Pr}
def sortN (ns : List Nat) : List Nat := ns.mergeSort fun a b => decide (a ≤ b)
theorem sortN_perm (ns : List Nat) : (sortN ns).Perm ns := List.mergeSort_perm _ _
theorem sortN_le (ns : List Nat) : (sortN ns).Pairwise (· ≤ ·) := by
  have := List.pairwise_mergeSort (le := fun a b : Nat => decide (a ≤ b)) (fun a b c h1 h2 => by
    rw [decide_eq_true_eq] at *
    omega) (fun a b => by
    rw [Bool.or_eq_true, decide_eq_true_eq, decide_eq_true_eq]
    omega) ns
  exact this.imp fun h => by simpa using h
theorem sortN_is {ns : List Nat} {ms : List Int} (hp : ms.Perm (ns.map fun n : Nat => (n : Int))) (hs : ms.Pairwise (· ≤ ·)) : ms = (sortN ns).map fun n : Nat => (n : Int) := by
  refine List.Perm.eq_of_pairwise (le := fun a b : Int => a ≤ b) (fun a b _ _ h1 h2 => by omega) hs (List.pairwise_map.mpr ((sortN_le ns).imp fun h => by omega)) (hp.trans ((sortN_perm ns).map _).symm)
/-- sorted of a list of places -/
theorem sortI_is {ns : List Nat} {S : List PyData → Prop} (h : S ((sortN ns).map nD)) : oSortI [.list (ns.map nD)] S := by
  refine ⟨_, ints_nD ns, fun ms hp hs => ?_⟩
  rw [sortN_is hp hs, List.map_map]
  exact h
theorem aug_end {M : Mat} {P L : List Pr} {ρ : Nat → Nat} {S : Nat → Prop} (hP : Apart P) (hS : ∀ i, S i → i ∉ Ks P) (hL : (Ks L).Nodup) (w : Way M P S L ρ) : ∀ (n : Nat) {D : List Pr} {o : Nat}, ρ o < n → Aug M P L ρ D o → ∃ D', Grown M P D'
  | 0, _, _, h, _ => absurd h (Nat.not_lt_zero _)
  | n + 1, D, o, h, A => by
    obtain ⟨i, _, hs⟩ := aug_step hP hS hL w A
    rcases hs with ⟨_, g⟩ | ⟨o', _, hlt, A'⟩
    · exact ⟨_, g⟩
    · exact aug_end hP hS hL w n (by omega) A'
theorem most_shut {L : List Pr} (hp : Prs M P) (c : ∃ X Y, Cov M M.length X Y ∧ X.length + Y.length = P.length) (rch : Rch M P L) : ∀ o ∈ Ks L, o ∈ Vs P := fun o ho => Classical.byContradiction fun hv => by
  obtain ⟨ρ, w, _⟩ := rch.way
  obtain ⟨D, g⟩ := aug_end (prs_apart hp) (fun i h => h.2) rch.shut.ks w _ (Nat.lt_succ_self _) (aug_first (ρ := ρ) (prs_apart hp) hp.ask ho hv)
  obtain ⟨X, Y, h1, h2⟩ := c
  have := cov_le h1 (apart_iff.mpr ⟨g.ks, g.vs⟩) fun p hp' => ⟨(cell_lt (g.ask p hp')).1, g.ask p hp'⟩
  have := g.len
  omega
def coverF (M : Mat) : List Nat × List Nat := (coverX (mostF M) (reachF M (mostF M)), sortN (Ks (reachF M (mostF M))))
/-- a cover as told -/
structure Cvr (M : Mat) (m k : Nat) (X Y : List Nat) : Prop where
  rx : X.Pairwise (· < ·)
  ry : Y.Pairwise (· < ·)
  lx : ∀ x ∈ X, x < M.length
  ly : ∀ y ∈ Y, y < m
  cov : Cov M M.length X Y
  len : X.length + Y.length = k
theorem cover_of_spec {m : Nat} (hz : Sz M) (hr : ∀ r ∈ M, r.length = m) (h : Prs M (mostF M) → (∃ X Y, Cov M M.length X Y ∧ X.length + Y.length = (mostF M).length) → Cvr M m (mostF M).length (coverF M).1 (coverF M).2 → R (.tup [.lst ((coverF M).1.map fun i => .sh (nD i)), .lst ((coverF M).2.map fun i => .sh (nD i))]) N) : w_cover_of [tabD k1 k2 M] N R := by
  refine ⟨rfl, ?_⟩
  sizeOf_list_dec
  refine most_pairs_spec hz fun hp hc => ?_
  rw [dataP]
  have pl : (mostF M).length ≤ 100 := by have := hp.len; have := hz.1; omega
  refine reached_by_spec (k3 := true) hz (prs_apart hp) hp.ask fun rch => ?_
  sizeOf_list_dec
  refine lcT_f (mostF M) pD (fun p => if (!(valN (reachF M (mostF M)) p.2).isSome) = true then some (.sh (nD p.1)) else none) (gv_it (d := .list ((mostF M).map pD)) (fun R h => by sizeOf_list_dec; exact h) rfl) (by omega) (fun p A B hp' hA hB => ?_) ?_
  · rw [show pD p = PyData.tuple [.int (p.1 : Nat), .int (p.2 : Nat)] from rfl]
    sizeOf_list_dec
    rw [valI_some]
    cases e : (valN (reachF M (mostF M)) p.2).isSome with
    | true =>
      rw [e] at hB
      sizeOf_list_dec
      exact hB rfl
    | false =>
      rw [e] at hA
      sizeOf_list_dec
      exact hA _ rfl
  rw [filter_map_if (fun p : Pr => !(valN (reachF M (mostF M)) p.2).isSome) (fun p : Pr => T.sh (nD p.1))]
  have eX : ((mostF M).filter fun p => !(valN (reachF M (mostF M)) p.2).isSome).map (fun p => T.sh (nD p.1)) = (coverF M).1.map fun i => T.sh (nD i) := by
    show _ = (Ks ((mostF M).filter fun p => !(Ks (reachF M (mostF M))).contains p.2)).map _
    unfold Ks
    rw [List.map_map]
    congr 1
    refine List.filter_congr fun p _ => ?_
    congr 1
    rw [Bool.eq_iff_iff, val_isSome, List.contains_iff_mem]
    rfl
  rw [eX]
  sizeOf_list_dec
  have eK : T.datas (keysT (((reachF M (mostF M)).map cN).map (·.1))) = (Ks (reachF M (mostF M))).map nD := by
    unfold keysT Ks
    rw [datas_map, List.map_map, List.map_map, List.map_map, List.map_map]
    rfl
  rw [eK]
  refine sortI_is ?_
  rw [List.map_map]
  obtain ⟨ρ, w, _⟩ := rch.way
  refine h hp hc ⟨?_, ?_, fun x hx => ?_, fun y hy => ?_, fun i j hi hc1 => ?_, ?_⟩
  · exact List.Pairwise.sublist (List.filter_sublist.map _) hp.rise
  · have nd : (sortN (Ks (reachF M (mostF M)))).Nodup := (List.Perm.nodup_iff (sortN_perm _)).mpr rch.shut.ks
    exact ((sortN_le _).and nd).imp fun h => Nat.lt_of_le_of_ne h.1 h.2
  · obtain ⟨v, hv⟩ := mem_ks.mp hx
    exact (cell_lt (hp.ask _ (List.mem_filter.mp hv).1)).1
  · have hy2 : y ∈ Ks (reachF M (mostF M)) := (sortN_perm _).mem_iff.mp hy
    obtain ⟨i, hi⟩ := mem_ks.mp hy2
    have hcl := cell_lt (w _ hi).1
    have hm : M.getD i [] ∈ M := by
      rw [List.getD_eq_getElem?_getD, List.getElem?_eq_getElem hcl.1]
      exact List.getElem_mem hcl.1
    have := hcl.2
    rw [hr _ hm] at this
    exact this
  · exact (shut_cov rch.shut i j hi hc1).imp id fun h => (sortN_perm _).mem_iff.mpr h
  · have := shut_size rch.shut (prs_apart hp) (most_shut hp hc rch)
    show (coverX _ _).length + (sortN _).length = _
    rw [(sortN_perm _).length_eq]
    exact this
/-! what is shown -/
def plB (n : Nat) (X : List Nat) : Bool := X.all fun x => decide (x < n)
def riB (X : List Nat) : Bool := risesB (X.map fun n : Nat => (n : Int))
def metB (M : Mat) (X Y : List Nat) : Bool := (asksN M).all fun p => X.contains p.1 || Y.contains p.2
def shB (n m : Nat) (M : Mat) (k : Nat) (X Y : List Nat) : Bool := plB n X && (riB X && (plB m Y && (riB Y && (metB M X Y && decide (X.length + Y.length = k)))))
theorem are_places_spec {n : Nat} {X : List Nat} (hX : X.length ≤ 40000) (h : R (.sh (.bool (plB n X && riB X))) N) : w_are_places [.list (X.map nD), .int (n : Nat)] N R := by
  refine ⟨rfl, ?_⟩
  sizeOf_list_dec
  refine lc_m X nD (fun x => .bool (decide (x < n))) (gv_it (d := .list (X.map nD)) (fun R h => by sizeOf_list_dec; exact h) rfl) hX (fun x A hx hA => ?_) ?_
  · rw [show nD x = PyData.int (x : Int) from rfl]
    sizeOf_list_dec
    refine is_place_spec ?_
    rw [decide_eq_true (by omega : (0 : Int) ≤ (x : Int)), show decide ((x : Int) < (n : Int)) = decide (x < n) from decide_eq_decide.mpr (by omega)]
    exact hA
  · have e : X.map (fun x => PyData.bool (decide (x < n))) = (X.map fun x => decide (x < n)).map PyData.bool := by rw [List.map_map]; rfl
    rw [e]
    sizeOf_list_dec
    have e2 : (X.map fun x => decide (x < n)).all id = plB n X := by unfold plB; rw [List.all_map]; rfl
    rw [e2]
    cases hp : plB n X with
    | false =>
      rw [hp] at h
      sizeOf_list_dec
      exact h
    | true =>
      rw [hp] at h
      sizeOf_list_dec
      have e3 : X.map nD = (X.map fun n : Nat => (n : Int)).map PyData.int := by rw [List.map_map]; rfl
      rw [e3]
      exact is_rising_spec (by rw [List.length_map]; exact hX) h
theorem is_cover_spec {n m : Nat} {X Y : List Nat} (hz : Sz M) (hn : M.length = n) (h1 : 1 ≤ n) (hr : ∀ r ∈ M, r.length = m) (hX : X.length ≤ 40000) (hY : Y.length ≤ 40000) (h : R (.sh (.bool (plB n X && (riB X && (plB m Y && (riB Y && metB M X Y)))))) N) : w_is_cover [tabD k1 k2 M, .tuple [.list (X.map nD), .list (Y.map nD)]] N R := by
  refine ⟨rfl, ?_⟩
  sizeOf_list_dec
  have eL : ∀ {S : PyData → Prop}, oLen [tabD k1 k2 M] S = S (.int (n : Nat)) := fun {S} => by
    unfold tabD
    sizeOf_list_dec
    rw [hn]
  rw [eL]
  refine are_places_spec hX ?_
  sizeOf_list_dec
  rw [show (plB n X && (riB X && (plB m Y && (riB Y && metB M X Y)))) = ((plB n X && riB X) && ((plB m Y && riB Y) && metB M X Y)) by cases plB n X <;> cases riB X <;> cases plB m Y <;> cases riB Y <;> rfl] at h
  cases e1 : plB n X && riB X with
  | false =>
    rw [e1] at h
    sizeOf_list_dec
    exact h
  | true =>
    rw [e1] at h
    sizeOf_list_dec
    have hO : ∀ {R : T → Nat → Prop} {N : Nat}, R (.sh (.int (m : Nat))) N → w_outlets_in [tabD k1 k2 M] N R := fun {R N} hR => by
      cases M with
      | nil => exact absurd hn (by show ¬ 0 = n; omega)
      | cons r Ms =>
        refine outlets_in_spec ?_
        rw [hr r (List.mem_cons_self ..)]
        exact hR
    refine hO ?_
    refine are_places_spec hY ?_
    sizeOf_list_dec
    cases e2 : plB m Y && riB Y with
    | false =>
      rw [e2] at h
      sizeOf_list_dec
      exact h
    | true =>
      rw [e2] at h
      sizeOf_list_dec
      refine left_out_spec (k3 := true) (k4 := true) hz ?_
      rw [tab_data]
      refine asks_of_spec hz.left ?_
      rw [dataP, asks_left_eq]
      have em : ((asksN M).filter fun p => !cutB X Y p.1 p.2).isEmpty = metB M X Y := by
        unfold metB
        rw [Bool.eq_iff_iff, List.isEmpty_iff, List.filter_eq_nil_iff, List.all_eq_true]
        constructor
        · intro h p hp
          have := h p hp
          rw [Bool.not_eq_true', Bool.not_eq_false] at this
          exact this
        · intro h p hp
          rw [Bool.not_eq_true', Bool.not_eq_false]
          exact h p hp
      have al := asks_len hz
      have shp : ∀ ps : List Pr, Shp 2 (.list (ps.map pD)) := fun ps => Shp.list fun x hx => by
        obtain ⟨p, _, rfl⟩ := List.mem_map.mp hx
        refine Shp.tuple fun y hy => ?_
        rcases List.mem_cons.mp hy with rfl | hy
        · exact Shp.int _
        · rw [List.mem_singleton.mp hy]; exact Shp.int _
      sizeOf_list_dec
      refine ⟨(shp _).shaped (by decide), (shp []).shaped (by decide), ?_⟩
      rw [eqvNil, List.isEmpty_map, em]
      exact h
theorem shows_most_spec {n m k : Nat} {X Y : List Nat} {ps : List PyData} (hz : Sz M) (hn : M.length = n) (h1 : 1 ≤ n) (hr : ∀ r ∈ M, r.length = m) (hX : X.length ≤ 40000) (hY : Y.length ≤ 40000) (hk : ps.length = k) (h : R (.sh (.bool (shB n m M k X Y))) N) : w_shows_most [tabD k1 k2 M, .list ps, .tuple [.list (X.map nD), .list (Y.map nD)]] N R := by
  refine ⟨rfl, ?_⟩
  sizeOf_list_dec
  refine is_cover_spec hz hn h1 hr hX hY ?_
  sizeOf_list_dec
  have e : shB n m M k X Y = ((plB n X && (riB X && (plB m Y && (riB Y && metB M X Y)))) && ((X.length : Int) + (Y.length : Int) == (ps.length : Int))) := by
    unfold shB
    rw [show decide (X.length + Y.length = k) = ((X.length : Int) + (Y.length : Int) == (ps.length : Int)) by rw [Bool.eq_iff_iff, decide_eq_true_eq, beq_iff_eq]; omega]
    cases plB n X <;> cases riB X <;> cases plB m Y <;> cases riB Y <;> cases metB M X Y <;> rfl
  rw [e] at h
  cases e2 : (plB n X && (riB X && (plB m Y && (riB Y && metB M X Y)))) with
  | false =>
    rw [e2] at h
    exact h
  | true =>
    rw [e2] at h
    exact h
end
/-! tables of at most twelve -/
section
variable {N : Nat} {R : T → Nat → Prop} {M : Mat}
/-- a table of n rows of m, at most twelve -/
structure Tb (n m : Nat) (M : Mat) : Prop where
  len : M.length = n
  row : ∀ r ∈ M, r.length = m
  n1 : 1 ≤ n
  n2 : n ≤ 12
  m2 : m ≤ 12
theorem Tb.sz {n m : Nat} (h : Tb n m M) : Sz M := ⟨by rw [h.len]; have := h.n2; omega, fun r hr => by rw [h.row r hr]; have := h.m2; omega⟩
theorem Tb.at {n m i : Nat} (h : Tb n m M) (hi : i < n) : M[i]? = some (M.getD i []) ∧ (M.getD i []).length = m := by
  have hi' : i < M.length := by rw [h.len]; exact hi
  have e : M[i]? = some (M.getD i []) := by rw [List.getD_eq_getElem?_getD, List.getElem?_eq_getElem hi']; rfl
  exact ⟨e, h.row _ (List.mem_of_getElem? e)⟩
end
/-! the law's asks -/
section
variable {N : Nat} {R : T → Nat → Prop} {M : Mat}
theorem law_asks_spec (hM : M.length ≤ 12) (hr : ∀ r ∈ M, r.length ≤ 12) (h : R (.lst ((asksN M).map fun p => .sh (pD p))) N) : w_law_asks [tabD true true M] N R := by
  refine ⟨rfl, ?_⟩
  sizeOf_list_dec
  have al := asks_144 hM hr
  refine for_en (d := tabD true true M) (ds := M.map (rowD true)) (fun k ε M' => N = M' ∧ ∃ a2 a3, ε = [.is (.sh (tabD true true M)), .is (.lst ((asksN (M.take k)).map fun p => .sh (pD p))), a2, a3, .no, .no]) (fun R h => by sizeOf_list_dec; exact h) (seqOf_seqD true _) ⟨rfl, _, _, rfl⟩ (fun k x ε M' hx hI => ?_) fun ε M' hI => ?_
  · obtain ⟨rfl, a2, a3, rfl⟩ := hI
    rw [List.getElem?_map] at hx
    cases hrk : M[k]? with
    | none => rw [hrk] at hx; cases hx
    | some r =>
      rw [hrk] at hx
      have ex : rowD true r = x := Option.some.inj hx
      subst ex
      have hrl := hr r (List.mem_of_getElem? hrk)
      have hb := asks_up (M := M) (k + 1)
      rw [asks_take hrk, List.length_append] at hb
      sizeOf_list_dec
      refine lc_f r.zipIdx (fun q => .tuple [.int (q.2 : Nat), .int q.1]) (fun q => if (q.1 == 1) = true then some (pD (k, q.2)) else none) ?_ (by rw [List.length_zipIdx]; omega) (fun q A B hq hA hB => ?_) ?_
      · rw [← enum_map PyData.int r]
        exact gv_en (d := rowD true r) (fun R h => by sizeOf_list_dec; exact h) (seqOf_seqD true _)
      · sizeOf_list_dec
        cases e : (q.1 == 1) with
        | true =>
          sizeOf_list_dec
          exact hA _ (by rw [e]; rfl)
        | false =>
          sizeOf_list_dec
          exact hB (by rw [e]; rfl)
      · have es : (r.zipIdx.filterMap fun q => if (q.1 == 1) = true then some (pD (k, q.2)) else none) = (askRow r k).map pD := by
          unfold askRow
          rw [List.map_filterMap]
          congr 1
          funext q
          split <;> rfl
        rw [es]
        sizeOf_list_dec
        refine ⟨by omega, ?_⟩
        have el : (asksN (M.take k)).map (fun p => T.sh (pD p)) ++ ((askRow r k).map pD).map T.sh = (asksN (M.take (k + 1))).map fun p => T.sh (pD p) := by
          rw [asks_take hrk, List.map_append, List.map_map]
          rfl
        rw [el]
        exact ⟨_, _, rfl⟩
  · obtain ⟨rfl, a2, a3, rfl⟩ := hI
    rw [List.take_of_length_le (by rw [List.length_map]; exact Nat.le_refl _)]
    sizeOf_list_dec
    exact h
end
/-! the law's look at pairs -/
section
variable {N : Nat} {R : T → Nat → Prop} {M : Mat}
theorem law_is_place_spec {i n : Nat} (hi : i < n) (h : R (.sh (.bool true)) N) : w_law_is_place [.int (i : Nat), .int (n : Nat)] N R := by
  refine ⟨rfl, ?_⟩
  sizeOf_list_dec
  rw [decide_eq_true (by omega : (0 : Int) ≤ (i : Int))]
  sizeOf_list_dec
  rw [decide_eq_true (by omega : (i : Int) < (n : Int))]
  exact h
theorem allT {α : Type} (xs : List α) : (xs.map fun _ => true).all id = true := by
  rw [List.all_eq_true]
  intro x hx
  obtain ⟨_, _, rfl⟩ := List.mem_map.mp hx
  rfl
theorem law_are_pairs_spec {ps : List Pr} {n m : Nat} (hT : Tb n m M) (hp : Prs M ps) (h : R (.sh (.bool true)) N) : w_law_are_pairs [tabD true true M, .list (ps.map pD)] N R := by
  have hl : ps.length ≤ 12 := by have := hp.len; rw [hT.len] at this; have := hT.n2; omega
  have h0 := hT.at (i := 0) (by have := hT.n1; omega)
  refine ⟨rfl, ?_⟩
  sizeOf_list_dec
  refine lc_m ps pD (fun _ => .bool true) (gv_it (d := .list (ps.map pD)) (fun R h => by sizeOf_list_dec; exact h) rfl) (by omega) (fun p A hp' hA => ?_) ?_
  · rw [show pD p = PyData.tuple [.int (p.1 : Nat), .int (p.2 : Nat)] from rfl]
    sizeOf_list_dec
    exact hA
  have ebools : ∀ (qs : List Pr), qs.map (fun _ => PyData.bool true) = (qs.map fun _ => true).map PyData.bool := fun qs => by rw [List.map_map]; rfl
  rw [ebools]
  sizeOf_list_dec
  rw [allT]
  sizeOf_list_dec
  have ed : ∀ i < n, (M.getD i []).length = m := fun i hi => (hT.at hi).2
  have plt : ∀ p ∈ ps, p.1 < n ∧ p.2 < m := fun p hp' => by
    have h1 := cell_lt (hp.ask p hp')
    have h2 : p.1 < n := by have := h1.1; rw [hT.len] at this; exact this
    have h3 := h1.2
    rw [ed p.1 h2] at h3
    exact ⟨h2, h3⟩
  refine lc_m ps pD (fun _ => .bool true) (gv_it (d := .list (ps.map pD)) (fun R h => by sizeOf_list_dec; exact h) rfl) (by omega) (fun p A hp' hA => ?_) ?_
  · rw [show pD p = PyData.tuple [.int (p.1 : Nat), .int (p.2 : Nat)] from rfl]
    unfold tabD
    sizeOf_list_dec
    rw [hT.len]
    refine law_is_place_spec (plt p hp').1 ?_
    sizeOf_list_dec
    refine ⟨rowD true (M.getD 0 []), atI_nat (j := 0) (by rw [List.getElem?_map, h0.1]; rfl), ?_⟩
    unfold rowD
    sizeOf_list_dec
    rw [h0.2]
    exact law_is_place_spec (plt p hp').2 hA
  rw [ebools]
  sizeOf_list_dec
  rw [allT]
  sizeOf_list_dec
  refine lc_m (ps.zip (ps.drop 1)) (fun q => PyData.tuple [pD q.1, pD q.2]) (fun _ => .bool true) ?_ (by rw [List.length_zip]; omega) (fun q A hq hA => ?_) ?_
  · rw [← zip_map pD pD]
    refine gv_zip (fun R h => by sizeOf_list_dec; exact h) (fun R h => ?_)
    sizeOf_list_dec
    have e : cutG (ps.map pD) (some 1) none = (ps.drop 1).map pD := by
      rw [List.map_drop]
      exact cut_from _ 1
    rw [e]
    exact h
  · have hlt := zip_adj (List.pairwise_map.mp hp.rise) q hq
    sizeOf_list_dec
    show A (.bool (HT.lexLt [(q.1.1 : Int), (q.1.2 : Int)] [(q.2.1 : Int), (q.2.2 : Int)])) N
    have el : HT.lexLt [(q.1.1 : Int), (q.1.2 : Int)] [(q.2.1 : Int), (q.2.2 : Int)] = true := by
      rw [HT.lexLt_cons, if_neg (by omega), decide_eq_true_eq]
      omega
    rw [el]
    exact hA
  have ebools2 : ∀ {α : Type} (qs : List α), qs.map (fun _ => PyData.bool true) = (qs.map fun _ => true).map PyData.bool := fun qs => by rw [List.map_map]; rfl
  rw [ebools2]
  sizeOf_list_dec
  rw [allT]
  refine lc_m (List.range 2) (fun k => PyData.int (k : Int)) (fun _ => .bool true) (gv_r1 (n := 2) (fun R h => by sizeOf_list_dec; exact h) (by omega)) (by decide) (fun j A hj hA => ?_) ?_
  · sizeOf_list_dec
    rw [wLenSet_eq]
    have hj2 : j = 0 ∨ j = 1 := by have := List.mem_range.mp hj; omega
    rcases hj2 with rfl | rfl
    · refine lc_m ps pD (fun p => nD p.1) (gv_it (d := .list (ps.map pD)) (fun R h => by sizeOf_list_dec; exact h) rfl) (by omega) (fun p A hp' hA => ?_) ?_
      · rw [show pD p = PyData.tuple [.int (p.1 : Nat), .int (p.2 : Nat)] from rfl]
        sizeOf_list_dec
        exact hA
      · have e : ps.map (fun p => nD p.1) = (Ks ps).map nD := by unfold Ks; rw [List.map_map]; rfl
        rw [e]
        sizeOf_list_dec
        have hd := ded_nat (ns := Ks ps) (List.Pairwise.imp (fun h => Nat.ne_of_lt h) hp.rise)
        have hkl : (Ks ps).length = ps.length := by unfold Ks; rw [List.length_map]
        refine ⟨_, ints_nD _, by rw [List.length_map, hkl]; omega, ?_⟩
        rw [hd, hkl, beq_self_eq_true]
        exact hA
    · refine lc_m ps pD (fun p => nD p.2) (gv_it (d := .list (ps.map pD)) (fun R h => by sizeOf_list_dec; exact h) rfl) (by omega) (fun p A hp' hA => ?_) ?_
      · rw [show pD p = PyData.tuple [.int (p.1 : Nat), .int (p.2 : Nat)] from rfl]
        sizeOf_list_dec
        exact hA
      · have e : ps.map (fun p => nD p.2) = (Vs ps).map nD := by unfold Vs; rw [List.map_map]; rfl
        rw [e]
        sizeOf_list_dec
        have hd := ded_nat (ns := Vs ps) hp.once
        have hkl : (Vs ps).length = ps.length := by unfold Vs; rw [List.length_map]
        refine ⟨_, ints_nD _, by rw [List.length_map, hkl]; omega, ?_⟩
        rw [hd, hkl, beq_self_eq_true]
        exact hA
  rw [show (List.range 2).map (fun _ => PyData.bool true) = [.bool true, .bool true] from rfl]
  sizeOf_list_dec
  have shb : SeqAt.shaped (.list [.bool true, .bool true]) = true := by decide
  refine ⟨shb, shb, ?_⟩
  rw [show PyData.eqv (.list [.bool true, .bool true]) (.list [.bool true, .bool true]) = true by decide]
  sizeOf_list_dec
  refine lc_m ps pD (fun _ => .bool true) (gv_it (d := .list (ps.map pD)) (fun R h => by sizeOf_list_dec; exact h) rfl) (by omega) (fun p A hp' hA => ?_) ?_
  · rw [show pD p = PyData.tuple [.int (p.1 : Nat), .int (p.2 : Nat)] from rfl]
    unfold tabD
    sizeOf_list_dec
    have hrow := hT.at (plt p hp').1
    refine ⟨rowD true (M.getD p.1 []), atI_nat (by rw [List.getElem?_map, hrow.1]; rfl), ?_⟩
    unfold rowD
    sizeOf_list_dec
    refine ⟨.int (cell M p.1 p.2), atI_int (by rw [hrow.2]; exact (plt p hp').2), ?_⟩
    rw [hp.ask p hp']
    sizeOf_list_dec
    exact hA
  rw [ebools]
  sizeOf_list_dec
  rw [allT]
  exact h
end
/-! the law's look at covers -/
section
variable {N : Nat} {R : T → Nat → Prop} {M : Mat}
theorem law_is_placeB {i n : Nat} (h : R (.sh (.bool (decide (i < n)))) N) : w_law_is_place [.int (i : Nat), .int (n : Nat)] N R := by
  refine ⟨rfl, ?_⟩
  sizeOf_list_dec
  rw [decide_eq_true (by omega : (0 : Int) ≤ (i : Int))]
  sizeOf_list_dec
  rw [show decide ((i : Int) < (n : Int)) = decide (i < n) from decide_eq_decide.mpr (by omega)]
  exact h
theorem law_covers_spec {n m k : Nat} {X Y : List Nat} (hT : Tb n m M) (hX : X.length ≤ 40000) (hY : Y.length ≤ 40000) (h : R (.sh (.bool (shB n m M k X Y))) N) : w_law_covers [tabD true true M, .int (k : Nat), .tuple [.list (X.map nD), .list (Y.map nD)]] N R := by
  have hM : M.length ≤ 12 := by rw [hT.len]; exact hT.n2
  have hr : ∀ r ∈ M, r.length ≤ 12 := fun r hr => by rw [hT.row r hr]; exact hT.m2
  have h0 := hT.at (i := 0) (by have := hT.n1; omega)
  refine ⟨rfl, ?_⟩
  sizeOf_list_dec
  have bad : ∀ q ∈ [(X, n), (Y, m)], (plB q.2 q.1 && riB q.1) = false → shB n m M k X Y = false := fun q hq e => by
    unfold shB
    rcases List.mem_cons.mp hq with rfl | hq
    · have e' : (plB n X && riB X) = false := e
      revert e'
      cases plB n X <;> cases riB X <;> simp
    · rw [List.mem_singleton.mp hq] at e
      have e' : (plB m Y && riB Y) = false := e
      revert e'
      cases plB n X <;> cases riB X <;> cases plB m Y <;> cases riB Y <;> simp
  have size : ∀ q ∈ [(X, n), (Y, m)], q.1.length ≤ 40000 := fun q hq => by
    rcases List.mem_cons.mp hq with rfl | hq
    · exact hX
    · rw [List.mem_singleton.mp hq]; exact hY
  refine for_f [(X, n), (Y, m)] (fun q => PyData.tuple [.list (q.1.map nD), .int (q.2 : Nat)]) (fun j ε M' => N = M' ∧ (∀ q ∈ [(X, n), (Y, m)].take j, (plB q.2 q.1 && riB q.1) = true) ∧ ∃ a4 a5, ε = [.is (.sh (tabD true true M)), .is (.sh (.int (k : Nat))), .is (.sh (.tuple [.list (X.map nD), .list (Y.map nD)])), .no, a4, a5, .no, .no, .no, .no]) (fun R h => ?_) ⟨rfl, (fun _ z => nomatch z), _, _, rfl⟩ (fun j q ε M' hj hI => ?_) fun ε M' hI => ?_
  · refine gv_zipS (kd := false) (ds := [.list (X.map nD), .list (Y.map nD)]) (es := [.int (n : Nat), .int (m : Nat)]) (fun R h => by sizeOf_list_dec; exact h) (fun R h => ?_) R h
    unfold tabD
    sizeOf_list_dec
    rw [hT.len]
    refine ⟨rowD true (M.getD 0 []), atI_nat (j := 0) (by rw [List.getElem?_map, h0.1]; rfl), ?_⟩
    unfold rowD
    sizeOf_list_dec
    rw [h0.2]
    exact h
  · obtain ⟨rfl, hall, a4, a5, rfl⟩ := hI
    have hqm := List.mem_of_getElem? hj
    have hql := size q hqm
    sizeOf_list_dec
    refine lc_m q.1 nD (fun x => .bool (decide (x < q.2))) (gv_it (d := .list (q.1.map nD)) (fun R h => by sizeOf_list_dec; exact h) rfl) hql (fun x A hx hA => ?_) ?_
    · rw [show nD x = PyData.int (x : Int) from rfl]
      sizeOf_list_dec
      exact law_is_placeB hA
    · have e : q.1.map (fun x => PyData.bool (decide (x < q.2))) = (q.1.map fun x => decide (x < q.2)).map PyData.bool := by rw [List.map_map]; rfl
      rw [e]
      sizeOf_list_dec
      have e2 : (q.1.map fun x => decide (x < q.2)).all id = plB q.2 q.1 := by unfold plB; rw [List.all_map]; rfl
      rw [e2]
      cases hpl : plB q.2 q.1 with
      | false =>
        rw [bad q hqm (by rw [hpl]; rfl)] at h
        sizeOf_list_dec
        exact h
      | true =>
        sizeOf_list_dec
        have e3 : q.1.map nD = (q.1.map fun n : Nat => (n : Int)).map PyData.int := by rw [List.map_map]; rfl
        refine lc_m ((q.1.map fun n : Nat => (n : Int)).zip ((q.1.map fun n : Nat => (n : Int)).drop 1)) (fun p => .tuple [.int p.1, .int p.2]) (fun p => .bool (decide (p.1 < p.2))) ?_ (by rw [List.length_zip, List.length_map]; omega) (fun x A hx hA => ?_) ?_
        · rw [← zip_map]
          refine gv_zip (fun R h => by sizeOf_list_dec; rw [e3]; exact h) (fun R h => by
            sizeOf_list_dec
            rw [show (1 : Int) = ((1 : Nat) : Int) from rfl, cut_from, e3, ← List.map_drop]
            exact h)
        · sizeOf_list_dec
          exact hA
        · have e4 : ((q.1.map fun n : Nat => (n : Int)).zip ((q.1.map fun n : Nat => (n : Int)).drop 1)).map (fun p => PyData.bool (decide (p.1 < p.2))) = (((q.1.map fun n : Nat => (n : Int)).zip ((q.1.map fun n : Nat => (n : Int)).drop 1)).map fun p => decide (p.1 < p.2)).map PyData.bool := by rw [List.map_map]; rfl
          rw [e4]
          sizeOf_list_dec
          rw [rises_zip]
          cases hri : risesB (q.1.map fun n : Nat => (n : Int)) with
          | false =>
            rw [bad q hqm (by rw [hpl]; exact hri)] at h
            sizeOf_list_dec
            exact h
          | true =>
            sizeOf_list_dec
            refine ⟨fun q' hq' => ?_, _, _, rfl⟩
            rw [take_snoc hj] at hq'
            rcases List.mem_append.mp hq' with h' | h'
            · exact hall q' h'
            · rw [List.mem_singleton.mp h', hpl]
              exact hri
  · obtain ⟨rfl, hall, a4, a5, rfl⟩ := hI
    have c1 : (plB n X && riB X) = true := hall (X, n) (List.mem_cons_self ..)
    have c2 : (plB m Y && riB Y) = true := hall (Y, m) (List.mem_cons_of_mem _ (List.mem_cons_self ..))
    have al := asks_144 hM hr
    sizeOf_list_dec
    refine lc_m (asksN M) pD (fun p => .bool (X.contains p.1 || Y.contains p.2)) (gv_it (d := .list ((asksN M).map pD)) (fun R h => by sizeOf_list_dec; exact law_asks_spec hM hr (by rw [dataP]; exact h)) rfl) (by omega) (fun p A hp hA => ?_) ?_
    · rw [show pD p = PyData.tuple [.int (p.1 : Nat), .int (p.2 : Nat)] from rfl]
      sizeOf_list_dec
      rw [inL_f]
      sizeOf_list_dec
      cases ex : X.contains p.1 with
      | true =>
        rw [ex] at hA
        sizeOf_list_dec
        exact hA
      | false =>
        rw [ex] at hA
        sizeOf_list_dec
        rw [inL_f]
        exact hA
    · have e : (asksN M).map (fun p => PyData.bool (X.contains p.1 || Y.contains p.2)) = ((asksN M).map fun p => X.contains p.1 || Y.contains p.2).map PyData.bool := by rw [List.map_map]; rfl
      rw [e]
      sizeOf_list_dec
      have e2 : ((asksN M).map fun p => X.contains p.1 || Y.contains p.2).all id = metB M X Y := by unfold metB; rw [List.all_map]; rfl
      rw [e2]
      have e5 : shB n m M k X Y = (metB M X Y && ((X.length : Int) + (Y.length : Int) == (k : Int))) := by
        unfold shB
        rw [show decide (X.length + Y.length = k) = ((X.length : Int) + (Y.length : Int) == (k : Int)) by rw [Bool.eq_iff_iff, decide_eq_true_eq, beq_iff_eq]; omega]
        revert c1 c2
        cases plB n X <;> cases riB X <;> cases plB m Y <;> cases riB Y <;> simp
      rw [e5] at h
      cases hm : metB M X Y with
      | false =>
        rw [hm] at h
        exact h
      | true =>
        rw [hm] at h
        exact h
end
theorem shB_cvr {M : Mat} {n m k : Nat} {X Y : List Nat} (hn : M.length = n) (c : Cvr M m k X Y) (j : Nat) : shB n m M j X Y = decide (k = j) := by
  have a1 : plB n X = true := List.all_eq_true.mpr fun x hx => decide_eq_true (by rw [← hn]; exact c.lx x hx)
  have a2 : riB X = true := rises_nat c.rx
  have a3 : plB m Y = true := List.all_eq_true.mpr fun x hx => decide_eq_true (c.ly x hx)
  have a4 : riB Y = true := rises_nat c.ry
  have a5 : metB M X Y = true := List.all_eq_true.mpr fun p hp => by
    have ha := mem_asks.mp hp
    rw [Bool.or_eq_true, List.contains_iff_mem, List.contains_iff_mem]
    exact c.cov p.1 p.2 (cell_lt ha).1 ha
  unfold shB
  rw [a1, a2, a3, a4, a5, c.len]
  rfl
end K83

set_option Elab.async false
set_option linter.all false
set_option maxRecDepth 100000
set_option maxHeartbeats 1000000
namespace K83
open PySem PySem.Spec PyProof.Rows L2 Evl Cg
local macro_rules
  | `(tactic| sizeOf_list_dec) => `(tactic| simp (config := {failIfUnchanged := false}) only [↓wVar_eq, ↓wC_eq, ↓wRetV_eq, ↓wFrz_eq, isBox_eq, ↓wNil_eq, ↓wCons_eq, ↓wOp_eq, ↓wOpT_eq, ↓wUn_eq, ↓wCb_eq, ↓wCbT_eq, ↓wTest_eq, ↓wTru_eq, ↓wYes_eq, ↓wNot_eq, ↓wAnd_eq, ↓wOr_eq, ↓wAndV_eq, ↓wOrV_eq, ↓wNotV_eq, ↓wIf_eq, ↓wIfT_eq, ↓wChain_eq, ↓wLst_eq, ↓wTup_eq, ↓wNilT_eq, ↓wConsT_eq, ↓wLstT_eq, ↓wTupT_eq, ↓wSh_eq, ↓wFz_eq, ↓wVw_eq, ↓wVb_eq, ↓wVt_eq, view_nil, view_cons, view_no, view_box, view_is, ↓wCall_eq, ↓wCallT_eq, ↓wCallB_eq, ↓wCallBT_eq, ↓wIs_eq, ↓wNoPart_eq, ↓wPart_eq, ↓wSl_eq, ↓wSlT_eq, ↓wRevT_eq, ↓wRgL_eq, ↓wSkip_eq, ↓wBreak_eq, ↓wCont_eq, ↓wSeq_eq, ↓seq_nx, ↓seq_rt, ↓seq_bk, ↓seq_ct, ↓loop_nx, ↓loop_rt, ↓loop_bk, ↓loop_ct, ↓fn_nx, ↓fn_rt, ↓wRet_eq, ↓wRetN_eq, ↓wIfS_eq, ↓wAsgT_eq, ↓wAsg_eq, ↓wParN_eq, setsE_cons, setsE_nil, ↓wDrop_eq, ↓wName_eq, ↓wGNil_eq, ↓wGCons_eq, ↓wGTup_eq, ↓wApp_eq, ↓wRev_eq, ↓wClr_eq, ↓wExt_eq, ↓wSet_eq, ↓wPop_eq, ↓wipe_nil, ↓wipe_cons, env0_f, env0_t, atSh_is, atIs_is, atOwn_is, atBox_is, bIf_t, bIf_f, bIf_not, dBool_is, dInt_is, dTup_is, dList_is, dSeq_list, dSeq_tup, dSeq_seq, dTru_none, dTru_bool, dTru_int, dTru_list, dTru_tup, dCons_is, oI_int, oI0_int, oAdd_int, oAdd_list, oMul_int, oMul_list, oNeg_int, oEq_int, oEq_bool, oEq_nn, oEq_in, oEq_ni, oNe_int, oNe_bool, oNe_nn, oNe_in, oNe_ni, oEq_list, oNe_list, oEq_tup, oNe_tup, oEq_str, oNe_str, oIx_list, oIx_tup, oIx_seq, oLen_list, oLen_tup, oLen_seq, oInt_int, oInt_bool, oAbs_int, oMin2_int, oMax2_int, oAll_is, oSum_is, oListD_list, oListD_tup, oListD_seq, oTuple_list, oTuple_tup, oTuple_seq, oRepr_is, oIs_none, oIsNot_none, in_nats_t, in_nats_f, oIn_list, oIn_seq, oList_list, oList_tup, oList_seq, oCat_list, oRep_list, atI_l0, atI_l1, atI_l2, exists_eq_left', exists_eq_left, wPickT_eq, ↓wDNew_eq, ↓wDPut_eq, ↓wDList_eq, atDic_is, ↓wDGet_eq, ↓wDIn_eq, ↓wDNotIn_eq, ↓wDGet1_eq, ↓wD0_eq, ↓wDKeys_eq, ↓wDSort_eq, ↓wDSet_eq, ↓wLk_eq, ↓wKeys_eq, ↓wItems_eq, atD_own, atD_frz, atD_sh, atDO_is, atF_is, ↓wPop0_eq, ↓wSelf_eq, ↓wMove_eq, ↓wRetVT_eq, ↓wApp2_eq, ↓wSet2_eq, ↓wSetP_eq, ↓wAug_eq, oCount_list, ↓wRetPick_eq, oIsB_is, ↓wBmL_eq, oIndexS_is, ↓wAppPop_eq, ↓wAppPopT_eq, ↓wRev2_eq, oSumS_list, oSumS_tup, oSumS_seq, ↓wRetV2_eq, atOwnB_lst, atOwnB_tup, atL_int, mkT_t, mkT_f, w_take_is, w_same_is, isNone_none, isNone_bool, isNone_int, isNone_str, isNone_list, isNone_tup, isInt_none, isInt_bool, isInt_int, isInt_str, isInt_list, isInt_tup, isBool_none, isBool_bool, isBool_int, isBool_str, isBool_list, isBool_tup, isList_none, isList_bool, isList_int, isList_str, isList_list, isList_tup, isTuple_none, isTuple_bool, isTuple_int, isTuple_str, isTuple_list, isTuple_tup, isStr_none, isStr_bool, isStr_int, isStr_str, isStr_list, isStr_tup, isNone_seq, isList_seq, isTuple_seq, isInt_seq, isBool_seq, isStr_seq, dTru_seq, List.isEmpty_nil, List.isEmpty_cons, beq_self_eq_true, decide_true, decide_false, T.clean, T.cleans, T.data, T.datas, imm, immAll, List.getElem?_cons_zero, List.getElem?_cons_succ, List.set_cons_zero, List.set_cons_succ, List.map_cons, List.map_nil, List.cons_append, List.nil_append, List.replicate_succ, List.replicate_zero, List.length_cons, List.length_nil, List.length_map, if_true, if_false, Bool.true_and, Bool.and_true, Bool.false_and, Bool.and_false, Bool.not_true, Bool.not_false, Bool.or_true, Bool.true_or, Bool.false_or, Bool.or_false, Bool.false_eq_true, reduceIte, reduceCtorEq, true_and, and_true, Option.some.injEq, Nat.reduceAdd, Nat.reduceLeDiff, Int.reduceLE, Int.reduceLT, Int.cast_ofNat_Int, Int.reduceBEq, Int.reduceToNat])
section
variable {N : Nat} {R : T → Nat → Prop} {M : Mat}
/-- pairs of inlets from i on, none of the outlets gone -/
structure Mt (M : Mat) (i : Nat) (G : List Nat) (ps : List Pr) : Prop where
  ap : Apart ps
  ge : ∀ p ∈ ps, i ≤ p.1
  ask : ∀ p ∈ ps, cell M p.1 p.2 = 1
  out : ∀ p ∈ ps, p.2 ∉ G
def Top (M : Mat) (i : Nat) (G : List Nat) (b : Nat) : Prop := (∃ ps, Mt M i G ps ∧ ps.length = b) ∧ ∀ ps, Mt M i G ps → ps.length ≤ b
theorem Mt.up {i : Nat} {G : List Nat} {ps : List Pr} (h : Mt M i G ps) (hn : ∀ p ∈ ps, p.1 ≠ i) : Mt M (i + 1) G ps := ⟨h.ap, fun p hp => by have := h.ge p hp; have := hn p hp; omega, h.ask, h.out⟩
theorem Mt.down {i : Nat} {G : List Nat} {ps : List Pr} (h : Mt M (i + 1) G ps) : Mt M i G ps := ⟨h.ap, fun p hp => by have := h.ge p hp; omega, h.ask, h.out⟩
theorem Mt.put {i j : Nat} {G : List Nat} {ps : List Pr} (h : Mt M (i + 1) (G ++ [j]) ps) (hc : cell M i j = 1) (hj : j ∉ G) : Mt M i G ((i, j) :: ps) := by
  refine ⟨List.pairwise_cons.mpr ⟨fun p hp => ⟨?_, ?_⟩, h.ap⟩, fun p hp => ?_, fun p hp => ?_, fun p hp => ?_⟩
  · have := h.ge p hp
    show i ≠ p.1
    omega
  · exact fun e => h.out p hp (List.mem_append_right _ (List.mem_singleton.mpr e.symm))
  · rcases List.mem_cons.mp hp with rfl | hp
    · exact Nat.le_refl _
    · have := h.ge p hp
      omega
  · rcases List.mem_cons.mp hp with rfl | hp
    · exact hc
    · exact h.ask p hp
  · rcases List.mem_cons.mp hp with rfl | hp
    · exact hj
    · exact fun z => h.out p hp (List.mem_append_left _ z)
/-- without the one that takes (i, j) -/
theorem Mt.drop {i j : Nat} {G : List Nat} {ps : List Pr} (h : Mt M i G ps) (hm : (i, j) ∈ ps) : ∃ qs, Mt M (i + 1) (G ++ [j]) qs ∧ ps.length = qs.length + 1 := by
  obtain ⟨s, t, rfl⟩ := List.append_of_mem hm
  have hp := h.ap
  have pm : (s ++ (i, j) :: t).Perm ((i, j) :: (s ++ t)) := List.perm_middle
  have hp2 : Apart ((i, j) :: (s ++ t)) := (List.Perm.pairwise_iff (fun {a b} h => ⟨fun z => h.1 z.symm, fun z => h.2 z.symm⟩) pm.symm).mpr hp
  obtain ⟨h1, h2⟩ := List.pairwise_cons.mp hp2
  have mem : ∀ p ∈ s ++ t, p ∈ s ++ (i, j) :: t := fun p hp => pm.mem_iff.mpr (List.mem_cons_of_mem _ hp)
  refine ⟨s ++ t, ⟨h2, fun p hp => ?_, fun p hp => h.ask p (mem p hp), fun p hp z => ?_⟩, pm.length_eq⟩
  · have a := h.ge p (mem p hp)
    have b : i ≠ p.1 := (h1 p hp).1
    omega
  · rcases List.mem_append.mp z with z | z
    · exact h.out p (mem p hp) z
    · exact (h1 p hp).2 (List.mem_singleton.mp z).symm
theorem law_best_spec {n m : Nat} (hT : Tb n m M) : ∀ (d i : Nat) (G : List Nat) {N : Nat} {R : T → Nat → Prop}, n < i + d → i ≤ n → G.length ≤ i → (∀ b, Top M i G b → R (.sh (.int (b : Nat))) N) → wr_law_best d [tabD true true M, .int (i : Nat), .list (G.map nD)] N R
  | 0, i, G, N, R, hd, hi, hG, h => absurd hd (by omega)
  | d + 1, i, G, N, R, hd, hi, hG, h => by
    have hn2 := hT.n2
    refine ⟨rfl, ?_⟩
    unfold tabD
    sizeOf_list_dec
    rw [hT.len]
    refine bIf_beq (fun e => ?_) fun ne => ?_
    · refine h 0 ⟨⟨[], ⟨List.Pairwise.nil, (fun _ z => nomatch z), (fun _ z => nomatch z), fun _ z => nomatch z⟩, rfl⟩, fun ps hp => ?_⟩
      cases ps with
      | nil => exact Nat.le_refl _
      | cons p ps =>
        have a := hp.ge p (List.mem_cons_self ..)
        have b := (cell_lt (hp.ask p (List.mem_cons_self ..))).1
        rw [hT.len] at b
        omega
    · have hin : i < n := by omega
      have hrow := hT.at hin
      generalize er : M.getD i [] = r at hrow
      have ei : ((i : Int) + 1) = ((i + 1 : Nat) : Int) := by omega
      rw [ei]
      refine law_best_spec hT d (i + 1) G (by omega) (by omega) (by omega) fun b0 top0 => ?_
      sizeOf_list_dec
      obtain ⟨⟨ps0, mt0, el0⟩, up0⟩ := top0
      refine for_en (d := rowD true r) (ds := r.map PyData.int) (fun k ε M' => N = M' ∧ ∃ (b : Nat) (a4 a5 : Sl), (∃ ps, Mt M i G ps ∧ ps.length = b) ∧ (∀ ps, Mt M i G ps → (∀ p ∈ ps, p.1 = i → p.2 < k) → ps.length ≤ b) ∧ ε = [.is (.sh (tabD true true M)), .is (.sh (.int (i : Nat))), .is (.sh (.list (G.map nD))), .is (.sh (.int (b : Nat))), a4, a5]) (fun R h => by
        sizeOf_list_dec
        exact ⟨rowD true r, atI_nat (by rw [List.getElem?_map, hrow.1]; rfl), h⟩) (seqOf_seqD true _) ⟨rfl, b0, _, _, ⟨ps0, mt0.down, el0⟩, fun ps hp hk => up0 ps (hp.up fun p hp' e => absurd (hk p hp' e) (Nat.not_lt_zero _)), rfl⟩ (fun k x ε M' hx hI => ?_) fun ε M' hI => ?_
      · obtain ⟨rfl, b, a4, a5, ⟨ps1, mt1, el1⟩, up1, rfl⟩ := hI
        rw [List.getElem?_map] at hx
        cases hrk : r[k]? with
        | none => rw [hrk] at hx; cases hx
        | some x0 =>
          rw [hrk] at hx
          have ex : PyData.int x0 = x := Option.some.inj hx
          subst ex
          have ecell : cell M i k = x0 := by unfold cell; rw [er, List.getD_eq_getElem?_getD, hrk]; rfl
          have skip : (cell M i k ≠ 1 ∨ k ∈ G) → ∀ ps, Mt M i G ps → (∀ p ∈ ps, p.1 = i → p.2 < k + 1) → ps.length ≤ b := fun hz ps hp hk => up1 ps hp fun p hp' e => by
            have := hk p hp' e
            rcases Nat.lt_or_ge p.2 k with hlt | hge
            · exact hlt
            · have ek : p.2 = k := by omega
              have h1 := hp.ask p hp'
              have h2 := hp.out p hp'
              rw [e, ek] at h1
              rw [ek] at h2
              exact absurd (hz.elim (fun z => z h1) fun z => h2 z) id
          sizeOf_list_dec
          refine bIf_beq (fun e1 => ?_) fun ne1 => ?_
          · rw [inL_t]
            sizeOf_list_dec
            refine bIf_of (fun hg => ?_) fun hg => ?_
            · exact ⟨b, _, _, ⟨ps1, mt1, el1⟩, skip (.inr (List.contains_iff_mem.mp hg)), rfl⟩
            · have hkG : k ∉ G := fun z => by rw [List.contains_iff_mem.mpr z] at hg; cases hg
              have eG : G.map nD ++ [PyData.int (k : Int)] = (G ++ [k]).map nD := by rw [List.map_append]; rfl
              rw [ei, eG]
              refine ⟨by omega, law_best_spec hT d (i + 1) (G ++ [k]) (by omega) (by omega) (by rw [List.length_append, List.length_singleton]; omega) fun b1 top1 => ?_⟩
              obtain ⟨⟨ps2, mt2, el2⟩, up2⟩ := top1
              have hc1 : cell M i k = 1 := ecell.trans e1
              sizeOf_list_dec
              have fin : ∀ c : Nat, (c = b ∨ c = 1 + b1) → b ≤ c → 1 + b1 ≤ c → (∃ ps, Mt M i G ps ∧ ps.length = c) ∧ ∀ ps, Mt M i G ps → (∀ p ∈ ps, p.1 = i → p.2 < k + 1) → ps.length ≤ c := fun c hc hb hb1 => by
                refine ⟨?_, fun ps hp hk => ?_⟩
                · rcases hc with rfl | rfl
                  · exact ⟨ps1, mt1, el1⟩
                  · exact ⟨(i, k) :: ps2, mt2.put hc1 hkG, by rw [List.length_cons, el2]; omega⟩
                · by_cases hm : (i, k) ∈ ps
                  · obtain ⟨qs, hq, hl⟩ := hp.drop hm
                    have := up2 qs hq
                    omega
                  · refine Nat.le_trans (up1 ps hp fun p hp' e => ?_) hb
                    have h1 := hk p hp' e
                    have h2 : p.2 ≠ k := fun e2 => hm (by rw [← e, ← e2]; exact hp')
                    omega
              by_cases hgt : (1 + (b1 : Int)) > (b : Int)
              · rw [if_pos hgt, show (1 + (b1 : Int)) = ((1 + b1 : Nat) : Int) by omega]
                obtain ⟨q1, q2⟩ := fin (1 + b1) (.inr rfl) (by omega) (Nat.le_refl _)
                exact ⟨1 + b1, _, _, q1, q2, rfl⟩
              · rw [if_neg hgt]
                obtain ⟨q1, q2⟩ := fin b (.inl rfl) (Nat.le_refl _) (by omega)
                exact ⟨b, _, _, q1, q2, rfl⟩
          · exact ⟨b, _, _, ⟨ps1, mt1, el1⟩, skip (.inl (by rw [ecell]; exact ne1)), rfl⟩
      · obtain ⟨rfl, b, a4, a5, ⟨ps1, mt1, el1⟩, up1, rfl⟩ := hI
        sizeOf_list_dec
        refine h b ⟨⟨ps1, mt1, el1⟩, fun ps hp => up1 ps hp fun p hp' e => ?_⟩
        have := (cell_lt (hp.ask p hp')).2
        rw [e, er] at this
        rw [List.length_map]
        exact this
/-- as many as there can be -/
def Mx (M : Mat) (b : Nat) : Prop := (∃ ps, Apart ps ∧ (∀ p ∈ ps, cell M p.1 p.2 = 1) ∧ ps.length = b) ∧ ∀ ps, Apart ps → (∀ p ∈ ps, cell M p.1 p.2 = 1) → ps.length ≤ b
theorem top_mx {b : Nat} (h : Top M 0 [] b) : Mx M b := ⟨h.1.imp fun ps h => ⟨h.1.ap, h.1.ask, h.2⟩, fun ps h1 h2 => h.2 ps ⟨h1, fun _ _ => Nat.zero_le _, h2, fun _ _ => List.not_mem_nil⟩⟩
theorem mx_cov {b k : Nat} (h : Mx M b) (c : ∃ X Y, Cov M M.length X Y ∧ X.length + Y.length = k) : b ≤ k := by
  obtain ⟨⟨ps, h1, h2, h3⟩, _⟩ := h
  obtain ⟨X, Y, c1, c2⟩ := c
  have := cov_le c1 h1 fun p hp => ⟨(cell_lt (h2 p hp)).1, h2 p hp⟩
  omega
theorem law_grown_right_spec {n m b : Nat} {ps : List Pr} (hT : Tb n m M) (hp : Prs M ps) (hb : Mx M b) (h : R (.sh (.bool true)) N) : w_law_grown_right [tabD true true M, .list (ps.map pD), .int (b : Nat)] N R := by
  have hz := hT.sz
  have hn2 := hT.n2
  have hle : ps.length ≤ b := hb.2 ps (prs_apart hp) hp.ask
  have hbn : b ≤ 12 := by
    obtain ⟨⟨qs, h1, h2, h3⟩, _⟩ := hb
    have := nodup_len (apart_iff.mp h1).1 fun x hx => by
      obtain ⟨v, hv⟩ := mem_ks.mp hx
      have := (cell_lt (h2 _ hv)).1
      rw [hT.len] at this
      exact this
    unfold Ks at this
    rw [List.length_map] at this
    omega
  refine ⟨rfl, ?_⟩
  sizeOf_list_dec
  refine for_r1 (n := b - ps.length) (fun k ε M' => N = M' ∧ ∃ (qs : List Pr) (a3 a4 a5 a6 : Sl), Prs M qs ∧ qs.length = ps.length + k ∧ ε = [.is (.sh (tabD true true M)), .is (.sh (.list (qs.map pD))), .is (.sh (.int (b : Nat))), a3, a4, a5, a6, .no, .no]) (fun R h => by
    sizeOf_list_dec
    rw [show (b : Int) - (ps.length : Int) = ((b - ps.length : Nat) : Int) by omega]
    exact h) (by omega) ⟨rfl, ps, _, _, _, _, hp, rfl, rfl⟩ (fun k ε M' hk hI => ?_) fun ε M' hI => ?_
  · obtain ⟨rfl, qs, a3, a4, a5, a6, hq, hql, rfl⟩ := hI
    sizeOf_list_dec
    refine grown_spec (k3 := true) hz (prs_apart hq) hq.ask (fun _ c => absurd (mx_cov hb c) (by omega)) fun rs _ hr hrl hi ho => ?_
    have rl : rs.length ≤ 13 := by omega
    rw [dataP]
    sizeOf_list_dec
    refine law_are_pairs_spec hT hr ?_
    sizeOf_list_dec
    rw [show ((rs.length : Int) == (qs.length : Int) + 1) = true by rw [beq_iff_eq]; omega]
    sizeOf_list_dec
    refine lc_m rs pD (fun p => nD p.1) (gv_it (d := .list (rs.map pD)) (fun R h => by sizeOf_list_dec; exact h) rfl) (by omega) (fun p A hp' hA => ?_) ?_
    · rw [show pD p = PyData.tuple [.int (p.1 : Nat), .int (p.2 : Nat)] from rfl]
      sizeOf_list_dec
      exact hA
    refine lc_m rs pD (fun p => nD p.2) (gv_it (d := .list (rs.map pD)) (fun R h => by sizeOf_list_dec; exact h) rfl) (by omega) (fun p A hp' hA => ?_) ?_
    · rw [show pD p = PyData.tuple [.int (p.1 : Nat), .int (p.2 : Nat)] from rfl]
      sizeOf_list_dec
      exact hA
    rw [show rs.map (fun p => nD p.1) = (Ks rs).map nD by unfold Ks; rw [List.map_map]; rfl, show rs.map (fun p => nD p.2) = (Vs rs).map nD by unfold Vs; rw [List.map_map]; rfl]
    refine lc_m qs pD (fun _ => .bool true) (gv_it (d := .list (qs.map pD)) (fun R h => by sizeOf_list_dec; exact h) rfl) (by omega) (fun p A hp' hA => ?_) ?_
    · rw [show pD p = PyData.tuple [.int (p.1 : Nat), .int (p.2 : Nat)] from rfl]
      sizeOf_list_dec
      rw [inL_f, List.contains_iff_mem.mpr (hi p.1 (mem_ks.mpr ⟨p.2, hp'⟩))]
      sizeOf_list_dec
      rw [inL_f, List.contains_iff_mem.mpr (ho p.2 (mem_vs.mpr ⟨p.1, hp'⟩))]
      exact hA
    rw [show qs.map (fun _ => PyData.bool true) = (qs.map fun _ => true).map PyData.bool by rw [List.map_map]; rfl]
    sizeOf_list_dec
    rw [allT]
    sizeOf_list_dec
    exact ⟨rs, _, _, _, _, hr, by omega, rfl⟩
  · obtain ⟨rfl, qs, a3, a4, a5, a6, hq, hql, rfl⟩ := hI
    sizeOf_list_dec
    refine grown_spec (k3 := true) hz (prs_apart hq) hq.ask (fun _ c => ?_) fun rs _ hr hrl _ _ => absurd (hb.2 rs (prs_apart hr) hr.ask) (by omega)
    sizeOf_list_dec
    refine are_pairs_spec (k1 := true) (k2 := true) hq hz ⟨m, hT.row⟩ ?_
    sizeOf_list_dec
    exact h
end
end K83

set_option Elab.async false
set_option linter.all false
set_option maxRecDepth 100000
set_option maxHeartbeats 1000000
namespace K83
open PySem PySem.Spec PyProof.Rows L2 Evl Cg
local macro_rules
  | `(tactic| sizeOf_list_dec) => `(tactic| simp (config := {failIfUnchanged := false}) only [↓wVar_eq, ↓wC_eq, ↓wRetV_eq, ↓wFrz_eq, isBox_eq, ↓wNil_eq, ↓wCons_eq, ↓wOp_eq, ↓wOpT_eq, ↓wUn_eq, ↓wCb_eq, ↓wCbT_eq, ↓wTest_eq, ↓wTru_eq, ↓wYes_eq, ↓wNot_eq, ↓wAnd_eq, ↓wOr_eq, ↓wAndV_eq, ↓wOrV_eq, ↓wNotV_eq, ↓wIf_eq, ↓wIfT_eq, ↓wChain_eq, ↓wLst_eq, ↓wTup_eq, ↓wNilT_eq, ↓wConsT_eq, ↓wLstT_eq, ↓wTupT_eq, ↓wSh_eq, ↓wFz_eq, ↓wVw_eq, ↓wVb_eq, ↓wVt_eq, view_nil, view_cons, view_no, view_box, view_is, ↓wCall_eq, ↓wCallT_eq, ↓wCallB_eq, ↓wCallBT_eq, ↓wIs_eq, ↓wNoPart_eq, ↓wPart_eq, ↓wSl_eq, ↓wSlT_eq, ↓wRevT_eq, ↓wRgL_eq, ↓wSkip_eq, ↓wBreak_eq, ↓wCont_eq, ↓wSeq_eq, ↓seq_nx, ↓seq_rt, ↓seq_bk, ↓seq_ct, ↓loop_nx, ↓loop_rt, ↓loop_bk, ↓loop_ct, ↓fn_nx, ↓fn_rt, ↓wRet_eq, ↓wRetN_eq, ↓wIfS_eq, ↓wAsgT_eq, ↓wAsg_eq, ↓wParN_eq, setsE_cons, setsE_nil, ↓wDrop_eq, ↓wName_eq, ↓wGNil_eq, ↓wGCons_eq, ↓wGTup_eq, ↓wApp_eq, ↓wRev_eq, ↓wClr_eq, ↓wExt_eq, ↓wSet_eq, ↓wPop_eq, ↓wipe_nil, ↓wipe_cons, env0_f, env0_t, atSh_is, atIs_is, atOwn_is, atBox_is, bIf_t, bIf_f, bIf_not, dBool_is, dInt_is, dTup_is, dList_is, dSeq_list, dSeq_tup, dSeq_seq, dTru_none, dTru_bool, dTru_int, dTru_list, dTru_tup, dCons_is, oI_int, oI0_int, oAdd_int, oAdd_list, oMul_int, oMul_list, oNeg_int, oEq_int, oEq_bool, oEq_nn, oEq_in, oEq_ni, oNe_int, oNe_bool, oNe_nn, oNe_in, oNe_ni, oEq_list, oNe_list, oEq_tup, oNe_tup, oEq_str, oNe_str, oIx_list, oIx_tup, oIx_seq, oLen_list, oLen_tup, oLen_seq, oInt_int, oInt_bool, oAbs_int, oMin2_int, oMax2_int, oAll_is, oSum_is, oListD_list, oListD_tup, oListD_seq, oTuple_list, oTuple_tup, oTuple_seq, oRepr_is, oIs_none, oIsNot_none, in_nats_t, in_nats_f, oIn_list, oIn_seq, oList_list, oList_tup, oList_seq, oCat_list, oRep_list, atI_l0, atI_l1, atI_l2, exists_eq_left', exists_eq_left, wPickT_eq, ↓wDNew_eq, ↓wDPut_eq, ↓wDList_eq, atDic_is, ↓wDGet_eq, ↓wDIn_eq, ↓wDNotIn_eq, ↓wDGet1_eq, ↓wD0_eq, ↓wDKeys_eq, ↓wDSort_eq, ↓wDSet_eq, ↓wLk_eq, ↓wKeys_eq, ↓wItems_eq, atD_own, atD_frz, atD_sh, atDO_is, atF_is, ↓wPop0_eq, ↓wSelf_eq, ↓wMove_eq, ↓wRetVT_eq, ↓wApp2_eq, ↓wSet2_eq, ↓wSetP_eq, ↓wAug_eq, oCount_list, ↓wRetPick_eq, oIsB_is, ↓wBmL_eq, oIndexS_is, ↓wAppPop_eq, ↓wAppPopT_eq, ↓wRev2_eq, oSumS_list, oSumS_tup, oSumS_seq, ↓wRetV2_eq, atOwnB_lst, atOwnB_tup, atL_int, mkT_t, mkT_f, w_take_is, w_same_is, isNone_none, isNone_bool, isNone_int, isNone_str, isNone_list, isNone_tup, isInt_none, isInt_bool, isInt_int, isInt_str, isInt_list, isInt_tup, isBool_none, isBool_bool, isBool_int, isBool_str, isBool_list, isBool_tup, isList_none, isList_bool, isList_int, isList_str, isList_list, isList_tup, isTuple_none, isTuple_bool, isTuple_int, isTuple_str, isTuple_list, isTuple_tup, isStr_none, isStr_bool, isStr_int, isStr_str, isStr_list, isStr_tup, isNone_seq, isList_seq, isTuple_seq, isInt_seq, isBool_seq, isStr_seq, dTru_seq, List.isEmpty_nil, List.isEmpty_cons, beq_self_eq_true, decide_true, decide_false, T.clean, T.cleans, T.data, T.datas, imm, immAll, List.getElem?_cons_zero, List.getElem?_cons_succ, List.set_cons_zero, List.set_cons_succ, List.map_cons, List.map_nil, List.cons_append, List.nil_append, List.replicate_succ, List.replicate_zero, List.length_cons, List.length_nil, List.length_map, if_true, if_false, Bool.true_and, Bool.and_true, Bool.false_and, Bool.and_false, Bool.not_true, Bool.not_false, Bool.or_true, Bool.true_or, Bool.false_or, Bool.or_false, Bool.false_eq_true, reduceIte, reduceCtorEq, true_and, and_true, Option.some.injEq, Nat.reduceAdd, Nat.reduceLeDiff, Int.reduceLE, Int.reduceLT, Int.cast_ofNat_Int, Int.reduceBEq, Int.reduceToNat])
section
variable {N : Nat} {R : T → Nat → Prop} {M : Mat}
theorem full_cov {ps : List Pr} (h : Full M ps) : Cov M M.length (Ks ps) (Vs ps) := fun i j _ hc => Classical.byContradiction fun z => by
  have := List.find?_eq_none.mp h (i, j) (mem_asks.mpr hc)
  rw [Bool.not_eq_true] at this
  have hf : freeB ps (i, j) = true := free_iff.mpr fun q hq => ⟨fun e => z (.inl (by have e' : q.1 = i := e; rw [← e']; exact mem_ks.mpr ⟨q.2, hq⟩)), fun e => z (.inr (by have e' : q.2 = j := e; rw [← e']; exact mem_vs.mpr ⟨q.1, hq⟩))⟩
  rw [hf] at this
  cases this
theorem law_table_right_spec {n m : Nat} (hT : Tb n m M) (hn4 : n ≤ 4) (h : R (.sh (.bool true)) N) : w_law_table_right [tabD true true M] N R := by
  have hz := hT.sz
  have hn2 := hT.n2
  refine ⟨rfl, ?_⟩
  sizeOf_list_dec
  refine law_best_spec hT 5 0 [] (by omega) (Nat.zero_le _) (Nat.le_refl _) fun b top => ?_
  have hb := top_mx top
  have hbn : b ≤ 12 := by
    obtain ⟨⟨qs, h1, h2, h3⟩, _⟩ := hb
    have := nodup_len (apart_iff.mp h1).1 fun x hx => by
      obtain ⟨v, hv⟩ := mem_ks.mp hx
      have := (cell_lt (h2 _ hv)).1
      rw [hT.len] at this
      exact this
    unfold Ks at this
    rw [List.length_map] at this
    omega
  sizeOf_list_dec
  refine first_pairs_spec hz ?_
  rw [dataP]
  have hg := greedy_prs M
  have hgl : (greedy (asksN M)).length ≤ 12 := by have := hg.len; rw [hT.len] at this; omega
  refine law_are_pairs_spec hT hg ?_
  sizeOf_list_dec
  refine free_ask_spec (k3 := true) hz (by omega) ?_
  rw [show (asksN M).find? (freeB (greedy (asksN M))) = none from greedy_full M, show oD none = PyData.none from rfl]
  have h2b : b ≤ 2 * (greedy (asksN M)).length := by
    have := mx_cov (k := 2 * (greedy (asksN M)).length) hb ⟨_, _, full_cov (greedy_full M), by unfold Ks Vs; rw [List.length_map, List.length_map]; omega⟩
    exact this
  sizeOf_list_dec
  refine ⟨.inl ⟨by decide, by decide⟩, ?_⟩
  rw [decide_eq_false (by omega : ¬ (2 * ((greedy (asksN M)).length : Int) < (b : Int)))]
  sizeOf_list_dec
  refine law_grown_right_spec hT hg hb ?_
  sizeOf_list_dec
  have hnil : Prs M [] := ⟨(fun _ z => nomatch z), List.Pairwise.nil, List.nodup_nil⟩
  refine law_grown_right_spec (ps := []) hT hnil hb ?_
  sizeOf_list_dec
  refine most_pairs_spec hz fun hp hc => ?_
  refine cover_of_spec hz hT.row fun _ _ cv => ?_
  have hsz : (mostF M).length = b := by
    have a1 := mx_cov hb hc
    have a2 := hb.2 _ (prs_apart hp) hp.ask
    omega
  rw [hsz] at cv
  have lX : (coverF M).1.length ≤ 12 := by have := cv.len; omega
  have lY : (coverF M).2.length ≤ 12 := by have := cv.len; omega
  rw [dataP]
  refine law_are_pairs_spec hT hp ?_
  sizeOf_list_dec
  rw [show (((mostF M).length : Int) == (b : Int)) = true by rw [beq_iff_eq]; omega]
  sizeOf_list_dec
  rw [datasN, datasN]
  refine law_covers_spec hT (by omega) (by omega) ?_
  rw [shB_cvr hT.len cv, decide_eq_true rfl]
  sizeOf_list_dec
  refine lc_m (List.range b) (fun k => PyData.int (k : Int)) (fun _ => .bool false) (gv_r1 (n := b) (fun R h => by sizeOf_list_dec; exact h) (by omega)) (by rw [List.length_range]; omega) (fun k A hk hA => ?_) ?_
  · have hkb := List.mem_range.mp hk
    sizeOf_list_dec
    have ec : cutG ((mostF M).map pD) none (some (k : Int)) = ((mostF M).take k).map pD := by
      rw [List.map_take]
      exact cut_to _ _
    rw [ec]
    refine shows_most_spec (k := k) hz hT.len hT.n1 hT.row (by omega) (by omega) (by rw [List.length_map, List.length_take]; omega) ?_
    rw [shB_cvr hT.len cv, decide_eq_false (by omega)]
    exact hA
  refine shows_most_spec (k := b) hz hT.len hT.n1 hT.row (by omega) (by omega) (by rw [List.length_map]; exact hsz) ?_
  rw [shB_cvr hT.len cv, decide_eq_true rfl]
  sizeOf_list_dec
  have shb : Shp 1 (.list ((List.range b).map fun _ => PyData.bool false)) := Shp.list fun x hx => by
    obtain ⟨_, _, rfl⟩ := List.mem_map.mp hx
    exact Shp.bool _
  refine ⟨(Shp.bool (n := 1) true).shaped (by decide), shb.shaped (by decide), ?_⟩
  have e : (((List.range b).map fun _ => PyData.bool false).any fun z => PyData.eqv z (.bool true)) = false := by
    rw [List.any_eq_false]
    intro x hx
    obtain ⟨_, _, rfl⟩ := List.mem_map.mp hx
    decide
  rw [e]
  exact h
end
end K83

set_option Elab.async false
set_option linter.all false
set_option maxRecDepth 100000
set_option maxHeartbeats 1000000
namespace K83
open PySem PySem.Spec PyProof.Rows L2 Evl Cg
local macro_rules
  | `(tactic| sizeOf_list_dec) => `(tactic| simp (config := {failIfUnchanged := false}) only [↓wVar_eq, ↓wC_eq, ↓wRetV_eq, ↓wFrz_eq, isBox_eq, ↓wNil_eq, ↓wCons_eq, ↓wOp_eq, ↓wOpT_eq, ↓wUn_eq, ↓wCb_eq, ↓wCbT_eq, ↓wTest_eq, ↓wTru_eq, ↓wYes_eq, ↓wNot_eq, ↓wAnd_eq, ↓wOr_eq, ↓wAndV_eq, ↓wOrV_eq, ↓wNotV_eq, ↓wIf_eq, ↓wIfT_eq, ↓wChain_eq, ↓wLst_eq, ↓wTup_eq, ↓wNilT_eq, ↓wConsT_eq, ↓wLstT_eq, ↓wTupT_eq, ↓wSh_eq, ↓wFz_eq, ↓wVw_eq, ↓wVb_eq, ↓wVt_eq, view_nil, view_cons, view_no, view_box, view_is, ↓wCall_eq, ↓wCallT_eq, ↓wCallB_eq, ↓wCallBT_eq, ↓wIs_eq, ↓wNoPart_eq, ↓wPart_eq, ↓wSl_eq, ↓wSlT_eq, ↓wRevT_eq, ↓wRgL_eq, ↓wSkip_eq, ↓wBreak_eq, ↓wCont_eq, ↓wSeq_eq, ↓seq_nx, ↓seq_rt, ↓seq_bk, ↓seq_ct, ↓loop_nx, ↓loop_rt, ↓loop_bk, ↓loop_ct, ↓fn_nx, ↓fn_rt, ↓wRet_eq, ↓wRetN_eq, ↓wIfS_eq, ↓wAsgT_eq, ↓wAsg_eq, ↓wParN_eq, setsE_cons, setsE_nil, ↓wDrop_eq, ↓wName_eq, ↓wGNil_eq, ↓wGCons_eq, ↓wGTup_eq, ↓wApp_eq, ↓wRev_eq, ↓wClr_eq, ↓wExt_eq, ↓wSet_eq, ↓wPop_eq, ↓wipe_nil, ↓wipe_cons, env0_f, env0_t, atSh_is, atIs_is, atOwn_is, atBox_is, bIf_t, bIf_f, bIf_not, dBool_is, dInt_is, dTup_is, dList_is, dSeq_list, dSeq_tup, dSeq_seq, dTru_none, dTru_bool, dTru_int, dTru_list, dTru_tup, dCons_is, oI_int, oI0_int, oAdd_int, oAdd_list, oMul_int, oMul_list, oNeg_int, oEq_int, oEq_bool, oEq_nn, oEq_in, oEq_ni, oNe_int, oNe_bool, oNe_nn, oNe_in, oNe_ni, oEq_list, oNe_list, oEq_tup, oNe_tup, oEq_str, oNe_str, oIx_list, oIx_tup, oIx_seq, oLen_list, oLen_tup, oLen_seq, oInt_int, oInt_bool, oAbs_int, oMin2_int, oMax2_int, oAll_is, oSum_is, oListD_list, oListD_tup, oListD_seq, oTuple_list, oTuple_tup, oTuple_seq, oRepr_is, oIs_none, oIsNot_none, in_nats_t, in_nats_f, oIn_list, oIn_seq, oList_list, oList_tup, oList_seq, oCat_list, oRep_list, atI_l0, atI_l1, atI_l2, exists_eq_left', exists_eq_left, wPickT_eq, ↓wDNew_eq, ↓wDPut_eq, ↓wDList_eq, atDic_is, ↓wDGet_eq, ↓wDIn_eq, ↓wDNotIn_eq, ↓wDGet1_eq, ↓wD0_eq, ↓wDKeys_eq, ↓wDSort_eq, ↓wDSet_eq, ↓wLk_eq, ↓wKeys_eq, ↓wItems_eq, atD_own, atD_frz, atD_sh, atDO_is, atF_is, ↓wPop0_eq, ↓wSelf_eq, ↓wMove_eq, ↓wRetVT_eq, ↓wApp2_eq, ↓wSet2_eq, ↓wSetP_eq, ↓wAug_eq, oCount_list, ↓wRetPick_eq, oIsB_is, ↓wBmL_eq, oIndexS_is, ↓wAppPop_eq, ↓wAppPopT_eq, ↓wRev2_eq, oSumS_list, oSumS_tup, oSumS_seq, ↓wRetV2_eq, atOwnB_lst, atOwnB_tup, atL_int, mkT_t, mkT_f, w_take_is, w_same_is, isNone_none, isNone_bool, isNone_int, isNone_str, isNone_list, isNone_tup, isInt_none, isInt_bool, isInt_int, isInt_str, isInt_list, isInt_tup, isBool_none, isBool_bool, isBool_int, isBool_str, isBool_list, isBool_tup, isList_none, isList_bool, isList_int, isList_str, isList_list, isList_tup, isTuple_none, isTuple_bool, isTuple_int, isTuple_str, isTuple_list, isTuple_tup, isStr_none, isStr_bool, isStr_int, isStr_str, isStr_list, isStr_tup, isNone_seq, isList_seq, isTuple_seq, isInt_seq, isBool_seq, isStr_seq, dTru_seq, List.isEmpty_nil, List.isEmpty_cons, beq_self_eq_true, decide_true, decide_false, T.clean, T.cleans, T.data, T.datas, imm, immAll, List.getElem?_cons_zero, List.getElem?_cons_succ, List.set_cons_zero, List.set_cons_succ, List.map_cons, List.map_nil, List.cons_append, List.nil_append, List.replicate_succ, List.replicate_zero, List.length_cons, List.length_nil, List.length_map, if_true, if_false, Bool.true_and, Bool.and_true, Bool.false_and, Bool.and_false, Bool.not_true, Bool.not_false, Bool.or_true, Bool.true_or, Bool.false_or, Bool.or_false, Bool.false_eq_true, reduceIte, reduceCtorEq, true_and, and_true, Option.some.injEq, Nat.reduceAdd, Nat.reduceLeDiff, Int.reduceLE, Int.reduceLT, Int.cast_ofNat_Int, Int.reduceBEq, Int.reduceToNat])
def w_rest : WS := (wSeq (wAsg (wCallB 1 w_law_take (wCons (wOp oShl (wC (.int 1)) (wOp oMul (wVar 4) (wVar 5))) wNil)) (wName 2))
 (wSeq (wFor (wRng1 (wOp oShl (wC (.int 1)) (wOp oMul (wVar 4) (wVar 5)))) (wName 3)
 (wSeq (wAsg (wOp oMod (wOp oAdd (wVar 2) (wVar 3)) (wOp oShl (wC (.int 1)) (wOp oMul (wVar 4) (wVar 5)))) (wName 6))
 (wSeq (wAsg (wLc (wRng1 (wVar 4)) (wName 8) wYes (wLc (wRng1 (wVar 5)) (wName 9) wYes (wOp oAnd (wOp oShr (wVar 6) (wOp oAdd (wOp oMul (wVar 8) (wVar 5)) (wVar 9))) (wC (.int 1))) [9]) [8]) (wName 7))
 (wIfS (wNot (wTest (wCall w_law_table_right (wCons (wVar 7) wNil))))
 (wRet (wSh (wC (.bool false))))
 wSkip))))
 (wRet (wSh (wC (.bool true))))))
def w_law : WS := (wSeq (wAsg (wOp oIx (wLst (wCons (wTup (wCons (wC (.int 3)) (wCons (wC (.int 3)) wNil))) (wCons (wTup (wCons (wC (.int 2)) (wCons (wC (.int 4)) wNil))) (wCons (wTup (wCons (wC (.int 4)) (wCons (wC (.int 2)) wNil))) (wCons (wTup (wCons (wC (.int 1)) (wCons (wC (.int 3)) wNil))) (wCons (wTup (wCons (wC (.int 3)) (wCons (wC (.int 2)) wNil))) (wCons (wTup (wCons (wC (.int 2)) (wCons (wC (.int 3)) wNil))) wNil))))))) (wCallB 1 w_law_take (wCons (wC (.int 6)) wNil))) (wGTup 2 (wGCons (wName 4) (wGCons (wName 5) wGNil)))) w_rest)
theorem rest_spec {n m : Nat} (h1 : 1 ≤ n) (h2 : n ≤ 4) (h3 : 1 ≤ m) (h4 : m ≤ 4) (h5 : n * m ≤ 9) : w_rest (EW.fn fun t _ => t.data = .bool true) [.no, .box, .no, .no, .is (.sh (.int (n : Nat))), .is (.sh (.int (m : Nat))), .no, .no, .no, .no] 1 := by
  unfold w_rest
  sizeOf_list_dec
  have eW : (1 * 2 ^ ((n : Int) * (m : Int)).toNat : Int) = ((2 ^ (n * m) : Nat) : Int) := by
    rw [Int.one_mul, show ((n : Int) * (m : Int)).toNat = n * m from by rw [← Int.natCast_mul]; rfl, Int.natCast_pow]
    rfl
  have hW : 2 ^ (n * m) ≤ 512 := Nat.pow_le_pow_right (by decide) h5
  have hW1 : 1 ≤ 2 ^ (n * m) := Nat.one_le_two_pow
  rw [eW]
  have cm : CMul (n : Int) (m : Int) := .inl ⟨by omega, by omega⟩
  have cp : CPow 1 ((n : Int) * (m : Int)) := ⟨by rw [← Int.natCast_mul]; omega, by rw [← Int.natCast_mul]; omega, by decide⟩
  generalize 2 ^ (n * m) = W at eW hW hW1
  refine ⟨cm, cp, ⟨by omega, by omega⟩, fun k hk => ?_⟩
  refine for_r1 (n := W) (fun _ ε M' => 2 = M' ∧ ∃ a3 a6 a7, ε = [.no, .box, .is (.sh (.int (k : Nat))), a3, .is (.sh (.int (n : Nat))), .is (.sh (.int (m : Nat))), a6, a7, .no, .no]) (fun R h => by
    sizeOf_list_dec
    refine ⟨cm, cp, ?_⟩
    rw [eW]
    exact h) (by omega) ⟨rfl, _, _, _, rfl⟩ (fun t ε M' ht hI => ?_) fun ε M' hI => ?_
  · obtain ⟨rfl, a3, a6, a7, rfl⟩ := hI
    sizeOf_list_dec
    rw [eW]
    generalize ((k : Int) + (t : Int)) % (W : Int) = q
    refine ⟨cm, cp, by omega, ?_⟩
    let val : Nat → Nat → Int := fun i j => Builtin.bitAnd (q / 2 ^ ((i : Int) * (m : Int) + (j : Int)).toNat) 1
    refine lc_m (List.range n) (fun k => PyData.int (k : Int)) (fun i => rowD true ((List.range m).map (val i))) (gv_r1 (n := n) (fun R h => by sizeOf_list_dec; exact h) (by omega)) (by rw [List.length_range]; omega) (fun i A hi hA => ?_) ?_
    · have hin := List.mem_range.mp hi
      refine lc_m (List.range m) (fun k => PyData.int (k : Int)) (fun j => PyData.int (val i j)) (gv_r1 (n := m) (fun R h => by sizeOf_list_dec; exact h) (by omega)) (by rw [List.length_range]; omega) (fun j A hj hA => ?_) ?_
      · sizeOf_list_dec
        refine ⟨.inl ⟨by omega, by omega⟩, by rw [← Int.natCast_mul]; omega, hA⟩
      · rw [show (List.range m).map (fun j => PyData.int (val i j)) = ((List.range m).map (val i)).map PyData.int by rw [List.map_map]; rfl]
        exact hA
    · have et : PyData.list ((List.range n).map fun i => rowD true ((List.range m).map (val i))) = tabD true true ((List.range n).map fun i => (List.range m).map (val i)) := by
        unfold tabD
        rw [List.map_map]
        rfl
      rw [et]
      have hT : Tb n m ((List.range n).map fun i => (List.range m).map (val i)) := ⟨by rw [List.length_map, List.length_range], fun r hr => by
        obtain ⟨i, _, rfl⟩ := List.mem_map.mp hr
        rw [List.length_map, List.length_range], h1, by omega, by omega⟩
      refine law_table_right_spec hT h2 ?_
      sizeOf_list_dec
      exact ⟨_, _, _, rfl⟩
  · obtain ⟨rfl, a3, a6, a7, rfl⟩ := hI
    sizeOf_list_dec
theorem law_spec : w_law (EW.fn fun t _ => t.data = .bool true) [.no, .box, .no, .no, .no, .no, .no, .no, .no, .no] 0 := by
  unfold w_law
  sizeOf_list_dec
  intro k hk
  rcases (by omega : k = 0 ∨ k = 1 ∨ k = 2 ∨ k = 3 ∨ k = 4 ∨ k = 5) with rfl | rfl | rfl | rfl | rfl | rfl
  · exact ⟨_, atI_nat rfl, rfl, rfl, rest_spec (n := 3) (m := 3) (by decide) (by decide) (by decide) (by decide) (by decide)⟩
  · exact ⟨_, atI_nat rfl, rfl, rfl, rest_spec (n := 2) (m := 4) (by decide) (by decide) (by decide) (by decide) (by decide)⟩
  · exact ⟨_, atI_nat rfl, rfl, rfl, rest_spec (n := 4) (m := 2) (by decide) (by decide) (by decide) (by decide) (by decide)⟩
  · exact ⟨_, atI_nat rfl, rfl, rfl, rest_spec (n := 1) (m := 3) (by decide) (by decide) (by decide) (by decide) (by decide)⟩
  · exact ⟨_, atI_nat rfl, rfl, rfl, rest_spec (n := 3) (m := 2) (by decide) (by decide) (by decide) (by decide) (by decide)⟩
  · exact ⟨_, atI_nat rfl, rfl, rfl, rest_spec (n := 2) (m := 3) (by decide) (by decide) (by decide) (by decide) (by decide)⟩
end K83

set_option Elab.async false
set_option linter.all false
set_option maxRecDepth 100000
set_option maxHeartbeats 1000000
namespace K83
open PySem PySem.Spec PyProof.Rows L2 Evl Cg
section
variable {P : Program} {w : World} {K : PySem.W.Frag} {mg : Str → Option Value} {base : Heap}
theorem ok_law {f : Addr} {fd : FuncData} (F : Fun K "law" "law" st_law f fd) (B : Bm mg) {f1 : Addr} {fd1 : FuncData} (d_law_folded : Df P w K mg base 1 "_law_folded" st_law_folded ["_law_script", "_law_size"] f1 fd1 (spFold K)) {f2 : Addr} {fd2 : FuncData} (d_law_box : Df P w K mg base 1 "_law_box" st_law_box ["_law_script", "_law_k"] f2 fd2 (spBox K)) {f_law_table_right : Addr} {fd_law_table_right : FuncData} (d_law_table_right : Df P w K mg base 7 "_law_table_right" st_law_table_right ["_law_table"] f_law_table_right fd_law_table_right (spW false 1 w_law_table_right)) {f_law_take : Addr} {fd_law_take : FuncData} (d_law_take : Df P w K mg base 1 "_law_take" st_law_take ["_law_box_here", "_law_size"] f_law_take fd_law_take (spW true 1 w_law_take)) : FnG P w K mg base 8 f fd ["_law_script"] (spLaw K) := by
  refine fnG F sc_law (fun vs H Q E h => ?_) (fun cv A outer s H vs Q E hg hr h => ?_)
  · obtain ⟨a, ns, rfl, _⟩ := h
    rfl
  · obtain ⟨a, ns, rfl, hS, hl, q⟩ := h
    refine ⟨_, (pss_cons (ps_set (i := 1) sc_law.nd rfl (.inl rfl) (pe_call d_law_box.G (hr.mono (by omega)) (by rfl) d_law_box.g d_law_box.F.kp d_law_box.b .nil pass0 (pa_cons (pe_call d_law_folded.G (hr.mono (by omega)) (by rfl) d_law_folded.g d_law_folded.F.kp d_law_folded.b .nil pass0 (pa_cons (pv 0) (pa_cons pe_int pa_nil))) (pa_cons pe_int pa_nil))))
 (pss_cons (ps_asg (pe_ix (ixSK K) (pe_lst (pa_cons (pe_tup (pa_cons pe_int (pa_cons pe_int pa_nil))) (pa_cons (pe_tup (pa_cons pe_int (pa_cons pe_int pa_nil))) (pa_cons (pe_tup (pa_cons pe_int (pa_cons pe_int pa_nil))) (pa_cons (pe_tup (pa_cons pe_int (pa_cons pe_int pa_nil))) (pa_cons (pe_tup (pa_cons pe_int (pa_cons pe_int pa_nil))) (pa_cons (pe_tup (pa_cons pe_int (pa_cons pe_int pa_nil))) pa_nil))))))) (pe_call d_law_take.G (hr.mono (by omega)) (by rfl) d_law_take.g d_law_take.F.kp d_law_take.b .nil pass0 (pa_cons (pv 1) (pa_cons pe_int pa_nil))) (fun _ _ => rfl)) (pg_tupK K (n := 2) rfl (pgs_cons (pg_name (i := 4) sc_law.nd rfl (.inl rfl)) (pgs_cons (pg_name (i := 5) sc_law.nd rfl (.inr rfl)) pgs_nil))))
 (pss_cons (ps_set (i := 2) sc_law.nd rfl (.inl rfl) (pe_call d_law_take.G (hr.mono (by omega)) (by rfl) d_law_take.g d_law_take.F.kp d_law_take.b .nil pass0 (pa_cons (pv 1) (pa_cons (pe_op op_shl pe_int (pe_op op_mulU (pv 4) (pv 5))) pa_nil))))
 (pss_cons (ps_for PassesOwn.never rfl (pi_range1 (by rfl) B.range (pa_cons (pe_op op_shl pe_int (pe_op op_mulU (pv 4) (pv 5))) pa_nil)) (pg_name (i := 3) sc_law.nd rfl (.inl rfl))
 (pss_cons (ps_set (i := 6) sc_law.nd rfl (.inr rfl) (pe_op op_mod (pe_op op_addU (pv 2) (pv 3)) (pe_op op_shl pe_int (pe_op op_mulU (pv 4) (pv 5)))))
 (pss_cons (ps_setLc (i := 7) (own := [("_law_i", 8)]) rfl sc_law.nd rfl rfl (sw_true rfl rfl rfl (by decide +kernel)) (pi_range1 (by rfl) B.range (pa_cons (pv 4) pa_nil)) (blkOk_by (own := [("_law_i", 8)]) (by kernel_rfl)) (fun _ _ _ _ _ => (pg_name (i := 8) sc_law.nd rfl (by first | exact Or.inl rfl | exact Or.inr rfl))) (fun _ _ _ _ _ => pts_nil) (fun _ _ _ _ _ => (pe_lc (own := [("_law_j", 9)]) rfl sc_law.nd (pi_range1 (by rfl) B.range (pa_cons (pv 5) pa_nil)) (blkOk_by (own := [("_law_j", 9)]) (by kernel_rfl)) (fun _ _ _ _ _ => (pg_name (i := 9) sc_law.nd rfl (.inl rfl))) (fun _ _ _ _ _ => pts_nil) (fun _ _ _ _ _ => (pe_op op_and (pe_op op_shr (pv 6) (pe_op op_addU (pe_op op_mulU (pv 8) (pv 5)) (pv 9))) pe_int)))))
 (pss_one (ps_if (pt_not (pt_val (pe_call d_law_table_right.G (hr.mono (by omega)) (by rfl) d_law_table_right.g d_law_table_right.F.kp d_law_table_right.b .nil pass0 (pa_cons (pv 7) pa_nil))))
 (pss_one (ps_ret pe_bl))
 pss_nil)))))
 (pss_one (ps_ret pe_bl)))))), ?_⟩
    refine ⟨.ref a, rfl, a, ns, 1, rfl, hS, by decide, by decide, by omega, fun l ms H1 e1 nl hl1 hlen => ?_⟩
    refine ⟨l, ms, 0, rfl, SqL.of hl1, by decide, fun bx H2 e2 nb hB => ?_⟩
    exact run_box ((sim_seq (sim_asg (sim_op od_ix (sim_lst (sim_cons (sim_tup (sim_cons sim_int (sim_cons sim_int sim_nil))) (sim_cons (sim_tup (sim_cons sim_int (sim_cons sim_int sim_nil))) (sim_cons (sim_tup (sim_cons sim_int (sim_cons sim_int sim_nil))) (sim_cons (sim_tup (sim_cons sim_int (sim_cons sim_int sim_nil))) (sim_cons (sim_tup (sim_cons sim_int (sim_cons sim_int sim_nil))) (sim_cons (sim_tup (sim_cons sim_int (sim_cons sim_int sim_nil))) sim_nil))))))) (sim_callB w_law_take_len (sim_cons sim_int sim_nil))) (sim_gtup (sim_gcons (sim_name (vs := [4, 5]) (by decide)) (sim_gcons (sim_name (vs := [4, 5]) (by decide)) sim_gnil))))
 (sim_seq (sim_asg (sim_callB w_law_take_len (sim_cons (sim_op od_shl sim_int (sim_op od_mul sim_var sim_var)) sim_nil)) (sim_name (vs := [2]) (by decide)))
 (sim_seq (sim_for (sim_r1 (sim_op od_shl sim_int (sim_op od_mul sim_var sim_var))) (sim_name (vs := [3]) (by decide))
 (sim_seq (sim_asg (sim_op od_mod (sim_op od_add sim_var sim_var) (sim_op od_shl sim_int (sim_op od_mul sim_var sim_var))) (sim_name (vs := [6]) (by decide)))
 (sim_seq (sim_asg (sim_lc (sim_r1 sim_var) (sim_name (vs := [8]) (by decide)) sim_yes (sim_lc (sim_r1 sim_var) (sim_name (vs := [9]) (by decide)) sim_yes (sim_op od_and (sim_op od_shr sim_var (sim_op od_add (sim_op od_mul sim_var sim_var) sim_var)) sim_int))) (sim_name (vs := [7]) (by decide)))
 (sim_ifS (sim_not (sim_tB (sim_call w_law_table_right_len (sim_cons sim_var sim_nil))))
 (sim_ret (sim_sh sim_bl))
 sim_skip))))
 (sim_ret (sim_sh sim_bl)))))) hB (.no (.box rfl (.no (.no (.no (.no (.no (.no (.no (.no .nil)))))))))) law_spec (fun H' => q H')
end
theorem all_mk {l : PySem.W.OpenLaw} {w : World} {K : PySem.W.Frag} {h : Heap} {mg : Str → Option Value} {fa : Addr} (X : K.In h) (G : h.Ns mainGlobals mg) (hfa : mg "law" = some (.ref fa))
    {f0 : Addr} {od0 an0 : Option Addr} {sl0 : Array (Option Value)} {oc0 kV0 dc0 pm0 cd0 ct0 : Value}
    {f1 : Addr} {od1 an1 : Option Addr} {sl1 : Array (Option Value)} {oc1 kV1 dc1 pm1 cd1 ct1 : Value}
    {f2 : Addr} {od2 an2 : Option Addr} {sl2 : Array (Option Value)} {oc2 kV2 dc2 pm2 cd2 ct2 : Value}
    {f3 : Addr} {od3 an3 : Option Addr} {sl3 : Array (Option Value)} {oc3 kV3 dc3 pm3 cd3 ct3 : Value}
    {f4 : Addr} {od4 an4 : Option Addr} {sl4 : Array (Option Value)} {oc4 kV4 dc4 pm4 cd4 ct4 : Value}
    {f5 : Addr} {od5 an5 : Option Addr} {sl5 : Array (Option Value)} {oc5 kV5 dc5 pm5 cd5 ct5 : Value}
    {f6 : Addr} {od6 an6 : Option Addr} {sl6 : Array (Option Value)} {oc6 kV6 dc6 pm6 cd6 ct6 : Value}
    {f7 : Addr} {od7 an7 : Option Addr} {sl7 : Array (Option Value)} {oc7 kV7 dc7 pm7 cd7 ct7 : Value}
    {f8 : Addr} {od8 an8 : Option Addr} {sl8 : Array (Option Value)} {oc8 kV8 dc8 pm8 cd8 ct8 : Value}
    {f9 : Addr} {od9 an9 : Option Addr} {sl9 : Array (Option Value)} {oc9 kV9 dc9 pm9 cd9 ct9 : Value}
    {f10 : Addr} {od10 an10 : Option Addr} {sl10 : Array (Option Value)} {oc10 kV10 dc10 pm10 cd10 ct10 : Value}
    {f11 : Addr} {od11 an11 : Option Addr} {sl11 : Array (Option Value)} {oc11 kV11 dc11 pm11 cd11 ct11 : Value}
    {f12 : Addr} {od12 an12 : Option Addr} {sl12 : Array (Option Value)} {oc12 kV12 dc12 pm12 cd12 ct12 : Value}
    {f13 : Addr} {od13 an13 : Option Addr} {sl13 : Array (Option Value)} {oc13 kV13 dc13 pm13 cd13 ct13 : Value}
    {f14 : Addr} {od14 an14 : Option Addr} {sl14 : Array (Option Value)} {oc14 kV14 dc14 pm14 cd14 ct14 : Value}
    {f15 : Addr} {od15 an15 : Option Addr} {sl15 : Array (Option Value)} {oc15 kV15 dc15 pm15 cd15 ct15 : Value}
    {f16 : Addr} {od16 an16 : Option Addr} {sl16 : Array (Option Value)} {oc16 kV16 dc16 pm16 cd16 ct16 : Value}
    {f17 : Addr} {od17 an17 : Option Addr} {sl17 : Array (Option Value)} {oc17 kV17 dc17 pm17 cd17 ct17 : Value}
    {f18 : Addr} {od18 an18 : Option Addr} {sl18 : Array (Option Value)} {oc18 kV18 dc18 pm18 cd18 ct18 : Value}
    {f19 : Addr} {od19 an19 : Option Addr} {sl19 : Array (Option Value)} {oc19 kV19 dc19 pm19 cd19 ct19 : Value}
    {f20 : Addr} {od20 an20 : Option Addr} {sl20 : Array (Option Value)} {oc20 kV20 dc20 pm20 cd20 ct20 : Value}
    {f21 : Addr} {od21 an21 : Option Addr} {sl21 : Array (Option Value)} {oc21 kV21 dc21 pm21 cd21 ct21 : Value}
    {f22 : Addr} {od22 an22 : Option Addr} {sl22 : Array (Option Value)} {oc22 kV22 dc22 pm22 cd22 ct22 : Value}
    {f23 : Addr} {od23 an23 : Option Addr} {sl23 : Array (Option Value)} {oc23 kV23 dc23 pm23 cd23 ct23 : Value}
    {f24 : Addr} {od24 an24 : Option Addr} {sl24 : Array (Option Value)} {oc24 kV24 dc24 pm24 cd24 ct24 : Value}
    {f25 : Addr} {od25 an25 : Option Addr} {sl25 : Array (Option Value)} {oc25 kV25 dc25 pm25 cd25 ct25 : Value}
    {f26 : Addr} {od26 an26 : Option Addr} {sl26 : Array (Option Value)} {oc26 kV26 dc26 pm26 cd26 ct26 : Value}
    {f27 : Addr} {od27 an27 : Option Addr} {sl27 : Array (Option Value)} {oc27 kV27 dc27 pm27 cd27 ct27 : Value}
    {f28 : Addr} {od28 an28 : Option Addr} {sl28 : Array (Option Value)} {oc28 kV28 dc28 pm28 cd28 ct28 : Value}
    {f29 : Addr} {od29 an29 : Option Addr} {sl29 : Array (Option Value)} {oc29 kV29 dc29 pm29 cd29 ct29 : Value}
    {f30 : Addr} {od30 an30 : Option Addr} {sl30 : Array (Option Value)} {oc30 kV30 dc30 pm30 cd30 ct30 : Value}
    {f31 : Addr} {od31 an31 : Option Addr} {sl31 : Array (Option Value)} {oc31 kV31 dc31 pm31 cd31 ct31 : Value}
    {f32 : Addr} {od32 an32 : Option Addr} {sl32 : Array (Option Value)} {oc32 kV32 dc32 pm32 cd32 ct32 : Value}
    {f33 : Addr} {od33 an33 : Option Addr} {sl33 : Array (Option Value)} {oc33 kV33 dc33 pm33 cd33 ct33 : Value}
    (a0 : PySem.W.nsIn K mainGlobals "is_number" = some (some (.ref f0))) (l0 : K.lookup f0 = some ⟨oc0, od0, .func (PySem.W.fnOf "is_number" "is_number" (defArgs st_is_number) (defBody st_is_number) (defScope st_is_number) .none kV0 dc0 pm0 an0 cd0 ct0), sl0⟩) (c0 : PySem.W.codeIn K cd0 "is_number" = true) (k0 : PySem.W.keepIn K (.ref f0) = true)
    (a1 : PySem.W.nsIn K mainGlobals "is_between" = some (some (.ref f1))) (l1 : K.lookup f1 = some ⟨oc1, od1, .func (PySem.W.fnOf "is_between" "is_between" (defArgs st_is_between) (defBody st_is_between) (defScope st_is_between) .none kV1 dc1 pm1 an1 cd1 ct1), sl1⟩) (c1 : PySem.W.codeIn K cd1 "is_between" = true) (k1 : PySem.W.keepIn K (.ref f1) = true)
    (a2 : PySem.W.nsIn K mainGlobals "is_place" = some (some (.ref f2))) (l2 : K.lookup f2 = some ⟨oc2, od2, .func (PySem.W.fnOf "is_place" "is_place" (defArgs st_is_place) (defBody st_is_place) (defScope st_is_place) .none kV2 dc2 pm2 an2 cd2 ct2), sl2⟩) (c2 : PySem.W.codeIn K cd2 "is_place" = true) (k2 : PySem.W.keepIn K (.ref f2) = true)
    (a3 : PySem.W.nsIn K mainGlobals "is_rising" = some (some (.ref f3))) (l3 : K.lookup f3 = some ⟨oc3, od3, .func (PySem.W.fnOf "is_rising" "is_rising" (defArgs st_is_rising) (defBody st_is_rising) (defScope st_is_rising) .none kV3 dc3 pm3 an3 cd3 ct3), sl3⟩) (c3 : PySem.W.codeIn K cd3 "is_rising" = true) (k3 : PySem.W.keepIn K (.ref f3) = true)
    (a4 : PySem.W.nsIn K mainGlobals "outlets_in" = some (some (.ref f4))) (l4 : K.lookup f4 = some ⟨oc4, od4, .func (PySem.W.fnOf "outlets_in" "outlets_in" (defArgs st_outlets_in) (defBody st_outlets_in) (defScope st_outlets_in) .none kV4 dc4 pm4 an4 cd4 ct4), sl4⟩) (c4 : PySem.W.codeIn K cd4 "outlets_in" = true) (k4 : PySem.W.keepIn K (.ref f4) = true)
    (a5 : PySem.W.nsIn K mainGlobals "asks_of" = some (some (.ref f5))) (l5 : K.lookup f5 = some ⟨oc5, od5, .func (PySem.W.fnOf "asks_of" "asks_of" (defArgs st_asks_of) (defBody st_asks_of) (defScope st_asks_of) .none kV5 dc5 pm5 an5 cd5 ct5), sl5⟩) (c5 : PySem.W.codeIn K cd5 "asks_of" = true) (k5 : PySem.W.keepIn K (.ref f5) = true)
    (a6 : PySem.W.nsIn K mainGlobals "left_out" = some (some (.ref f6))) (l6 : K.lookup f6 = some ⟨oc6, od6, .func (PySem.W.fnOf "left_out" "left_out" (defArgs st_left_out) (defBody st_left_out) (defScope st_left_out) .none kV6 dc6 pm6 an6 cd6 ct6), sl6⟩) (c6 : PySem.W.codeIn K cd6 "left_out" = true) (k6 : PySem.W.keepIn K (.ref f6) = true)
    (a7 : PySem.W.nsIn K mainGlobals "is_ask" = some (some (.ref f7))) (l7 : K.lookup f7 = some ⟨oc7, od7, .func (PySem.W.fnOf "is_ask" "is_ask" (defArgs st_is_ask) (defBody st_is_ask) (defScope st_is_ask) .none kV7 dc7 pm7 an7 cd7 ct7), sl7⟩) (c7 : PySem.W.codeIn K cd7 "is_ask" = true) (k7 : PySem.W.keepIn K (.ref f7) = true)
    (a8 : PySem.W.nsIn K mainGlobals "are_pairs" = some (some (.ref f8))) (l8 : K.lookup f8 = some ⟨oc8, od8, .func (PySem.W.fnOf "are_pairs" "are_pairs" (defArgs st_are_pairs) (defBody st_are_pairs) (defScope st_are_pairs) .none kV8 dc8 pm8 an8 cd8 ct8), sl8⟩) (c8 : PySem.W.codeIn K cd8 "are_pairs" = true) (k8 : PySem.W.keepIn K (.ref f8) = true)
    (a9 : PySem.W.nsIn K mainGlobals "inlets_of" = some (some (.ref f9))) (l9 : K.lookup f9 = some ⟨oc9, od9, .func (PySem.W.fnOf "inlets_of" "inlets_of" (defArgs st_inlets_of) (defBody st_inlets_of) (defScope st_inlets_of) .none kV9 dc9 pm9 an9 cd9 ct9), sl9⟩) (c9 : PySem.W.codeIn K cd9 "inlets_of" = true) (k9 : PySem.W.keepIn K (.ref f9) = true)
    (a10 : PySem.W.nsIn K mainGlobals "outlets_of" = some (some (.ref f10))) (l10 : K.lookup f10 = some ⟨oc10, od10, .func (PySem.W.fnOf "outlets_of" "outlets_of" (defArgs st_outlets_of) (defBody st_outlets_of) (defScope st_outlets_of) .none kV10 dc10 pm10 an10 cd10 ct10), sl10⟩) (c10 : PySem.W.codeIn K cd10 "outlets_of" = true) (k10 : PySem.W.keepIn K (.ref f10) = true)
    (a11 : PySem.W.nsIn K mainGlobals "asks_left" = some (some (.ref f11))) (l11 : K.lookup f11 = some ⟨oc11, od11, .func (PySem.W.fnOf "asks_left" "asks_left" (defArgs st_asks_left) (defBody st_asks_left) (defScope st_asks_left) .none kV11 dc11 pm11 an11 cd11 ct11), sl11⟩) (c11 : PySem.W.codeIn K cd11 "asks_left" = true) (k11 : PySem.W.keepIn K (.ref f11) = true)
    (a12 : PySem.W.nsIn K mainGlobals "free_ask" = some (some (.ref f12))) (l12 : K.lookup f12 = some ⟨oc12, od12, .func (PySem.W.fnOf "free_ask" "free_ask" (defArgs st_free_ask) (defBody st_free_ask) (defScope st_free_ask) .none kV12 dc12 pm12 an12 cd12 ct12), sl12⟩) (c12 : PySem.W.codeIn K cd12 "free_ask" = true) (k12 : PySem.W.keepIn K (.ref f12) = true)
    (a13 : PySem.W.nsIn K mainGlobals "first_pairs" = some (some (.ref f13))) (l13 : K.lookup f13 = some ⟨oc13, od13, .func (PySem.W.fnOf "first_pairs" "first_pairs" (defArgs st_first_pairs) (defBody st_first_pairs) (defScope st_first_pairs) .none kV13 dc13 pm13 an13 cd13 ct13), sl13⟩) (c13 : PySem.W.codeIn K cd13 "first_pairs" = true) (k13 : PySem.W.keepIn K (.ref f13) = true)
    (a14 : PySem.W.nsIn K mainGlobals "free_inlets" = some (some (.ref f14))) (l14 : K.lookup f14 = some ⟨oc14, od14, .func (PySem.W.fnOf "free_inlets" "free_inlets" (defArgs st_free_inlets) (defBody st_free_inlets) (defScope st_free_inlets) .none kV14 dc14 pm14 an14 cd14 ct14), sl14⟩) (c14 : PySem.W.codeIn K cd14 "free_inlets" = true) (k14 : PySem.W.keepIn K (.ref f14) = true)
    (a15 : PySem.W.nsIn K mainGlobals "reached_by" = some (some (.ref f15))) (l15 : K.lookup f15 = some ⟨oc15, od15, .func (PySem.W.fnOf "reached_by" "reached_by" (defArgs st_reached_by) (defBody st_reached_by) (defScope st_reached_by) .none kV15 dc15 pm15 an15 cd15 ct15), sl15⟩) (c15 : PySem.W.codeIn K cd15 "reached_by" = true) (k15 : PySem.W.keepIn K (.ref f15) = true)
    (a16 : PySem.W.nsIn K mainGlobals "taken_over" = some (some (.ref f16))) (l16 : K.lookup f16 = some ⟨oc16, od16, .func (PySem.W.fnOf "taken_over" "taken_over" (defArgs st_taken_over) (defBody st_taken_over) (defScope st_taken_over) .none kV16 dc16 pm16 an16 cd16 ct16), sl16⟩) (c16 : PySem.W.codeIn K cd16 "taken_over" = true) (k16 : PySem.W.keepIn K (.ref f16) = true)
    (a17 : PySem.W.nsIn K mainGlobals "grown" = some (some (.ref f17))) (l17 : K.lookup f17 = some ⟨oc17, od17, .func (PySem.W.fnOf "grown" "grown" (defArgs st_grown) (defBody st_grown) (defScope st_grown) .none kV17 dc17 pm17 an17 cd17 ct17), sl17⟩) (c17 : PySem.W.codeIn K cd17 "grown" = true) (k17 : PySem.W.keepIn K (.ref f17) = true)
    (a18 : PySem.W.nsIn K mainGlobals "most_pairs" = some (some (.ref f18))) (l18 : K.lookup f18 = some ⟨oc18, od18, .func (PySem.W.fnOf "most_pairs" "most_pairs" (defArgs st_most_pairs) (defBody st_most_pairs) (defScope st_most_pairs) .none kV18 dc18 pm18 an18 cd18 ct18), sl18⟩) (c18 : PySem.W.codeIn K cd18 "most_pairs" = true) (k18 : PySem.W.keepIn K (.ref f18) = true)
    (a19 : PySem.W.nsIn K mainGlobals "cover_of" = some (some (.ref f19))) (l19 : K.lookup f19 = some ⟨oc19, od19, .func (PySem.W.fnOf "cover_of" "cover_of" (defArgs st_cover_of) (defBody st_cover_of) (defScope st_cover_of) .none kV19 dc19 pm19 an19 cd19 ct19), sl19⟩) (c19 : PySem.W.codeIn K cd19 "cover_of" = true) (k19 : PySem.W.keepIn K (.ref f19) = true)
    (a20 : PySem.W.nsIn K mainGlobals "are_places" = some (some (.ref f20))) (l20 : K.lookup f20 = some ⟨oc20, od20, .func (PySem.W.fnOf "are_places" "are_places" (defArgs st_are_places) (defBody st_are_places) (defScope st_are_places) .none kV20 dc20 pm20 an20 cd20 ct20), sl20⟩) (c20 : PySem.W.codeIn K cd20 "are_places" = true) (k20 : PySem.W.keepIn K (.ref f20) = true)
    (a21 : PySem.W.nsIn K mainGlobals "is_cover" = some (some (.ref f21))) (l21 : K.lookup f21 = some ⟨oc21, od21, .func (PySem.W.fnOf "is_cover" "is_cover" (defArgs st_is_cover) (defBody st_is_cover) (defScope st_is_cover) .none kV21 dc21 pm21 an21 cd21 ct21), sl21⟩) (c21 : PySem.W.codeIn K cd21 "is_cover" = true) (k21 : PySem.W.keepIn K (.ref f21) = true)
    (a22 : PySem.W.nsIn K mainGlobals "shows_most" = some (some (.ref f22))) (l22 : K.lookup f22 = some ⟨oc22, od22, .func (PySem.W.fnOf "shows_most" "shows_most" (defArgs st_shows_most) (defBody st_shows_most) (defScope st_shows_most) .none kV22 dc22 pm22 an22 cd22 ct22), sl22⟩) (c22 : PySem.W.codeIn K cd22 "shows_most" = true) (k22 : PySem.W.keepIn K (.ref f22) = true)
    (a23 : PySem.W.nsIn K mainGlobals "_law_box" = some (some (.ref f23))) (l23 : K.lookup f23 = some ⟨oc23, od23, .func (PySem.W.fnOf "_law_box" "_law_box" (defArgs st_law_box) (defBody st_law_box) (defScope st_law_box) .none kV23 dc23 pm23 an23 cd23 ct23), sl23⟩) (c23 : PySem.W.codeIn K cd23 "_law_box" = true) (k23 : PySem.W.keepIn K (.ref f23) = true)
    (a24 : PySem.W.nsIn K mainGlobals "_law_take" = some (some (.ref f24))) (l24 : K.lookup f24 = some ⟨oc24, od24, .func (PySem.W.fnOf "_law_take" "_law_take" (defArgs st_law_take) (defBody st_law_take) (defScope st_law_take) .none kV24 dc24 pm24 an24 cd24 ct24), sl24⟩) (c24 : PySem.W.codeIn K cd24 "_law_take" = true) (k24 : PySem.W.keepIn K (.ref f24) = true)
    (a25 : PySem.W.nsIn K mainGlobals "_law_folded" = some (some (.ref f25))) (l25 : K.lookup f25 = some ⟨oc25, od25, .func (PySem.W.fnOf "_law_folded" "_law_folded" (defArgs st_law_folded) (defBody st_law_folded) (defScope st_law_folded) .none kV25 dc25 pm25 an25 cd25 ct25), sl25⟩) (c25 : PySem.W.codeIn K cd25 "_law_folded" = true) (k25 : PySem.W.keepIn K (.ref f25) = true)
    (a26 : PySem.W.nsIn K mainGlobals "_law_asks" = some (some (.ref f26))) (l26 : K.lookup f26 = some ⟨oc26, od26, .func (PySem.W.fnOf "_law_asks" "_law_asks" (defArgs st_law_asks) (defBody st_law_asks) (defScope st_law_asks) .none kV26 dc26 pm26 an26 cd26 ct26), sl26⟩) (c26 : PySem.W.codeIn K cd26 "_law_asks" = true) (k26 : PySem.W.keepIn K (.ref f26) = true)
    (a27 : PySem.W.nsIn K mainGlobals "_law_are_pairs" = some (some (.ref f27))) (l27 : K.lookup f27 = some ⟨oc27, od27, .func (PySem.W.fnOf "_law_are_pairs" "_law_are_pairs" (defArgs st_law_are_pairs) (defBody st_law_are_pairs) (defScope st_law_are_pairs) .none kV27 dc27 pm27 an27 cd27 ct27), sl27⟩) (c27 : PySem.W.codeIn K cd27 "_law_are_pairs" = true) (k27 : PySem.W.keepIn K (.ref f27) = true)
    (a28 : PySem.W.nsIn K mainGlobals "_law_is_place" = some (some (.ref f28))) (l28 : K.lookup f28 = some ⟨oc28, od28, .func (PySem.W.fnOf "_law_is_place" "_law_is_place" (defArgs st_law_is_place) (defBody st_law_is_place) (defScope st_law_is_place) .none kV28 dc28 pm28 an28 cd28 ct28), sl28⟩) (c28 : PySem.W.codeIn K cd28 "_law_is_place" = true) (k28 : PySem.W.keepIn K (.ref f28) = true)
    (a29 : PySem.W.nsIn K mainGlobals "_law_covers" = some (some (.ref f29))) (l29 : K.lookup f29 = some ⟨oc29, od29, .func (PySem.W.fnOf "_law_covers" "_law_covers" (defArgs st_law_covers) (defBody st_law_covers) (defScope st_law_covers) .none kV29 dc29 pm29 an29 cd29 ct29), sl29⟩) (c29 : PySem.W.codeIn K cd29 "_law_covers" = true) (k29 : PySem.W.keepIn K (.ref f29) = true)
    (a30 : PySem.W.nsIn K mainGlobals "_law_best" = some (some (.ref f30))) (l30 : K.lookup f30 = some ⟨oc30, od30, .func (PySem.W.fnOf "_law_best" "_law_best" (defArgs st_law_best) (defBody st_law_best) (defScope st_law_best) .none kV30 dc30 pm30 an30 cd30 ct30), sl30⟩) (c30 : PySem.W.codeIn K cd30 "_law_best" = true) (k30 : PySem.W.keepIn K (.ref f30) = true)
    (a31 : PySem.W.nsIn K mainGlobals "_law_grown_right" = some (some (.ref f31))) (l31 : K.lookup f31 = some ⟨oc31, od31, .func (PySem.W.fnOf "_law_grown_right" "_law_grown_right" (defArgs st_law_grown_right) (defBody st_law_grown_right) (defScope st_law_grown_right) .none kV31 dc31 pm31 an31 cd31 ct31), sl31⟩) (c31 : PySem.W.codeIn K cd31 "_law_grown_right" = true) (k31 : PySem.W.keepIn K (.ref f31) = true)
    (a32 : PySem.W.nsIn K mainGlobals "_law_table_right" = some (some (.ref f32))) (l32 : K.lookup f32 = some ⟨oc32, od32, .func (PySem.W.fnOf "_law_table_right" "_law_table_right" (defArgs st_law_table_right) (defBody st_law_table_right) (defScope st_law_table_right) .none kV32 dc32 pm32 an32 cd32 ct32), sl32⟩) (c32 : PySem.W.codeIn K cd32 "_law_table_right" = true) (k32 : PySem.W.keepIn K (.ref f32) = true)
    (a33 : PySem.W.nsIn K mainGlobals "law" = some (some (.ref f33))) (l33 : K.lookup f33 = some ⟨oc33, od33, .func (PySem.W.fnOf "law" "law" (defArgs st_law) (defBody st_law) (defScope st_law) .none kV33 dc33 pm33 an33 cd33 ct33), sl33⟩) (c33 : PySem.W.codeIn K cd33 "law" = true) (k33 : PySem.W.keepIn K (.ref f33) = true)
    (z0 : PySem.W.nsIn K mainGlobals "int" = some none)
    (z1 : PySem.W.nsIn K mainGlobals "bool" = some none)
    (z2 : PySem.W.nsIn K mainGlobals "list" = some none)
    (z3 : PySem.W.nsIn K mainGlobals "tuple" = some none)
    (z4 : PySem.W.nsIn K mainGlobals "str" = some none)
    (z5 : PySem.W.nsIn K mainGlobals "len" = some none)
    (z6 : PySem.W.nsIn K mainGlobals "all" = some none)
    (z7 : PySem.W.nsIn K mainGlobals "isinstance" = some none)
    (z8 : PySem.W.nsIn K mainGlobals "range" = some none)
    (z9 : PySem.W.nsIn K mainGlobals "enumerate" = some none)
    (z10 : PySem.W.nsIn K mainGlobals "zip" = some none)
    (z11 : PySem.W.nsIn K mainGlobals "repr" = some none)
    (z12 : PySem.W.nsIn K mainGlobals "abs" = some none)
    (z13 : PySem.W.nsIn K mainGlobals "min" = some none)
    (z14 : PySem.W.nsIn K mainGlobals "max" = some none)
    (z15 : PySem.W.nsIn K mainGlobals "divmod" = some none)
    (z16 : PySem.W.nsIn K mainGlobals "sum" = some none)
    (z17 : PySem.W.nsIn K mainGlobals "sorted" = some none)
    (z18 : PySem.W.nsIn K mainGlobals "any" = some none)
    (z19 : PySem.W.nsIn K mainGlobals "set" = some none)
    (z20 : PySem.W.nsIn K mainGlobals "reversed" = some none) :
    ∃ fd : FuncData, (∀ (s : Shared) (v : Value), BindsTo s fd ⟨[v], []⟩ [("_law_script", v)]) ∧ ∀ base : Heap, K.In base → base.Ns mainGlobals mg → FnG l.prog w K mg base 8 fa fd ["_law_script"] (spLaw K) := by
  have e := hfa.symm.trans (PySem.W.mg_of X G a33)
  cases e
  have F_is_number := fun_mk (st := st_is_number) l0 c0 k0
  have b_is_number := F_is_number.binds (ps := ["thing"]) fun _ _ _ _ _ _ us hl => match us, hl with | [_], _ => rfl
  have g_is_number := PySem.W.mg_of X G a0
  have F_is_between := fun_mk (st := st_is_between) l1 c1 k1
  have b_is_between := F_is_between.binds (ps := ["thing", "least", "most"]) fun _ _ _ _ _ _ us hl => match us, hl with | [_, _, _], _ => rfl
  have g_is_between := PySem.W.mg_of X G a1
  have F_is_place := fun_mk (st := st_is_place) l2 c2 k2
  have b_is_place := F_is_place.binds (ps := ["thing", "many"]) fun _ _ _ _ _ _ us hl => match us, hl with | [_, _], _ => rfl
  have g_is_place := PySem.W.mg_of X G a2
  have F_is_rising := fun_mk (st := st_is_rising) l3 c3 k3
  have b_is_rising := F_is_rising.binds (ps := ["numbers"]) fun _ _ _ _ _ _ us hl => match us, hl with | [_], _ => rfl
  have g_is_rising := PySem.W.mg_of X G a3
  have F_outlets_in := fun_mk (st := st_outlets_in) l4 c4 k4
  have b_outlets_in := F_outlets_in.binds (ps := ["table"]) fun _ _ _ _ _ _ us hl => match us, hl with | [_], _ => rfl
  have g_outlets_in := PySem.W.mg_of X G a4
  have F_asks_of := fun_mk (st := st_asks_of) l5 c5 k5
  have b_asks_of := F_asks_of.binds (ps := ["table"]) fun _ _ _ _ _ _ us hl => match us, hl with | [_], _ => rfl
  have g_asks_of := PySem.W.mg_of X G a5
  have F_left_out := fun_mk (st := st_left_out) l6 c6 k6
  have b_left_out := F_left_out.binds (ps := ["table", "inlets", "outlets"]) fun _ _ _ _ _ _ us hl => match us, hl with | [_, _, _], _ => rfl
  have g_left_out := PySem.W.mg_of X G a6
  have F_is_ask := fun_mk (st := st_is_ask) l7 c7 k7
  have b_is_ask := F_is_ask.binds (ps := ["table", "thing"]) fun _ _ _ _ _ _ us hl => match us, hl with | [_, _], _ => rfl
  have g_is_ask := PySem.W.mg_of X G a7
  have F_are_pairs := fun_mk (st := st_are_pairs) l8 c8 k8
  have b_are_pairs := F_are_pairs.binds (ps := ["table", "thing"]) fun _ _ _ _ _ _ us hl => match us, hl with | [_, _], _ => rfl
  have g_are_pairs := PySem.W.mg_of X G a8
  have F_inlets_of := fun_mk (st := st_inlets_of) l9 c9 k9
  have b_inlets_of := F_inlets_of.binds (ps := ["pairs"]) fun _ _ _ _ _ _ us hl => match us, hl with | [_], _ => rfl
  have g_inlets_of := PySem.W.mg_of X G a9
  have F_outlets_of := fun_mk (st := st_outlets_of) l10 c10 k10
  have b_outlets_of := F_outlets_of.binds (ps := ["pairs"]) fun _ _ _ _ _ _ us hl => match us, hl with | [_], _ => rfl
  have g_outlets_of := PySem.W.mg_of X G a10
  have F_asks_left := fun_mk (st := st_asks_left) l11 c11 k11
  have b_asks_left := F_asks_left.binds (ps := ["table", "pairs"]) fun _ _ _ _ _ _ us hl => match us, hl with | [_, _], _ => rfl
  have g_asks_left := PySem.W.mg_of X G a11
  have F_free_ask := fun_mk (st := st_free_ask) l12 c12 k12
  have b_free_ask := F_free_ask.binds (ps := ["table", "pairs"]) fun _ _ _ _ _ _ us hl => match us, hl with | [_, _], _ => rfl
  have g_free_ask := PySem.W.mg_of X G a12
  have F_first_pairs := fun_mk (st := st_first_pairs) l13 c13 k13
  have b_first_pairs := F_first_pairs.binds (ps := ["table"]) fun _ _ _ _ _ _ us hl => match us, hl with | [_], _ => rfl
  have g_first_pairs := PySem.W.mg_of X G a13
  have F_free_inlets := fun_mk (st := st_free_inlets) l14 c14 k14
  have b_free_inlets := F_free_inlets.binds (ps := ["table", "pairs"]) fun _ _ _ _ _ _ us hl => match us, hl with | [_, _], _ => rfl
  have g_free_inlets := PySem.W.mg_of X G a14
  have F_reached_by := fun_mk (st := st_reached_by) l15 c15 k15
  have b_reached_by := F_reached_by.binds (ps := ["table", "pairs"]) fun _ _ _ _ _ _ us hl => match us, hl with | [_, _], _ => rfl
  have g_reached_by := PySem.W.mg_of X G a15
  have F_taken_over := fun_mk (st := st_taken_over) l16 c16 k16
  have b_taken_over := F_taken_over.binds (ps := ["pairs", "reached", "last"]) fun _ _ _ _ _ _ us hl => match us, hl with | [_, _, _], _ => rfl
  have g_taken_over := PySem.W.mg_of X G a16
  have F_grown := fun_mk (st := st_grown) l17 c17 k17
  have b_grown := F_grown.binds (ps := ["table", "pairs"]) fun _ _ _ _ _ _ us hl => match us, hl with | [_, _], _ => rfl
  have g_grown := PySem.W.mg_of X G a17
  have F_most_pairs := fun_mk (st := st_most_pairs) l18 c18 k18
  have b_most_pairs := F_most_pairs.binds (ps := ["table"]) fun _ _ _ _ _ _ us hl => match us, hl with | [_], _ => rfl
  have g_most_pairs := PySem.W.mg_of X G a18
  have F_cover_of := fun_mk (st := st_cover_of) l19 c19 k19
  have b_cover_of := F_cover_of.binds (ps := ["table"]) fun _ _ _ _ _ _ us hl => match us, hl with | [_], _ => rfl
  have g_cover_of := PySem.W.mg_of X G a19
  have F_are_places := fun_mk (st := st_are_places) l20 c20 k20
  have b_are_places := F_are_places.binds (ps := ["thing", "many"]) fun _ _ _ _ _ _ us hl => match us, hl with | [_, _], _ => rfl
  have g_are_places := PySem.W.mg_of X G a20
  have F_is_cover := fun_mk (st := st_is_cover) l21 c21 k21
  have b_is_cover := F_is_cover.binds (ps := ["table", "thing"]) fun _ _ _ _ _ _ us hl => match us, hl with | [_, _], _ => rfl
  have g_is_cover := PySem.W.mg_of X G a21
  have F_shows_most := fun_mk (st := st_shows_most) l22 c22 k22
  have b_shows_most := F_shows_most.binds (ps := ["table", "pairs", "thing"]) fun _ _ _ _ _ _ us hl => match us, hl with | [_, _, _], _ => rfl
  have g_shows_most := PySem.W.mg_of X G a22
  have F_law_box := fun_mk (st := st_law_box) l23 c23 k23
  have b_law_box := F_law_box.binds (ps := ["_law_script", "_law_k"]) fun _ _ _ _ _ _ us hl => match us, hl with | [_, _], _ => rfl
  have g_law_box := PySem.W.mg_of X G a23
  have F_law_take := fun_mk (st := st_law_take) l24 c24 k24
  have b_law_take := F_law_take.binds (ps := ["_law_box_here", "_law_size"]) fun _ _ _ _ _ _ us hl => match us, hl with | [_, _], _ => rfl
  have g_law_take := PySem.W.mg_of X G a24
  have F_law_folded := fun_mk (st := st_law_folded) l25 c25 k25
  have b_law_folded := F_law_folded.binds (ps := ["_law_script", "_law_size"]) fun _ _ _ _ _ _ us hl => match us, hl with | [_, _], _ => rfl
  have g_law_folded := PySem.W.mg_of X G a25
  have F_law_asks := fun_mk (st := st_law_asks) l26 c26 k26
  have b_law_asks := F_law_asks.binds (ps := ["_law_table"]) fun _ _ _ _ _ _ us hl => match us, hl with | [_], _ => rfl
  have g_law_asks := PySem.W.mg_of X G a26
  have F_law_are_pairs := fun_mk (st := st_law_are_pairs) l27 c27 k27
  have b_law_are_pairs := F_law_are_pairs.binds (ps := ["_law_table", "_law_thing"]) fun _ _ _ _ _ _ us hl => match us, hl with | [_, _], _ => rfl
  have g_law_are_pairs := PySem.W.mg_of X G a27
  have F_law_is_place := fun_mk (st := st_law_is_place) l28 c28 k28
  have b_law_is_place := F_law_is_place.binds (ps := ["_law_thing", "_law_most"]) fun _ _ _ _ _ _ us hl => match us, hl with | [_, _], _ => rfl
  have g_law_is_place := PySem.W.mg_of X G a28
  have F_law_covers := fun_mk (st := st_law_covers) l29 c29 k29
  have b_law_covers := F_law_covers.binds (ps := ["_law_table", "_law_count", "_law_thing"]) fun _ _ _ _ _ _ us hl => match us, hl with | [_, _, _], _ => rfl
  have g_law_covers := PySem.W.mg_of X G a29
  have F_law_best := fun_mk (st := st_law_best) l30 c30 k30
  have b_law_best := F_law_best.binds (ps := ["_law_table", "_law_first", "_law_gone"]) fun _ _ _ _ _ _ us hl => match us, hl with | [_, _, _], _ => rfl
  have g_law_best := PySem.W.mg_of X G a30
  have F_law_grown_right := fun_mk (st := st_law_grown_right) l31 c31 k31
  have b_law_grown_right := F_law_grown_right.binds (ps := ["_law_table", "_law_pairs", "_law_most"]) fun _ _ _ _ _ _ us hl => match us, hl with | [_, _, _], _ => rfl
  have g_law_grown_right := PySem.W.mg_of X G a31
  have F_law_table_right := fun_mk (st := st_law_table_right) l32 c32 k32
  have b_law_table_right := F_law_table_right.binds (ps := ["_law_table"]) fun _ _ _ _ _ _ us hl => match us, hl with | [_], _ => rfl
  have g_law_table_right := PySem.W.mg_of X G a32
  have F_law := fun_mk (st := st_law) l33 c33 k33
  have b_law := F_law.binds (ps := ["_law_script"]) fun _ _ _ _ _ _ us hl => match us, hl with | [_], _ => rfl
  have g_law := PySem.W.mg_of X G a33
  have B : Bm mg := ⟨PySem.W.mg_none_of X G z0, PySem.W.mg_none_of X G z1, PySem.W.mg_none_of X G z2, PySem.W.mg_none_of X G z3, PySem.W.mg_none_of X G z4, PySem.W.mg_none_of X G z5, PySem.W.mg_none_of X G z6, PySem.W.mg_none_of X G z7, PySem.W.mg_none_of X G z8, PySem.W.mg_none_of X G z9, PySem.W.mg_none_of X G z10, PySem.W.mg_none_of X G z11, PySem.W.mg_none_of X G z12, PySem.W.mg_none_of X G z13, PySem.W.mg_none_of X G z14, PySem.W.mg_none_of X G z15, PySem.W.mg_none_of X G z16, PySem.W.mg_none_of X G z17, PySem.W.mg_none_of X G z18, PySem.W.mg_none_of X G z19, PySem.W.mg_none_of X G z20⟩
  refine ⟨PySem.W.fnOf "law" "law" (defArgs st_law) (defBody st_law) (defScope st_law) .none kV33 dc33 pm33 an33 cd33 ct33, fun s v => .of_eq rfl, fun base _ _ => ?_⟩
  have D_is_number : Df l.prog w K mg base 1 _ _ _ _ _ _ := ⟨F_is_number, g_is_number, b_is_number, ok_is_number (P := l.prog) (w := w) (base := base) F_is_number B ⟩
  have D_is_between : Df l.prog w K mg base 2 _ _ _ _ _ _ := ⟨F_is_between, g_is_between, b_is_between, ok_is_between (P := l.prog) (w := w) (base := base) F_is_between B D_is_number⟩
  have D_is_place : Df l.prog w K mg base 3 _ _ _ _ _ _ := ⟨F_is_place, g_is_place, b_is_place, ok_is_place (P := l.prog) (w := w) (base := base) F_is_place B D_is_between⟩
  have D_is_rising : Df l.prog w K mg base 1 _ _ _ _ _ _ := ⟨F_is_rising, g_is_rising, b_is_rising, ok_is_rising (P := l.prog) (w := w) (base := base) F_is_rising B ⟩
  have D_outlets_in : Df l.prog w K mg base 1 _ _ _ _ _ _ := ⟨F_outlets_in, g_outlets_in, b_outlets_in, ok_outlets_in (P := l.prog) (w := w) (base := base) F_outlets_in B ⟩
  have D_asks_of : Df l.prog w K mg base 1 _ _ _ _ _ _ := ⟨F_asks_of, g_asks_of, b_asks_of, ok_asks_of (P := l.prog) (w := w) (base := base) F_asks_of B ⟩
  have D_left_out : Df l.prog w K mg base 1 _ _ _ _ _ _ := ⟨F_left_out, g_left_out, b_left_out, ok_left_out (P := l.prog) (w := w) (base := base) F_left_out B ⟩
  have D_is_ask : Df l.prog w K mg base 4 _ _ _ _ _ _ := ⟨F_is_ask, g_is_ask, b_is_ask, ok_is_ask (P := l.prog) (w := w) (base := base) F_is_ask B D_is_place D_outlets_in⟩
  have D_inlets_of : Df l.prog w K mg base 1 _ _ _ _ _ _ := ⟨F_inlets_of, g_inlets_of, b_inlets_of, ok_inlets_of (P := l.prog) (w := w) (base := base) F_inlets_of B ⟩
  have D_outlets_of : Df l.prog w K mg base 1 _ _ _ _ _ _ := ⟨F_outlets_of, g_outlets_of, b_outlets_of, ok_outlets_of (P := l.prog) (w := w) (base := base) F_outlets_of B ⟩
  have D_are_pairs : Df l.prog w K mg base 5 _ _ _ _ _ _ := ⟨F_are_pairs, g_are_pairs, b_are_pairs, ok_are_pairs (P := l.prog) (w := w) (base := base) F_are_pairs B D_inlets_of D_is_ask D_is_rising D_outlets_of⟩
  have D_asks_left : Df l.prog w K mg base 2 _ _ _ _ _ _ := ⟨F_asks_left, g_asks_left, b_asks_left, ok_asks_left (P := l.prog) (w := w) (base := base) F_asks_left B D_inlets_of D_left_out D_outlets_of⟩
  have D_free_ask : Df l.prog w K mg base 3 _ _ _ _ _ _ := ⟨F_free_ask, g_free_ask, b_free_ask, ok_free_ask (P := l.prog) (w := w) (base := base) F_free_ask B D_asks_left D_asks_of⟩
  have D_first_pairs : Df l.prog w K mg base 4 _ _ _ _ _ _ := ⟨F_first_pairs, g_first_pairs, b_first_pairs, ok_first_pairs (P := l.prog) (w := w) (base := base) F_first_pairs B D_free_ask⟩
  have D_free_inlets : Df l.prog w K mg base 2 _ _ _ _ _ _ := ⟨F_free_inlets, g_free_inlets, b_free_inlets, ok_free_inlets (P := l.prog) (w := w) (base := base) F_free_inlets B D_inlets_of⟩
  have D_reached_by : Df l.prog w K mg base 3 _ _ _ _ _ _ := ⟨F_reached_by, g_reached_by, b_reached_by, ok_reached_by (P := l.prog) (w := w) (base := base) F_reached_by B D_free_inlets⟩
  have D_taken_over : Df l.prog w K mg base 1 _ _ _ _ _ _ := ⟨F_taken_over, g_taken_over, b_taken_over, ok_taken_over (P := l.prog) (w := w) (base := base) F_taken_over B ⟩
  have D_grown : Df l.prog w K mg base 4 _ _ _ _ _ _ := ⟨F_grown, g_grown, b_grown, ok_grown (P := l.prog) (w := w) (base := base) F_grown B D_outlets_of D_reached_by D_taken_over⟩
  have D_most_pairs : Df l.prog w K mg base 5 _ _ _ _ _ _ := ⟨F_most_pairs, g_most_pairs, b_most_pairs, ok_most_pairs (P := l.prog) (w := w) (base := base) F_most_pairs B D_first_pairs D_grown⟩
  have D_cover_of : Df l.prog w K mg base 6 _ _ _ _ _ _ := ⟨F_cover_of, g_cover_of, b_cover_of, ok_cover_of (P := l.prog) (w := w) (base := base) F_cover_of B D_most_pairs D_reached_by⟩
  have D_are_places : Df l.prog w K mg base 4 _ _ _ _ _ _ := ⟨F_are_places, g_are_places, b_are_places, ok_are_places (P := l.prog) (w := w) (base := base) F_are_places B D_is_place D_is_rising⟩
  have D_is_cover : Df l.prog w K mg base 5 _ _ _ _ _ _ := ⟨F_is_cover, g_is_cover, b_is_cover, ok_is_cover (P := l.prog) (w := w) (base := base) F_is_cover B D_are_places D_asks_of D_left_out D_outlets_in⟩
  have D_shows_most : Df l.prog w K mg base 6 _ _ _ _ _ _ := ⟨F_shows_most, g_shows_most, b_shows_most, ok_shows_most (P := l.prog) (w := w) (base := base) F_shows_most B D_is_cover⟩
  have D_law_box : Df l.prog w K mg base 1 _ _ _ _ _ _ := ⟨F_law_box, g_law_box, b_law_box, ok_law_box (P := l.prog) (w := w) (base := base) F_law_box B⟩
  have D_law_take : Df l.prog w K mg base 1 _ _ _ _ _ _ := ⟨F_law_take, g_law_take, b_law_take, ok_law_take (P := l.prog) (w := w) (base := base) F_law_take B⟩
  have D_law_folded : Df l.prog w K mg base 1 _ _ _ _ _ _ := ⟨F_law_folded, g_law_folded, b_law_folded, ok_law_folded (P := l.prog) (w := w) (base := base) F_law_folded B⟩
  have D_law_asks : Df l.prog w K mg base 1 _ _ _ _ _ _ := ⟨F_law_asks, g_law_asks, b_law_asks, ok_law_asks (P := l.prog) (w := w) (base := base) F_law_asks B ⟩
  have D_law_is_place : Df l.prog w K mg base 1 _ _ _ _ _ _ := ⟨F_law_is_place, g_law_is_place, b_law_is_place, ok_law_is_place (P := l.prog) (w := w) (base := base) F_law_is_place B ⟩
  have D_law_are_pairs : Df l.prog w K mg base 2 _ _ _ _ _ _ := ⟨F_law_are_pairs, g_law_are_pairs, b_law_are_pairs, ok_law_are_pairs (P := l.prog) (w := w) (base := base) F_law_are_pairs B D_law_is_place⟩
  have D_law_covers : Df l.prog w K mg base 2 _ _ _ _ _ _ := ⟨F_law_covers, g_law_covers, b_law_covers, ok_law_covers (P := l.prog) (w := w) (base := base) F_law_covers B D_law_asks D_law_is_place⟩
  have D_law_best : Df l.prog w K mg base 6 _ _ _ _ _ _ := ⟨F_law_best, g_law_best, b_law_best, ok_law_best (P := l.prog) (w := w) (base := base) F_law_best B g_law_best b_law_best ⟩
  have D_law_grown_right : Df l.prog w K mg base 6 _ _ _ _ _ _ := ⟨F_law_grown_right, g_law_grown_right, b_law_grown_right, ok_law_grown_right (P := l.prog) (w := w) (base := base) F_law_grown_right B D_law_are_pairs D_are_pairs D_grown⟩
  have D_law_table_right : Df l.prog w K mg base 7 _ _ _ _ _ _ := ⟨F_law_table_right, g_law_table_right, b_law_table_right, ok_law_table_right (P := l.prog) (w := w) (base := base) F_law_table_right B D_law_are_pairs D_law_best D_law_covers D_law_grown_right D_cover_of D_first_pairs D_free_ask D_most_pairs D_shows_most⟩
  exact ok_law F_law B D_law_folded D_law_box D_law_table_right D_law_take
end K83
open PySem PySem.W PyProof.Rows
set_option maxHeartbeats 0 in
theorem PySem.Challenge.cw_crossgrants_k83_whole_covers_of_all_smal_holds : PySem.Challenge.rw_crossgrants_k83_whole_covers_of_all_smal.Holds := by
  w_on; o_law; k_head; (case hw => w_witness2)
  k_fill
  refine Cg.walkG (l := PySem.Challenge.rw_crossgrants_k83_whole_covers_of_all_smal) (n := 63) (k := 8) (x := "_law_script") (sp := Cg.spLaw) rfl (by decide) rfl ⟨rfl, by decide, by decide⟩ (fun w h Y => PySem.W.kIn_of Y) ?F (fun K H a ns hl hS => ⟨a, ns, rfl, hS, hl, fun _ => rfl⟩)
  case F =>
    intro w mg fa h KX G hmg
    refine' K83.all_mk KX G hmg ?a0 ?l0 ?c0 ?k0 ?a1 ?l1 ?c1 ?k1 ?a2 ?l2 ?c2 ?k2 ?a3 ?l3 ?c3 ?k3 ?a4 ?l4 ?c4 ?k4 ?a5 ?l5 ?c5 ?k5 ?a6 ?l6 ?c6 ?k6 ?a7 ?l7 ?c7 ?k7 ?a8 ?l8 ?c8 ?k8 ?a9 ?l9 ?c9 ?k9 ?a10 ?l10 ?c10 ?k10 ?a11 ?l11 ?c11 ?k11 ?a12 ?l12 ?c12 ?k12 ?a13 ?l13 ?c13 ?k13 ?a14 ?l14 ?c14 ?k14 ?a15 ?l15 ?c15 ?k15 ?a16 ?l16 ?c16 ?k16 ?a17 ?l17 ?c17 ?k17 ?a18 ?l18 ?c18 ?k18 ?a19 ?l19 ?c19 ?k19 ?a20 ?l20 ?c20 ?k20 ?a21 ?l21 ?c21 ?k21 ?a22 ?l22 ?c22 ?k22 ?a23 ?l23 ?c23 ?k23 ?a24 ?l24 ?c24 ?k24 ?a25 ?l25 ?c25 ?k25 ?a26 ?l26 ?c26 ?k26 ?a27 ?l27 ?c27 ?k27 ?a28 ?l28 ?c28 ?k28 ?a29 ?l29 ?c29 ?k29 ?a30 ?l30 ?c30 ?k30 ?a31 ?l31 ?c31 ?k31 ?a32 ?l32 ?c32 ?k32 ?a33 ?l33 ?c33 ?k33 ?z0 ?z1 ?z2 ?z3 ?z4 ?z5 ?z6 ?z7 ?z8 ?z9 ?z10 ?z11 ?z12 ?z13 ?z14 ?z15 ?z16 ?z17 ?z18 ?z19 ?z20
    (case a0 => k_is); (case l0 => k_is); (case c0 => k_is); (case k0 => k_is); (case a1 => k_is); (case l1 => k_is); (case c1 => k_is); (case k1 => k_is); (case a2 => k_is); (case l2 => k_is); (case c2 => k_is); (case k2 => k_is); (case a3 => k_is); (case l3 => k_is); (case c3 => k_is); (case k3 => k_is); (case a4 => k_is); (case l4 => k_is); (case c4 => k_is); (case k4 => k_is); (case a5 => k_is); (case l5 => k_is); (case c5 => k_is); (case k5 => k_is); (case a6 => k_is); (case l6 => k_is); (case c6 => k_is); (case k6 => k_is); (case a7 => k_is); (case l7 => k_is); (case c7 => k_is); (case k7 => k_is); (case a8 => k_is); (case l8 => k_is); (case c8 => k_is); (case k8 => k_is); (case a9 => k_is); (case l9 => k_is); (case c9 => k_is); (case k9 => k_is); (case a10 => k_is); (case l10 => k_is); (case c10 => k_is); (case k10 => k_is); (case a11 => k_is); (case l11 => k_is); (case c11 => k_is); (case k11 => k_is); (case a12 => k_is); (case l12 => k_is); (case c12 => k_is); (case k12 => k_is); (case a13 => k_is); (case l13 => k_is); (case c13 => k_is); (case k13 => k_is); (case a14 => k_is); (case l14 => k_is); (case c14 => k_is); (case k14 => k_is); (case a15 => k_is); (case l15 => k_is); (case c15 => k_is); (case k15 => k_is); (case a16 => k_is); (case l16 => k_is); (case c16 => k_is); (case k16 => k_is); (case a17 => k_is); (case l17 => k_is); (case c17 => k_is); (case k17 => k_is); (case a18 => k_is); (case l18 => k_is); (case c18 => k_is); (case k18 => k_is); (case a19 => k_is); (case l19 => k_is); (case c19 => k_is); (case k19 => k_is); (case a20 => k_is); (case l20 => k_is); (case c20 => k_is); (case k20 => k_is); (case a21 => k_is); (case l21 => k_is); (case c21 => k_is); (case k21 => k_is); (case a22 => k_is); (case l22 => k_is); (case c22 => k_is); (case k22 => k_is); (case a23 => k_is); (case l23 => k_is); (case c23 => k_is); (case k23 => k_is); (case a24 => k_is); (case l24 => k_is); (case c24 => k_is); (case k24 => k_is); (case a25 => k_is); (case l25 => k_is); (case c25 => k_is); (case k25 => k_is); (case a26 => k_is); (case l26 => k_is); (case c26 => k_is); (case k26 => k_is); (case a27 => k_is); (case l27 => k_is); (case c27 => k_is); (case k27 => k_is); (case a28 => k_is); (case l28 => k_is); (case c28 => k_is); (case k28 => k_is); (case a29 => k_is); (case l29 => k_is); (case c29 => k_is); (case k29 => k_is); (case a30 => k_is); (case l30 => k_is); (case c30 => k_is); (case k30 => k_is); (case a31 => k_is); (case l31 => k_is); (case c31 => k_is); (case k31 => k_is); (case a32 => k_is); (case l32 => k_is); (case c32 => k_is); (case k32 => k_is); (case a33 => k_is); (case l33 => k_is); (case c33 => k_is); (case k33 => k_is); (case z0 => k_is); (case z1 => k_is); (case z2 => k_is); (case z3 => k_is); (case z4 => k_is); (case z5 => k_is); (case z6 => k_is); (case z7 => k_is); (case z8 => k_is); (case z9 => k_is); (case z10 => k_is); (case z11 => k_is); (case z12 => k_is); (case z13 => k_is); (case z14 => k_is); (case z15 => k_is); (case z16 => k_is); (case z17 => k_is); (case z18 => k_is); (case z19 => k_is); (case z20 => k_is)
