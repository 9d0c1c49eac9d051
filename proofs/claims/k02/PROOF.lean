import PyProof.Rows.All
import Wide.All
import OpenK.AllK
import Wide.FinOn
import HandS.ForMost
import HandS.IsInst
import HandS.Evl
import PyProof.StrLawsRepr
import KE.KDictZip
import KE.KStar
import HandS.Zip0
import HandS.Star
import KE.GoesMore
import HandS.Zip
import HandS.Conv
import PySem.Challenge.RW_crossgrants_k02_asks_turned_left_out
set_option Elab.async false
set_option linter.all false
set_option maxRecDepth 100000
namespace Cg
open PySem PySem.Spec PyProof.Rows L2
/-! ### calls where no repr is under way around them -/
section
variable {P : Program} {w : World} {K : PySem.W.Frag} {mg : Str → Option Value} {base : Heap}
/-- one call of a def of the text, at one place: its body's walk there -/
theorem run_at {k : Nat} {f : Addr} {x q : Str} {ar : Arguments} {bd : List Stmt} {sc : Scope} {d1 d2 d3 d4 cv d5 oc : Value} {an od : Option Addr} {sl : Array (Option Value)} {N ps : List Str}
    {A : Around} {outer : List Env} {s : Shared} {H : Hp} {args : Args} {us : List Value} {vs : List V} {Q : VK} {E : XK}
    (look : K.lookup f = some ⟨oc, od, .func (PySem.W.fnOf x q ar bd sc d1 d2 d3 d4 an cv d5), sl⟩) (code : PySem.W.codeIn K cv q = true) (S : FnScope N ps sc) (len : vs.length = ps.length)
    (room : Room (k + 1) A) (e0 : Env0 P w K mg base A outer s H) (bnd : BindsTo s (PySem.W.fnOf x q ar bd sc d1 d2 d3 d4 an cv d5) args (ps.zip us)) (rel : Vals vs us)
    (walk : ∃ t, PSs (cxOf CX0 P w K mg base N q sc f cv A outer s H E) bd t ∧ t { nx := fun _ H' => Q .non H', rt := Q } (start N vs) H) :
    codeAny (model P w) A (.call (.ref f) args) (CR CX0 outer P w H s Q E) s := by
  have old : ∀ b o, base.get? b = some o → s.heap.get? b = some o := fun b o e => (e0.bs b o e).1
  have kin := e0.mod.kin.keeps old
  refine codeAny_call_function room.depth (kin _ _ look) rfl S.co S.gen rfl (PySem.W.codeRec_of kin code) (bnd _ _ _ _ ?_)
  refine wpAny_newFunctionEnv_cells S.kind (fun z hz => ?_) ?_
  · obtain ⟨n, v⟩ := z
    cases S.par n (List.of_mem_zip hz).1 with
    | inl q1 => exact .inl q1
    | inr q1 => exact .inr ⟨q1, PySem.W.cellsFrom_some _ _ _ (.inl q1)⟩
  · rintro env rfl s1 ic
    refine ⟨(e0.mod.nolimit.keeps old).keeps ic.toInCall.keep, codeAny_func ?_⟩
    obtain ⟨t, ht, hq⟩ := walk
    have I0 := inv_start (CX := CX0) (E := E) S room.hd e0 len rel ic
    refine wpAny_mono (ht.run [] s1 (start N vs) H _ I0 hq) ?_ (fun _ _ z => z)
    rintro (_ | u | _ | _) s2 got
    all_goals first
      | (obtain ⟨σ2, H2, J, g⟩ := got; exact ⟨V.non, H2, J.os, J.bare, J.base, J.hok, rfl, g⟩)
      | (obtain ⟨v2, σ2, H2, J, rv, g⟩ := got; exact ⟨v2, H2, J.os, J.bare, J.base, J.hok, rv, g⟩)
      | (obtain ⟨_, _, _, g⟩ := got; exact g.elim)
/-- a def's promise, kept where no repr is under way -/
structure FnG (P : Program) (w : World) (K : PySem.W.Frag) (mg : Str → Option Value) (base : Heap) (k : Nat) (f : Addr) (fd : FuncData) (ps : List Str) (sp : Sp) : Prop where
  len : ∀ vs H Q E, sp vs H Q E → vs.length = ps.length
  go : ∀ (A : Around) (outer : List Env) (s : Shared) (H : Hp) (args : Args) (us : List Value) (vs : List V) (Q : VK) (E : XK), A.guards = some [] → Room k A → Env0 P w K mg base A outer s H →
    BindsTo s fd args (ps.zip us) → Vals vs us → sp vs H Q E → codeAny (model P w) A (.call (.ref f) args) (CR CX0 outer P w H s Q E) s
theorem fnG {x q : Str} {st : Stmt} {f : Addr} {fd : FuncData} {N ps : List Str} {k : Nat} {sp : Sp} (F : Fun K x q st f fd) (S : FnScope N ps (defScope st)) (len : ∀ vs H Q E, sp vs H Q E → vs.length = ps.length)
    (walk : ∀ (cv : Value) (A : Around) (outer : List Env) (s : Shared) (H : Hp) (vs : List V) (Q : VK) (E : XK), A.guards = some [] → Room k (A.deeper (envOfC q (defScope st) s.heap.objs.size f cv)) → sp vs H Q E →
      ∃ t, PSs (cxOf CX0 P w K mg base N q (defScope st) f cv A outer s H E).nox (defBody st) t ∧ t { nx := fun _ H' => Q .non H', rt := Q } (start N vs) H) : FnG P w K mg base (k + 1) f fd ps sp := by
  obtain ⟨oc, od, d2, d3, d4, an, cv, d5, sl, rfl, look, code⟩ := F.ex
  refine ⟨len, fun A outer s H args us vs Q E hg room e0 bnd rel h => ?_⟩
  obtain ⟨t, ht, hq⟩ := walk cv A outer s H vs Q E hg (room.deeper _) h
  exact run_at look code S (len _ _ _ _ h) room e0 bnd rel ⟨t, ht.nox, hq⟩
/-- f(e, ..) of such a def -/
theorem pe_callG {X : Cx} {k : Nat} {f : Addr} {fd : FuncData} {ps : List Str} {sp : Sp} {x : Str} {p pos : Pos} {e : Expr} {es : List Expr} {t : TA} (F : FnG X.prog X.w X.K X.mg X.base k f fd ps sp) (hg : X.A.guards = some []) (hr : Room k X.A) (gl : Gl X x)
    (hm : X.mg x = some (.ref f)) (kp : PySem.W.keepIn X.K (.ref f) = true) (b : Binds X.K fd ps []) (ha : PA X (e :: es) t) (hdb : (x == ("__debug__" : Str)) = false := by decide)
    (he : starEach (e :: es) X.env = (false, eval e X.env) :: starEach es X.env := by rfl) (hpl : (backTo pos (starEach es X.env)).any (·.1) = false := by rfl) : PE X (.Call (.Name x p) (e :: es) [] pos) (tCall sp [] E0 t) := by
  constructor
  intro pins s σ H Q I h
  refine wpAny_Call_Name_kw (ld_glob I gl hm (PySem.W.callWith_K (h₀ := X.base) I.ok.mod.kin kp (thn (ha.run pos pins s σ H _ I h) ?_) he hpl) hdb)
  rintro us s1 ⟨vs, H1, I1, rel, q⟩
  refine ⟨I1.kIn, ?_⟩
  rw [List.append_nil] at q
  have hl : us.length = ps.length := by rw [← rel.length]; exact F.len _ _ _ _ q
  have bb := b s1 us I1.kIn (by rw [List.append_nil]; exact hl)
  rw [List.append_nil] at bb
  refine wpAny_call (codeAny_mono (F.go X.A X.stack s1 H1 ⟨us, []⟩ us vs Q E0 hg hr I1.env0 bb rel q) ?_)
  rintro (err | (_ | _ | _ | u)) s2 got
  all_goals first
    | exact I1.after got
    | exact False.elim got
/-- the law itself, called from outside -/
theorem law_at {mb : Str → Option Value} {k : Nat} {fa a : Addr} {fd : FuncData} {x : Str} {sp : Sp} {s1 : Shared} {vs : List Value} {ns : List Int} (kin : K.In s1.heap) (gl : s1.heap.Ns mainGlobals mg) (bl : s1.heap.Ns builtinsNs mb)
    (bb : ∀ y : Str, y ≠ "__name__" → mb y = bootBuiltins y) (lim : s1.heap.NoLimit) (gens : s1.gens = #[]) (ha : s1.heap.get? a = some { cls := .type "list", data := .seq vs.toArray }) (hi : IntsAre vs ns) (hl : ns.length ≤ sizeLine) (room : Room k callerA)
    (F : ∀ base : Heap, K.In base → base.Ns mainGlobals mg → FnG P w K mg base k fa fd [x] sp) (bnd : ∀ (s : Shared) (u : Value), BindsTo s fd ⟨[u], []⟩ [(x, u)])
    (hsp : ∀ H : Hp, SqL K H a (ns.map V.int) → sp [.ref a] H (fun v _ => v = .bl true) E0) :
    codeAny (model P w) callerA (.call (.ref fa) ⟨[.ref a], []⟩) (fun r s' => r = .ok (.ret (.bool true)) ∧ OldK s1.heap s'.heap ∧ s'.os = s1.os ∧ AllBare s'.gens) s1 := by
  have rv := vals_ints hi
  have lv := hi.length
  let ob : Obj := { cls := .type "list", data := .seq vs.toArray }
  -- what is tracked: the script, known, unless it is the module's own
  obtain ⟨H, hS, hok, only⟩ : ∃ H : Hp, SqL K H a (ns.map V.int) ∧ HOk P w H s1.heap ∧ ∀ b u, H b = some u → b = a ∧ u = .frz ob (.lst (ns.map V.int)) ∧ K.lookup b = none := by
    cases hk : K.lookup a with
    | some o =>
      have e := kin a o hk
      rw [ha] at e
      cases e
      exact ⟨fun _ => none, .inr ⟨_, vs.toArray, _, hk, rfl, rfl, rfl, by rw [List.size_toArray, lv]; exact hl, by simpa using rv⟩, (fun _ _ z => nomatch z), fun _ _ z => nomatch z⟩
    | none =>
      have one : ∀ b u, (if b = a then some (HO.frz ob (.lst (ns.map V.int))) else none) = some u → b = a ∧ u = .frz ob (.lst (ns.map V.int)) := fun b u z => by
        by_cases hb : b = a
        · rw [if_pos hb] at z; exact ⟨hb, (Option.some.inj z).symm⟩
        · rw [if_neg hb] at z; cases z
      refine ⟨fun b => if b = a then some (.frz ob (.lst (ns.map V.int))) else none, .inl (.inr ⟨ob, if_pos rfl⟩), fun b u z => ?_, fun b u z => ⟨(one b u z).1, (one b u z).2, by rw [(one b u z).1]; exact hk⟩⟩
      obtain ⟨rfl, rfl⟩ := one b u z
      exact ⟨ha, by rw [List.length_map]; exact hl, vs, _, rv, ha⟩
  have free : ∀ {b : Addr} {o : Obj}, s1.heap.get? b = some o → (∀ es n, o.data = .seq es n → False) → H b = none := fun {b o} e d => by
    cases z : H b with
    | none => rfl
    | some u =>
      obtain ⟨rfl, _, _⟩ := only b u z
      rw [ha] at e
      cases e
      exact (d _ _ rfl).elim
  have nsK : ∀ {b : Addr} {m : Str → Option Value}, s1.heap.Ns b m → (hidT s1.heap H).Ns b m := fun {b m} ⟨o, es, ep, e, d, r⟩ => ⟨o, es, ep, hidT_get e (free e fun _ _ z => by rw [d] at z; cases z), d, r⟩
  have kin' : K.In (hidT s1.heap H) := fun b o e => hidT_get (kin b o e) (by
    cases z : H b with
    | none => rfl
    | some u => rw [(only b u z).2.2] at e; cases e)
  obtain ⟨mc, l1, l2⟩ := lim
  have e0 : Env0 P w K mg (hidT s1.heap H) callerA [] s1 H := ⟨rfl, ⟨kin', nsK gl, ⟨mb, nsK bl, bb⟩, ⟨mc, nsK l1, l2⟩⟩, fun _ _ e => of_hidT e, Nat.le_of_eq (hidT_size _ _), trivial, (fun _ z => nomatch z), hok, .of_eq gens⟩
  refine codeAny_mono ((F _ kin' (nsK gl)).go callerA [] s1 H ⟨[.ref a], []⟩ [.ref a] [.ref a] _ _ rfl room e0 (bnd s1 (.ref a)) (.cons rfl .nil) (hsp H hS)) ?_
  rintro (err | (_ | _ | _ | u)) s2 got
  all_goals first
    | exact False.elim got
    | skip
  obtain ⟨v, H2, os, bare, un, hok2, rel, rfl⟩ := got
  obtain rfl : u = Value.bool true := rel
  refine ⟨rfl, OldK.of_keep fun b o e => ?_, os, bare⟩
  cases z : H b with
  | none => exact un.keep b o e z (fun y => nomatch y) (fun y => nomatch y)
  | some u =>
    obtain ⟨_, rfl, _⟩ := only b u z
    have k1 := (hok b _ z).1
    have k2 := (hok2 b _ (un.frzs b _ _ z)).1
    rw [e] at k1
    cases k1
    exact k2
end
/-- the goal that k_head leaves, from the law's promise -/
theorem walkG {l : PySem.W.OpenLaw} {n k : Nat} {q : Program} {loose : List Str} {XP : (Str → Option Value) → Heap → Prop} {YP : World → Heap → Prop} {d : DefRec} {K : Params → PySem.W.Frag} {sp : PySem.W.Frag → Sp} {x : Str}
    (hn : l.most = some n) (hn2 : n ≤ sizeLine) (hdf : d.params.defaults = []) (room : Room k callerA) (hY : ∀ (w : World) (h : Heap), YP w h → (K w.params).In h)
    (F : ∀ (w : World) (mg : Str → Option Value) (fa : Addr) (h : Heap), (K w.params).In h → h.Ns mainGlobals mg → mg d.name = some (.ref fa) → ∃ fd : FuncData, (∀ (s : Shared) (u : Value), BindsTo s fd ⟨[u], []⟩ [(x, u)]) ∧
      ∀ base : Heap, (K w.params).In base → base.Ns mainGlobals mg → FnG l.prog w (K w.params) mg base k fa fd [x] (sp (K w.params)))
    (hsp : ∀ (K : PySem.W.Frag) (H : Hp) (a : Addr) (ns : List Int), ns.length ≤ n → SqL K H a (ns.map V.int) → sp K [.ref a] H (fun v _ => v = .bl true) E0) : PySem.W.WalkO q loose XP YP l.row.toRowW d [] (fun f vs => PySem.call f vs) := by
  refine Att.attach_call hn hdf ?_
  intro w s0 s1 mg mb fa o pm cd doc a vs ns G Y ho hd hcd hmg hobj hints hlen gens
  obtain ⟨fd, hb, hF⟩ := F w mg fa _ (hY w _ Y) G.T.g hmg
  exact law_at (hY w _ Y) G.T.g G.T.b G.T.builtins G.T.nolimit gens hobj hints (Nat.le_trans hlen hn2) room hF hb fun H hS => hsp _ H a ns hlen hS
end Cg

set_option Elab.async false
set_option linter.all false
set_option maxRecDepth 100000
namespace Cg
open PySem PySem.Spec PyProof.Rows L2
/-! ### data: what repr makes of them -/
mutual
/-- no dict, no int that is too great for repr, texts of signs -/
def okD : PyData → Bool
  | .none => true
  | .bool _ => true
  | .int i => decide (i.natAbs.log2 < 1920)
  | .str x => PyData.strOk x
  | .list xs => okAll xs
  | .tuple xs => okAll xs
  | .dict _ => false
def okAll : List PyData → Bool
  | [] => true
  | x :: xs => okD x && okAll xs
end
mutual
/-- at least as long as its text -/
def wz : PyData → Nat
  | .none => 4
  | .bool _ => 5
  | .int i => i.natAbs.log2 + 2
  | .str x => 10 * x.length + 2
  | .list xs => wzAll xs + 3
  | .tuple xs => wzAll xs + 3
  | .dict _ => 0
def wzAll : List PyData → Nat
  | [] => 0
  | x :: xs => wz x + 2 + wzAll xs
end
theorem listText_le : ∀ ts : List Str, (listText ts).length ≤ piled ts + 2
  | [] => by decide
  | t :: r => by
    have h := textFrom_length_pos r 1 (("[" : Str) ++ ("" : String) ++ t) (Nat.succ_pos 0)
    have e : (("[" : Str) ++ ("" : String) ++ t).length = 1 + t.length := by
      rw [strLen_append, strLen_append]; rfl
    have e2 : (listText (t :: r)).length = (textFrom 1 (("[" : Str) ++ ("" : String) ++ t) r).length + 1 := by
      show (textFrom 1 (("[" : Str) ++ ("" : String) ++ t) r ++ "]").length = _
      rw [strLen_append]; rfl
    rw [e2, h, e, piled_cons]
    omega
theorem tupleText_le (ts : List Str) : (tupleText ts).length ≤ piled ts + 3 := by
  have e0 : (tupleText ts).length = 1 + (Str.join ", " ts).length + ((if ts.length == 1 then ",)" else ")" : String) : Str).length := by
    show ((("(" : Str) ++ Str.join ", " ts) ++ ((if ts.length == 1 then ",)" else ")" : String) : Str)).length = _
    rw [strLen_append, strLen_append]; rfl
  have e1 : ((if ts.length == 1 then ",)" else ")" : String) : Str).length ≤ 2 := by split <;> decide
  cases ts with
  | nil => decide
  | cons t r =>
    have e2 := join_length_add (t :: r) (by simp)
    omega
mutual
theorem shown_le : ∀ d : PyData, okD d = true → d.showable = true ∧ d.hasDict = false ∧ d.shown.length ≤ wz d
  | .none, _ => ⟨rfl, rfl, by decide⟩
  | .bool b, _ => ⟨rfl, rfl, by cases b <;> decide⟩
  | .int i, h => ⟨h, rfl, by
      show (Str.ofString (toString i)).length ≤ i.natAbs.log2 + 2
      rw [PySem.ofString_length]
      exact int_text_length_le (k := i.natAbs.log2 + 1) (by omega) (by omega)⟩
  | .str x, h => ⟨rfl, rfl, PySem.StrLaws.reprText_len x fun c hc => by
      have h' : x.cps.all (fun c => decide (c < 0x110000)) = true := h
      rw [← Array.all_toList] at h'
      exact Nat.lt_trans (of_decide_eq_true (List.all_eq_true.mp h' c hc)) (by decide)⟩
  | .list xs, h => by
    obtain ⟨a, b, c⟩ := shownAll_le xs h
    refine ⟨a, b, ?_⟩
    show (listText (PyData.shownAll xs)).length ≤ wzAll xs + 3
    have := listText_le (PyData.shownAll xs)
    omega
  | .tuple xs, h => by
    obtain ⟨a, b, c⟩ := shownAll_le xs h
    refine ⟨a, b, ?_⟩
    show (tupleText (PyData.shownAll xs)).length ≤ wzAll xs + 3
    have := tupleText_le (PyData.shownAll xs)
    omega
  | .dict _, h => by cases h
theorem shownAll_le : ∀ xs : List PyData, okAll xs = true → PyData.showableAll xs = true ∧ PyData.hasDictAll xs = false ∧ piled (PyData.shownAll xs) ≤ wzAll xs
  | [], _ => ⟨rfl, rfl, Nat.le_refl _⟩
  | x :: xs, h => by
    have h' : (okD x && okAll xs) = true := h
    rw [Bool.and_eq_true] at h'
    obtain ⟨a, b, c⟩ := shown_le x h'.1
    obtain ⟨a', b', c'⟩ := shownAll_le xs h'.2
    refine ⟨by show (PyData.showable x && PyData.showableAll xs) = true; rw [a, a']; rfl, by show (PyData.hasDict x || PyData.hasDictAll xs) = false; rw [b, b']; rfl, ?_⟩
    show piled (x.shown :: PyData.shownAll xs) ≤ wz x + 2 + wzAll xs
    rw [piled_cons]
    omega
end
/-- repr of data, where no repr is under way -/
def rReprD (K : PySem.W.Frag) : List V → Hp → VK → Prop := fun xs H Q => ∃ (v : V) (d : PyData), xs = [v] ∧ Dp K H v d ∧ okD d = true ∧ d.depth ≤ 40 ∧ wz d ≤ sizeLine ∧ Q (.str d.shown) H
theorem call_reprD {X : Cx} (hg : X.A.guards = some []) (hu : X.A.units + 64 < cLine) : CallR X (.builtin "repr") (rReprD X.K) := by
  intro pins s σ H xs us Q I r h
  obtain ⟨v, d, rfl, hd, ok, dp, wl, q⟩ := h
  obtain ⟨u, rfl, ru⟩ := vals1 r
  obtain ⟨h1, h2, h3⟩ := shown_le d ok
  have h4 : d.shown.length ≤ sizeLine := Nat.le_trans h3 wl
  obtain ⟨as, rd⟩ := Dp.reads I d v u hd ru
  have far : ∀ a : Addr, u = Value.ref a → wpAny (model X.prog X.w) X.A (call (.builtin "repr") [u]) (EP X pins σ Q) X.xe s := fun a e => by
    subst e
    exact repr_of_reads' rd h1 (PyData.noDict_hsm h2) hg (by omega) (fun _ _ e => e) (fun h' t tk hk => ⟨.str d.shown, H, I.kept hk, ⟨t, rfl⟩, q⟩) h4
  cases hd with
  | non =>
    cases ru
    exact PySem.P.repr_of_none ⟨.str _, H, I.tok _, ⟨_, rfl⟩, q⟩
  | bl b =>
    cases ru
    exact PySem.P.repr_of_bool ⟨.str _, H, I.tok _, ⟨_, rfl⟩, q⟩
  | int i =>
    obtain ⟨t, rfl⟩ := ru
    exact PySem.P.repr_of_int (of_decide_eq_true ok) ⟨.str _, H, I.tok _, ⟨_, rfl⟩, q⟩
  | str x =>
    obtain ⟨t, rfl⟩ := ru
    exact PySem.P.repr_of_str ⟨.str _, H, I.tok _, ⟨_, rfl⟩, q⟩ h4
  | lst _ _ => exact far _ ru
  | tup _ _ => exact far _ ru
end Cg

set_option Elab.async false
set_option linter.all false
set_option maxRecDepth 100000
namespace Cg
open PySem PySem.Spec PyProof.Rows L2 Evl
/-! ### data that are tracked -/
mutual
inductive Dq (H : Hp) : V → PyData → Prop
  | non : Dq H .non .none
  | bl (b : Bool) : Dq H (.bl b) (.bool b)
  | int (i : Int) : Dq H (.int i) (.int i)
  | str (x : Str) : Dq H (.str x) (.str x)
  | lst {a : Addr} {xs : List V} {ds : List PyData} (e : H a = some (.lst xs)) (h : DqAll H xs ds) : Dq H (.ref a) (.list ds)
  | tup {a : Addr} {xs : List V} {ds : List PyData} (e : H a = some (.tup xs)) (h : DqAll H xs ds) : Dq H (.ref a) (.tuple ds)
inductive DqAll (H : Hp) : List V → List PyData → Prop
  | nil : DqAll H [] []
  | cons {v : V} {vs : List V} {d : PyData} {ds : List PyData} (h : Dq H v d) (t : DqAll H vs ds) : DqAll H (v :: vs) (d :: ds)
end
section
variable {H H' : Hp} {K : PySem.W.Frag}
mutual
theorem Dq.mono (e : Same H H') : ∀ {v : V} {d : PyData}, Dq H v d → Dq H' v d
  | _, _, .non => .non
  | _, _, .bl b => .bl b
  | _, _, .int i => .int i
  | _, _, .str x => .str x
  | _, _, .lst a h => .lst (e _ _ a) (h.mono e)
  | _, _, .tup a h => .tup (e _ _ a) (h.mono e)
theorem DqAll.mono (e : Same H H') : ∀ {vs : List V} {ds : List PyData}, DqAll H vs ds → DqAll H' vs ds
  | _, _, .nil => .nil
  | _, _, .cons h t => .cons (h.mono e) (t.mono e)
end
mutual
theorem Dq.dp : ∀ {v : V} {d : PyData}, Dq H v d → Dp K H v d
  | _, _, .non => .non
  | _, _, .bl b => .bl b
  | _, _, .int i => .int i
  | _, _, .str x => .str x
  | _, _, .lst a h => .lst (SqL.of a) h.dp
  | _, _, .tup a h => .tup (SqT.of a) h.dp
theorem DqAll.dp : ∀ {vs : List V} {ds : List PyData}, DqAll H vs ds → DpAll K H vs ds
  | _, _, .nil => .nil
  | _, _, .cons h t => .cons h.dp t.dp
end
theorem DqAll.len : ∀ {vs : List V} {ds : List PyData}, DqAll H vs ds → vs.length = ds.length
  | _, _, .nil => rfl
  | _, _, .cons _ t => by rw [List.length_cons, List.length_cons, t.len]
theorem DqAll.get : ∀ {vs : List V} {ds : List PyData}, DqAll H vs ds → ∀ {i : Nat} {v : V}, vs[i]? = some v → ∃ d, ds[i]? = some d ∧ Dq H v d
  | _, _, .nil, i, v, h => by simp at h
  | _, _, .cons (d := d) h t, 0, v, e => by
    have e' : _ = v := Option.some.inj e
    subst e'
    exact ⟨d, rfl, h⟩
  | _, _, .cons h t, i + 1, v, e => t.get (i := i) e
theorem DqAll.at : ∀ {vs : List V} {ds : List PyData}, DqAll H vs ds → ∀ {i : Nat} {d : PyData}, ds[i]? = some d → ∃ v, vs[i]? = some v ∧ Dq H v d
  | _, _, .nil, i, v, h => by simp at h
  | _, _, .cons (v := w) h t, 0, v, e => by
    have e' : _ = v := Option.some.inj e
    subst e'
    exact ⟨w, rfl, h⟩
  | _, _, .cons h t, i + 1, v, e => t.at (i := i) e
theorem DqAll.append : ∀ {vs us : List V} {ds es : List PyData}, DqAll H vs ds → DqAll H us es → DqAll H (vs ++ us) (ds ++ es)
  | _, _, _, _, .nil, q => q
  | _, _, _, _, .cons h t, q => .cons h (t.append q)
theorem DqAll.take : ∀ {vs : List V} {ds : List PyData} (n : Nat), DqAll H vs ds → DqAll H (vs.take n) (ds.take n)
  | _, _, 0, _ => .nil
  | _, _, _ + 1, .nil => .nil
  | _, _, n + 1, .cons h t => .cons h (t.take n)
theorem DqAll.drop : ∀ {vs : List V} {ds : List PyData} (n : Nat), DqAll H vs ds → DqAll H (vs.drop n) (ds.drop n)
  | _, _, 0, q => q
  | _, _, _ + 1, .nil => .nil
  | _, _, n + 1, .cons _ t => t.drop n
theorem DqAll.rep {v : V} {d : PyData} (h : Dq H v d) : ∀ n : Nat, DqAll H (List.replicate n v) (List.replicate n d)
  | 0 => .nil
  | n + 1 => .cons h (DqAll.rep h n)
theorem DqAll.ints : ∀ ns : List Int, DqAll H (ns.map V.int) (ns.map PyData.int)
  | [] => .nil
  | n :: r => .cons (.int n) (DqAll.ints r)
theorem Dq.list_inv {v : V} {ds : List PyData} (h : Dq H v (.list ds)) : ∃ a xs, v = .ref a ∧ H a = some (.lst xs) ∧ DqAll H xs ds := by
  cases h with
  | lst e h => exact ⟨_, _, rfl, e, h⟩
theorem Dq.tup_inv {v : V} {ds : List PyData} (h : Dq H v (.tuple ds)) : ∃ a xs, v = .ref a ∧ H a = some (.tup xs) ∧ DqAll H xs ds := by
  cases h with
  | tup e h => exact ⟨_, _, rfl, e, h⟩
theorem Dq.int_inv {v : V} {i : Int} (h : Dq H v (.int i)) : v = .int i := by
  cases h
  rfl
def tyN : PyData → String
  | .none => "NoneType"
  | .bool _ => "bool"
  | .int _ => "int"
  | .str _ => "str"
  | .list _ => "list"
  | .tuple _ => "tuple"
  | .dict _ => "dict"
theorem Dq.ty {v : V} {d : PyData} (h : Dq H v d) : TyX K H v (.type (tyN d)) := by
  cases h with
  | non => exact .base .non
  | bl b => exact .base (.bl b)
  | int i => exact .base (.int i)
  | str x => exact .base (.str x)
  | lst e _ => exact .base (.lst e)
  | tup e _ => exact .base (.tup e)
def isInt : PyData → Bool
  | .int _ => true
  | .bool _ => true
  | _ => false
def isBool : PyData → Bool
  | .bool _ => true
  | _ => false
def isList : PyData → Bool
  | .list _ => true
  | _ => false
def isTuple : PyData → Bool
  | .tuple _ => true
  | _ => false
def isStr : PyData → Bool
  | .str _ => true
  | _ => false
theorem kit_int (d : PyData) : kitB (tyN d) "int" = some (isInt d) := by cases d <;> (simp only [tyN, isInt]; decide +kernel)
theorem kit_bool (d : PyData) : kitB (tyN d) "bool" = some (isBool d) := by cases d <;> (simp only [tyN, isBool]; decide +kernel)
theorem kit_list (d : PyData) : kitB (tyN d) "list" = some (isList d) := by cases d <;> (simp only [tyN, isList]; decide +kernel)
theorem kit_tuple (d : PyData) : kitB (tyN d) "tuple" = some (isTuple d) := by cases d <;> (simp only [tyN, isTuple]; decide +kernel)
theorem kit_str (d : PyData) : kitB (tyN d) "str" = some (isStr d) := by cases d <;> (simp only [tyN, isStr]; decide +kernel)
end
/-! ### readings -/
section
variable {K : PySem.W.Frag} {σ : L2.St} {H : Hp} {ta tb te tl : TE} {x v : V} {d : PyData} {T : String} {b : Bool}
theorem ev_isi (ha : Ev ta σ H v) (hd : Dq H v d) (hk : kitB (tyN d) T = some b) : Ev (tCB (rIsi K) (tCons ta (tCons (tC (.ty T)) tNil))) σ H (.bl b) := fun H1 e Q q =>
  ha H1 e _ fun H2 e2 => ⟨v, .ty T, .type (tyN d), .type T, b, rfl, .ty T, (hd.mono (e.trans e2)).ty, kit_ty hk, q H2 e2⟩
theorem ev_lenD {ds : List PyData} (ha : Ev ta σ H v) (hd : Dq H v (.list ds)) : Ev (tCB (rLenS K) (tCons ta tNil)) σ H (.int (ds.length : Int)) := by
  obtain ⟨a, xs, rfl, e, h⟩ := hd.list_inv
  rw [← h.len]
  exact ev_len ha (SqL.of e)
theorem ev_ixD {ds : List PyData} {i : Nat} (ha : Ev ta σ H v) (hd : Dq H v (.list ds)) (hb : Ev tb σ H (.int (i : Int))) (hi : i < ds.length) (k : ∀ x, Dq H x ds[i] → Ev (tOp (rIxL K) ta tb) σ H x → b = true) : b = true := by
  obtain ⟨a, xs, rfl, e, h⟩ := hd.list_inv
  obtain ⟨x, hx, hq⟩ := h.at (List.getElem?_eq_getElem hi)
  exact k x hq (ev_op ha hb (rv_ixL (SqL.of e) (atI_nat hx)))
/-- the item of a list of data at a place -/
theorem ix_D {ds : List PyData} {i : Nat} (ha : Ev ta σ H v) (hd : Dq H v (.list ds)) (hb : Ev tb σ H (.int (i : Int))) (hi : i < ds.length) : ∃ x, Dq H x ds[i] ∧ Ev (tOp (rIxL K) ta tb) σ H x := by
  obtain ⟨a, xs, rfl, e, h⟩ := hd.list_inv
  obtain ⟨x, hx, hq⟩ := h.at (List.getElem?_eq_getElem hi)
  exact ⟨x, hq, ev_op ha hb (rv_ixL (SqL.of e) (atI_nat hx))⟩
theorem given_all (n : Nat) (g : Nat → V) : given n (fun _ => true) g = (List.range n).map g := by
  unfold given
  rw [List.filter_eq_self.mpr fun _ _ => rfl]
theorem et_yes : EvT tYes σ H true := fun H1 _ _ q => q H1 (Ex.refl H1)
/-- [e for x in xs], data by data -/
theorem el_lcD {ds : List PyData} {j : Nat} {vs : List Nat} (g : PyData → V) (h : Ev tl σ H v) (hd : Dq H v (.list ds)) (hz : ds.length ≤ 40000) (hw : ∀ x, wipe ((wipe σ vs).set j (some x)) vs = wipe σ vs)
    (he : ∀ (x : V) (d : PyData) (H1 : Hp), Same H H1 → d ∈ ds → Dq H1 x d → Ev te ((wipe σ vs).set j (some x)) H1 (g d)) : EvL (tLc (iList K tl) (gName j) tYes te vs) σ H (ds.map g) := by
  obtain ⟨a, xs, rfl, e, hq⟩ := hd.list_inv
  have q := el_lcL (K := K) (t := tYes) (te := te) (j := j) (vs := vs) (fun _ => true) (fun i => g (ds.getD i .none)) h (SqL.of e) (by rw [hq.len]; exact hz) hw (fun _ _ H1 _ _ => et_yes) (fun i x H1 e1 hx _ => by
    obtain ⟨d, h1, h2⟩ := hq.get hx
    have h3 : ds.getD i .none = d := by rw [List.getD_eq_getElem?_getD, h1]; rfl
    show Ev te _ H1 (g (ds.getD i .none))
    rw [h3]
    exact he x d H1 e1 (List.mem_of_getElem? h1) (h2.mono e1))
  have e3 : given xs.length (fun _ => true) (fun i => g (ds.getD i .none)) = ds.map g := by
    rw [given_all, hq.len]
    apply List.ext_getElem
    · simp
    · intro i h1 h2
      simp at h1
      rw [List.getElem_map, List.getElem_range, List.getElem_map, List.getD_eq_getElem?_getD, List.getElem?_eq_getElem h1] <;> rfl
  rw [e3] at q
  exact q
theorem ev_all {bs : List Bool} (h : EvL ta σ H (bs.map V.bl)) : Ev (tCB (rAll K) (tCons ta tNil)) σ H (.bl (bs.all id)) := fun H1 e Q q =>
  h H1 e _ fun p H2 hp e2 h2 => ⟨p, bs, rfl, SqL.of h2, q H2 e2⟩
/-- all([p(x) for x in xs]) -/
theorem ev_allD {ds : List PyData} {j : Nat} {vs : List Nat} (p : PyData → Bool) (h : Ev tl σ H v) (hd : Dq H v (.list ds)) (hz : ds.length ≤ 40000) (hw : ∀ x, wipe ((wipe σ vs).set j (some x)) vs = wipe σ vs)
    (he : ∀ (x : V) (d : PyData) (H1 : Hp), Same H H1 → d ∈ ds → Dq H1 x d → Ev te ((wipe σ vs).set j (some x)) H1 (.bl (p d))) : Ev (tCB (rAll K) (tCons (tLc (iList K tl) (gName j) tYes te vs) tNil)) σ H (.bl (ds.all p)) := by
  have q := el_lcD (K := K) (fun d => V.bl (p d)) h hd hz hw he
  have e1 : ds.map (fun d => V.bl (p d)) = (ds.map p).map V.bl := by rw [List.map_map]; rfl
  rw [e1] at q
  have e2 : ((ds.map p).all id) = ds.all p := by rw [List.all_map]; rfl
  rw [← e2]
  exact ev_all q
end
/-! ### rules whose reading names the written part itself -/
section
variable {X : Cx}
def rTupS (K : PySem.W.Frag) : List V → Hp → VK → Prop := fun xs H Q => ∃ p ys, xs = [.ref p] ∧ ((SqL K H p ys ∧ ∀ l, H l = none → Q (.ref l) (upd H l (.tup ys))) ∨ (SqT K H p ys ∧ Q (.ref p) H))
theorem lenK (K : PySem.W.Frag) (hK : X.K = K := by rfl) : CallR X (.builtin "len") (rLenS K) := by subst hK; exact call_len_seq
theorem isiK (K : PySem.W.Frag) (hK : X.K = K := by rfl) : CallR X (.builtin "isinstance") (rIsi K) := by subst hK; exact call_isi
theorem isiTK (K : PySem.W.Frag) (hK : X.K = K := by rfl) : CallR X (.builtin "isinstance") (rIsiT K) := by subst hK; exact call_isiT
theorem allK (K : PySem.W.Frag) (hK : X.K = K := by rfl) (hc : X.calm = true := by rfl) : CallR X (.builtin "all") (rAll K) := by subst hK; exact cr_all hc
theorem anyK (K : PySem.W.Frag) (hK : X.K = K := by rfl) (hc : X.calm = true := by rfl) : CallR X (.builtin "any") (rAny K) := by subst hK; exact cr_any hc
theorem listK (K : PySem.W.Frag) (hK : X.K = K := by rfl) : CallR X (.type "list") (rListS K) := by subst hK; exact call_list_of
theorem tupK (K : PySem.W.Frag) (hK : X.K = K := by rfl) : CallR X (.type "tuple") (rTupS K) := by subst hK; exact call_tuple_of
theorem reprK (K : PySem.W.Frag) (hg : X.A.guards = some []) (hu : X.A.units + 64 < cLine) (hK : X.K = K := by rfl) : CallR X (.builtin "repr") (rReprD K) := by subst hK; exact call_reprD hg hu
theorem ixLK (K : PySem.W.Frag) (hK : X.K = K := by rfl) : IxR X (rIxL K) := by subst hK; exact ix_list
theorem ixTK (K : PySem.W.Frag) (hK : X.K = K := by rfl) : IxR X (rIxT K) := by subst hK; exact ix_tup
theorem slLK (K : PySem.W.Frag) (hK : X.K = K := by rfl) : SlR X (rSlL K) := by subst hK; exact sl_list
theorem slTK (K : PySem.W.Frag) (hK : X.K = K := by rfl) : SlR X (rSlT K) := by subst hK; exact sl_tup
theorem inK (K : PySem.W.Frag) (hK : X.K = K := by rfl) : OpR X (compareOp .In) (rIn K false) := by subst hK; exact op_in_seq
theorem notInK (K : PySem.W.Frag) (hK : X.K = K := by rfl) : OpR X (compareOp .NotIn) (rIn K true) := by subst hK; exact op_notIn_seq
theorem eqDK (K : PySem.W.Frag) (hu : X.A.units + 64 < cLine) (hK : X.K = K := by rfl) : OpR X (compareOp .Eq) (rEqD K) := by subst hK; exact op_eqD hu
theorem neDK (K : PySem.W.Frag) (hu : X.A.units + 64 < cLine) (hK : X.K = K := by rfl) : OpR X (compareOp .NotEq) (rNeD K) := by subst hK; exact op_neD hu
theorem pi_listK (K : PySem.W.Frag) {tg l : Expr} {tl : TE} (hl : PE X l tl) (hK : X.K = K := by rfl) : PI X tg l (iList K tl) := by subst hK; exact pi_list hl
theorem pi_tupK (K : PySem.W.Frag) {tg l : Expr} {tl : TE} (hl : PE X l tl) (hK : X.K = K := by rfl) : PI X tg l (iTup K tl) := by subst hK; exact pi_tup hl
theorem pi_enumK (K : PySem.W.Frag) {e : Expr} {ta : TA} {p pos tpos : Pos} {elts : List Expr} {kk : Nat} (hg : Gl X "enumerate") (hm : X.mg "enumerate" = none) (ha : PA X [e] ta) (hK : X.K = K := by rfl) (hs : starEach [e] X.env = [(false, eval e X.env)] := by rfl) :
    PI X (.Tuple elts kk tpos) (.Call (.Name "enumerate" p) [e] [] pos) (iEnum K ta) := by subst hK; exact pi_enum hg hm ha hs
theorem pi_zipK (K : PySem.W.Frag) {e e2 : Expr} {ta : TA} {p pos tpos : Pos} {elts : List Expr} {kk : Nat} (hg : Gl X "zip") (hm : X.mg "zip" = none) (ha : PA X [e, e2] ta) (hK : X.K = K := by rfl)
    (hs : starEach [e, e2] X.env = (false, eval e X.env) :: starEach [e2] X.env := by rfl) (hpl : (backTo pos (starEach [e2] X.env)).any (·.1) = false := by rfl) :
    PI X (.Tuple elts kk tpos) (.Call (.Name "zip" p) [e, e2] [] pos) (iZip K ta) := by subst hK; exact pi_zip hg hm ha hs hpl
theorem pg_tupK (K : PySem.W.Frag) {es : List Expr} {k : Nat} {t : TGs} {n : Nat} {pos : Pos} (hc : X.calm = true) (h : PGs X es t) (hK : X.K = K := by rfl) (hn : (assignEach es X.env).length = n := by rfl) (hst : (assignEach es X.env).findIdx? (·.1) = none := by rfl) :
    PG X (.Tuple es k pos) (gTup K n t) := by subst hK; exact pg_tup hc h hn hst
end
/-! ### promises: a truth of one thing -/
def spP (f : PyData → Bool) : Sp := fun vs H Q _ => ∃ v d, vs = [v] ∧ Dq H v d ∧ RetV (.bl (f d)) H Q
theorem spv_P {f : PyData → Bool} {v : V} {d : PyData} {H : Hp} (h : Dq H v d) : SpV (spP f) [v] H (.bl (f d)) := fun H1 e Q q E => ⟨v, d, rfl, h.mono e, fun H2 e2 => q H2 e2⟩
/-- a def of the text, where it stands, how it is called, what it promises -/
structure Df (P : Program) (w : World) (K : PySem.W.Frag) (mg : Str → Option Value) (base : Heap) (k : Nat) (x : Str) (st : Stmt) (ps : List Str) (f : Addr) (fd : FuncData) (sp : Sp) : Prop where
  F : Fun K x x st f fd
  g : mg x = some (.ref f)
  b : Binds K fd ps []
  G : FnOk P w K mg base CX0 k f fd ps sp
/-- the built-ins that the text asks are the built-ins still -/
structure Bl (mg : Str → Option Value) : Prop where
  int : mg "int" = none
  bool : mg "bool" = none
  list : mg "list" = none
  tuple : mg "tuple" = none
  str : mg "str" = none
  len : mg "len" = none
  all : mg "all" = none
  isinstance : mg "isinstance" = none
  range : mg "range" = none
  enumerate : mg "enumerate" = none
  zip : mg "zip" = none
  repr : mg "repr" = none
  abs : mg "abs" = none
  min : mg "min" = none
  max : mg "max" = none
  divmod : mg "divmod" = none
end Cg

set_option Elab.async false
set_option linter.all false
set_option maxRecDepth 100000
namespace Cg
open PySem PySem.Spec PyProof.Rows L2 Evl
/-! ### all but some objects is kept -/
def hid (bs : List Addr) (H : Hp) : Hp := fun a => if a ∈ bs then none else H a
def Keep (bs : List Addr) (H H' : Hp) : Prop := Same (hid bs H) (hid bs H')
section
variable {bs cs : List Addr} {H H1 H2 H3 : Hp} {p a : Addr} {o u : HO}
theorem hid_in (h : a ∈ bs) : hid bs H a = none := if_pos h
theorem hid_out (h : a ∉ bs) : hid bs H a = H a := if_neg h
theorem hid_some (h : hid bs H a = some o) : a ∉ bs ∧ H a = some o := by
  by_cases hm : a ∈ bs
  · rw [hid_in hm] at h; cases h
  · rw [hid_out hm] at h; exact ⟨hm, h⟩
theorem hid_same : Same (hid bs H) H := fun b x e => (hid_some e).2
theorem Keep.refl (bs : List Addr) (H : Hp) : Keep bs H H := Same.refl _
theorem Keep.trans (k : Keep bs H H1) (j : Keep bs H1 H2) : Keep bs H H2 := Same.trans k j
theorem Keep.of (e : Same H H1) : Keep bs H H1 := fun b x q => by
  obtain ⟨h1, h2⟩ := hid_some q
  rw [hid_out h1]
  exact e b x h2
theorem Keep.ext (k : Keep bs H H1) (e : Same H1 H2) : Keep bs H H2 := k.trans (.of e)
theorem Keep.new (k : Keep bs H H1) (h : H1 p = none) : Keep bs H (upd H1 p o) := k.ext (Ex.new h)
theorem Keep.put (k : Keep bs H H1) (h : p ∈ bs) : Keep bs H (upd H1 p o) := k.trans fun b x q => by
  obtain ⟨h1, h2⟩ := hid_some q
  rw [hid_out h1, upd_ne (fun z => h1 (by rw [z]; exact h))]
  exact h2
theorem Keep.more (k : Keep bs H H1) (h : ∀ b ∈ bs, b ∈ cs) : Keep cs H H1 := fun b x q => by
  obtain ⟨h1, h2⟩ := hid_some q
  have h3 : b ∉ bs := fun z => h1 (h b z)
  have := k b x (by rw [hid_out h3]; exact h2)
  rw [hid_out h1]
  exact (hid_some this).2
theorem Keep.get (k : Keep bs H H1) (h : a ∉ bs) (e : H a = some o) : H1 a = some o := (hid_some (k a o (by rw [hid_out h]; exact e))).2
theorem Keep.dq {v : V} {d : PyData} (k : Keep bs H H1) (h : Dq (hid bs H) v d) : Dq (hid bs H1) v d := h.mono k
theorem Keep.dqAll {v : List V} {d : List PyData} (k : Keep bs H H1) (h : DqAll (hid bs H) v d) : DqAll (hid bs H1) v d := h.mono k
theorem dq_vis {v : V} {d : PyData} (h : Dq (hid bs H) v d) : Dq H v d := h.mono hid_same
theorem dqAll_vis {v : List V} {d : List PyData} (h : DqAll (hid bs H) v d) : DqAll H v d := h.mono hid_same
theorem hid_less (h : ∀ b ∈ bs, b ∈ cs) : Same (hid cs H) (hid bs H) := fun b x q => by
  obtain ⟨h1, h2⟩ := hid_some q
  rw [hid_out (fun z => h1 (h b z))]
  exact h2
/-- a new object beside what is hidden -/
theorem new_out (h : H p = none) (hb : ∀ b ∈ bs, H b ≠ none) : p ∉ bs := fun z => hb p z h
end
/-! ### the box of draws -/
def Box (H : Hp) (b : Addr) (n : Nat) : Prop := ∃ r s c : Int, H b = some (.lst [.int r, .int s, .int c]) ∧ 0 ≤ r ∧ 0 ≤ s ∧ s < 2147483647 ∧ 0 ≤ c ∧ c ≤ n
section
variable {bs : List Addr} {H H1 : Hp} {b : Addr} {n m : Nat}
theorem Box.mono (h : Box H b n) (e : Same H H1) : Box H1 b n := by
  obtain ⟨r, s, c, h1, h2⟩ := h
  exact ⟨r, s, c, e _ _ h1, h2⟩
theorem Box.keep (h : Box H b n) (k : Keep bs H H1) (hb : b ∉ bs) : Box H1 b n := by
  obtain ⟨r, s, c, h1, h2⟩ := h
  exact ⟨r, s, c, k.get hb h1, h2⟩
theorem Box.le (h : Box H b n) (hm : n ≤ m) : Box H b m := by
  obtain ⟨r, s, c, h1, h2, h3, h4, h5, h6⟩ := h
  exact ⟨r, s, c, h1, h2, h3, h4, h5, by omega⟩
theorem Box.is (h : Box H b n) : H b ≠ none := by
  obtain ⟨r, s, c, h1, _⟩ := h
  rw [h1]
  exact fun z => nomatch z
theorem Box.ne {p : Addr} (h : Box H b n) (hp : H p = none) : p ≠ b := fun z => h.is (z ▸ hp)
theorem Box.upd {p : Addr} {o : HO} (h : Box H b n) (hp : H p = none) : Box (L2.upd H p o) b n := h.mono (Ex.new hp)
end
theorem Keep.free {H H1 : Hp} {b p : Addr} {n : Nat} (k : Keep [b] H H1) (hB : Box H1 b n) (hp : H1 p = none) : H p = none := by
  cases hh : H p with
  | none => rfl
  | some o =>
    have hb : p ∉ [b] := by simpa using hB.ne hp
    rw [k.get hb hh] at hp
    cases hp
theorem Box.out {H : Hp} {b p : Addr} {n : Nat} (hB : Box H b n) (hp : H p = none) : p ∉ [b] := by simpa using hB.ne hp
theorem Box.outT {H : Hp} {b p : Addr} {n : Nat} {xs : List V} (hB : Box H b n) (hp : H p = some (.tup xs)) : p ∉ [b] := fun z => by
  have z' : p = b := by simpa using z
  obtain ⟨r, s, c, g, _⟩ := hB
  rw [← z', hp] at g
  cases g
theorem Keep.putNew {H H1 : Hp} {bs : List Addr} {p : Addr} {o : HO} (k : Keep bs H H1) (h : H p = none) : Keep bs H (upd H1 p o) := fun a x q => by
  obtain ⟨q1, q2⟩ := hid_some q
  rw [hid_out q1, upd_ne (ne_of_none q2 h)]
  exact k.get q1 q2
theorem Box.put {H : Hp} {b p : Addr} {n : Nat} {o : HO} (h : Box H b n) (hp : p ≠ b) : Box (L2.upd H p o) b n := by
  obtain ⟨r, s, c, g, g'⟩ := h
  exact ⟨r, s, c, by rw [upd_ne hp.symm]; exact g, g'⟩
/-- what is kept is tracked still -/
theorem Keep.live {H H1 : Hp} {b x : Addr} {n : Nat} (k : Keep [b] H H1) (hB : Box H1 b n) (hx : H x ≠ none) : H1 x ≠ none := by
  by_cases e : x = b
  · subst e; exact hB.is
  · cases hh : H x with
    | none => exact absurd hh hx
    | some o =>
      rw [k.get (by simpa using e) hh]
      exact fun z => nomatch z
/-- the data of a table -/
def TblD (n m : Nat) (d : PyData) : Prop := ∃ rows : List PyData, d = .list rows ∧ rows.length = n ∧ ∀ r ∈ rows, ∃ xs : List PyData, r = .list xs ∧ xs.length = m ∧ ∀ x ∈ xs, x = .int 0 ∨ x = .int 1
/-- what a draw promises -/
def spTake : Sp := fun vs H Q _ => ∃ (b : Addr) (m : Int) (n : Nat), vs = [.ref b, .int m] ∧ Box H b n ∧ n ≤ 1000000000 ∧ 1 ≤ m ∧ m ≤ 10000000 ∧
  ∀ (k : Int) (H' : Hp), 0 ≤ k → k < m → Box H' b (n + 1) → Keep [b] H H' → Q (.int k) H'
/-- a draw, read -/
theorem r_take {σ : L2.St} {H : Hp} {Q : VK} {te : TE} {i : Nat} {b : Addr} {m : Int} {n : Nat} (hs : σ[i]? = some (some (.ref b))) (hm : Ev te σ H (.int m)) (hB : Box H b n) (hn : n ≤ 1000000000) (h1 : 1 ≤ m) (h2 : m ≤ 10000000)
    (k : ∀ (k : Int) (H' : Hp), 0 ≤ k → k < m → Box H' b (n + 1) → Keep [b] H H' → Q (.int k) H') : tCall spTake [] E0 (tCons (tVar i) (tCons te tNil)) σ H Q :=
  ⟨.ref b, hs, hm H (Ex.refl H) _ fun H1 e1 => ⟨b, m, n, rfl, hB.mono e1, hn, h1, h2, fun x H2 a1 a2 a3 a4 => k x H2 a1 a2 a3 ((Keep.of e1).trans a4)⟩⟩
theorem ev_cb1 {σ : L2.St} {H : Hp} {r : List V → Hp → VK → Prop} {ta : TE} {x z : V} (h : Ev ta σ H x) (hr : ∀ (H1 : Hp) (Q : VK), Q z H1 → r [x] H1 Q) : Ev (tCB r (tCons ta tNil)) σ H z := ev_cb (ea_cons h ea_nil) fun H1 _ Q q => hr H1 Q (q H1 (Ex.refl _))
theorem ev_cb2 {σ : L2.St} {H : Hp} {r : List V → Hp → VK → Prop} {ta tb : TE} {x y z : V} (h : Ev ta σ H x) (h' : Ev tb σ H y) (hr : ∀ (H1 : Hp) (Q : VK), Q z H1 → r [x, y] H1 Q) : Ev (tCB r (tCons ta (tCons tb tNil))) σ H z := ev_cb (ea_cons h (ea_cons h' ea_nil)) fun H1 _ Q q => hr H1 Q (q H1 (Ex.refl _))
/-- for (k, x) in enumerate(xs), xs left as it is -/
theorem for_enum {K : PySem.W.Frag} {a : Addr} {xs : List V} {g : TG} {tb : TS} {D : Ends} {σ : L2.St} {H : Hp} (Pv : Nat → L2.St → Hp → Prop) (h0 : Pv 0 σ H) (hl : ∀ i σ H, i ≤ xs.length → Pv i σ H → SqL K H a xs)
    (hs : ∀ i x T σ H, xs[i]? = some x → Pv i σ H → H T = none → g (.ref T) σ (upd H T (.tup [.int (i : Nat), x])) fun σ2 H2 => tb { D with nx := Pv (i + 1), ct := Pv (i + 1), bk := D.nx } σ2 H2) (hd : ∀ σ H, Pv xs.length σ H → D.nx σ H) :
    ∃ W : Nat → Nat → L2.St → Hp → Prop, (∃ m, W 0 m σ H) ∧ ∀ i m σ H, W i m σ H → ((Ite K a).stop i H ∧ D.nx σ H) ∨ ((Ite K a).go i H ∧ ∃ N : L2.St → Hp → Prop, (∀ σ' H', N σ' H' → ∃ m', m' < m ∧ W (i + 1) m' σ' H') ∧
      ∀ x H', (Ite K a).yld i H x H' → g x σ H' fun σ2 H2 => tb { D with nx := N, ct := N, bk := D.nx } σ2 H2) := by
  refine ⟨fun i m σ H => i + m = xs.length ∧ Pv i σ H, ⟨xs.length, by omega, h0⟩, fun i m σ H hw => ?_⟩
  obtain ⟨e, p⟩ := hw
  have q := hl i σ H (by omega) p
  cases m with
  | zero =>
    obtain rfl : i = xs.length := by omega
    exact .inl ⟨⟨xs, q, Nat.le_refl _⟩, hd σ H p⟩
  | succ m =>
    have hi : i < xs.length := by omega
    refine .inr ⟨⟨xs, xs[i], q, List.getElem?_eq_getElem hi⟩, Pv (i + 1), fun σ' H' p' => ⟨m, by omega, by omega, p'⟩, fun v H' y => ?_⟩
    obtain ⟨T, x, rfl, hT, rfl, hx⟩ := y
    exact hs i x T σ H (hx xs q) p hT
theorem q_forE {K : PySem.W.Frag} {σ : L2.St} {H : Hp} {tl : TE} {i j : Nat} {xs : List V} {tu tz : TS} {D : Ends} (h : EvL tl σ H xs) (Pv : Addr → Nat → L2.St → Hp → Prop) (h0 : ∀ p H1, H p = none → Same H H1 → H1 p = some (.lst xs) → Pv p 0 σ H1)
    (hl : ∀ p k σ' H', k ≤ xs.length → Pv p k σ' H' → SqL K H' p xs)
    (hs : ∀ p (k : Nat) x T σ' H', xs[k]? = some x → Pv p k σ' H' → H' T = none → tu { D with nx := Pv p (k + 1), ct := Pv p (k + 1), bk := tz D } ((σ'.set i (some (.int (k : Nat)))).set j (some x)) (upd H' T (.tup [.int (k : Nat), x])))
    (hd : ∀ p σ' H', Pv p xs.length σ' H' → tz D σ' H') : tSeq (tFor (iEnum K (tCons tl tNil)) (gTup K 2 (gCons (gName i) (gCons (gName j) gNil))) tu) tz D σ H := by
  refine h H (Ex.refl _) _ fun p H1 np e1 hp => ⟨p, xs, rfl, SqL.of hp, ?_⟩
  refine for_enum (D := { D with nx := tz D }) (Pv p) (h0 p H1 np e1 hp) (hl p) (fun k x T σ' H' hx hP hT => ?_) (hd p)
  exact ⟨T, _, rfl, SqT.of upd_same, rfl, _, _, rfl, _, _, rfl, rfl, hs p k x T σ' H' hx hP hT⟩
/-- [e for k in range(n)], e a draw or more at each turn -/
theorem r_lcB {σ : L2.St} {H : Hp} {Q : VK} {ta : TA} {te : TE} {j n : Nat} {vs : List Nat} {b : Addr} {N c : Nat} {bs : List Addr} (p : PyData → Prop) (hb : b ∈ bs) (hbs : ∀ x ∈ bs, H x ≠ none) (hB : Box H b N) (ha : EvA ta σ H [.int (n : Int)]) (hn : n ≤ 40000)
    (hw : ∀ x, wipe ((wipe σ vs).set j (some x)) vs = wipe σ vs)
    (step : ∀ (i : Nat) (H' : Hp) (cs : List Addr) (Q' : VK), i < n → (∀ x ∈ bs, x ∈ cs) → (∀ x ∈ cs, H' x ≠ none) → Box H' b (N + c * i) → Keep cs H H' →
      (∀ (y : V) (d : PyData) (H2 : Hp), Box H2 b (N + c * (i + 1)) → Keep [b] H' H2 → Dq (hid cs H2) y d → p d → Q' y H2) → te ((wipe σ vs).set j (some (.int (i : Int)))) H' Q')
    (k : ∀ (D : Addr) (ds : List PyData) (H' : Hp), H D = none → Box H' b (N + c * n) → Keep [b] H H' → Dq (hid bs H') (.ref D) (.list ds) → ds.length = n → (∀ d ∈ ds, p d) → Q (.ref D) H') :
    tLc (iRng1 ta) (gName j) tYes te vs σ H Q := by
  refine ha H (Ex.refl _) _ fun H1 e1 => ⟨n, rfl, by omega, by omega, fun D hD => ?_⟩
  have hHD : H D = none := fresh_back e1 hD
  have hDb : D ∉ bs := fun z => hbs D z hHD
  have toN : ((n : Int)).toNat = n := by omega
  rw [toN]
  refine lc_range (lo := 0) (n := n) (fun i H' => ∃ (acc : List V) (ds : List PyData), H' D = some (.lst acc) ∧ ds.length = i ∧ DqAll (hid (D :: bs) H') acc ds ∧ (∀ d ∈ ds, p d) ∧ Box H' b (N + c * i) ∧ Keep [b] H H')
    ⟨[], [], upd_same, rfl, .nil, (fun _ z => nomatch z), (hB.mono e1).upd hD, (Keep.of e1).new hD⟩ (fun i H' hi hp => ?_) (fun H' hp => ?_)
  · obtain ⟨acc, ds, h1, h2, h3, h4, h5, h6⟩ := hp
    have e0 : (0 : Int) + (i : Int) = (i : Int) := Int.zero_add _
    show wipe ((wipe σ vs).set j (some (.int ((0 : Int) + (i : Int))))) vs = wipe σ vs ∧ te ((wipe σ vs).set j (some (.int ((0 : Int) + (i : Int))))) H' _
    rw [e0]
    refine ⟨hw _, step i H' (D :: bs) _ hi (fun x hx => List.mem_cons_of_mem _ hx) (fun x hx => ?_) h5 (h6.more fun x hx => ?_) fun y d H2 b1 b2 b3 b4 => ?_⟩
    · rcases List.mem_cons.mp hx with rfl | hx
      · rw [h1]; exact fun z => nomatch z
      · by_cases hxb : x = b
        · subst hxb; exact h5.is
        · intro z
          cases hh : H x with
          | none => exact hbs x hx hh
          | some o =>
            rw [h6.get (by simpa using hxb) hh] at z
            cases z
    · have e : x = b := by simpa using hx
      subst e
      exact List.mem_cons_of_mem _ hb
    · have hbD : D ≠ b := fun z => hDb (z ▸ hb)
      have hb1 : D ∉ [b] := by simpa using hbD
      refine ⟨acc, b2.get hb1 h1, ?_, acc ++ [y], ds ++ [d], upd_same, by rw [List.length_append, h2] <;> rfl, ?_, ?_, ?_, ?_⟩
      · have := h3.len
        rw [h2] at this
        exact Nat.lt_of_le_of_lt (Nat.le_of_eq this) (Nat.lt_of_lt_of_le (Nat.lt_trans hi (Nat.lt_of_le_of_lt hn (by decide : 40000 < 50000))) (by decide))
      · have kk : Keep (D :: bs) H' (upd H2 D (.lst (acc ++ [y]))) := (b2.more fun x hx => by
          have e : x = b := by simpa using hx
          subst e
          exact List.mem_cons_of_mem _ hb).put (List.mem_cons_self ..)
        have k2 : Keep (D :: bs) H2 (upd H2 D (.lst (acc ++ [y]))) := (Keep.refl _ _).put (List.mem_cons_self ..)
        exact (kk.dqAll h3).append (.cons (k2.dq b3) .nil)
      · intro d' hd'
        rcases List.mem_append.mp hd' with hd' | hd'
        · exact h4 d' hd'
        · have e : d' = d := by simpa using hd'
          subst e
          exact b4
      · obtain ⟨r, s, c', g1, g2⟩ := b1
        exact ⟨r, s, c', by rw [upd_ne hbD.symm]; exact g1, g2⟩
      · intro x o q
        obtain ⟨q1, q2⟩ := hid_some q
        have hxD : x ≠ D := ne_of_none q2 hHD
        rw [hid_out q1, upd_ne hxD]
        exact b2.get q1 (h6.get q1 q2)
  · obtain ⟨acc, ds, h1, h2, h3, h4, h5, h6⟩ := hp
    refine k D ds H' hHD h5 h6 (.lst (by rw [hid_out hDb]; exact h1) (h3.mono (hid_less fun x hx => List.mem_cons_of_mem _ hx))) h2 h4
end Cg

set_option Elab.async false
set_option linter.all false
set_option maxRecDepth 100000
namespace Cg
open PySem PySem.Spec PyProof.Rows L2 Evl
/-! ### readings by the data: nothing is changed, bs is what may be hidden -/
def Live (bs : List Addr) (H : Hp) : Prop := ∀ x ∈ bs, H x ≠ none
def EvQ (bs : List Addr) (te : TE) (σ : L2.St) (H : Hp) (d : PyData) : Prop := ∀ H1, Same H H1 → ∀ Q : VK, (∀ v H2, Same H1 H2 → Dq (hid bs H2) v d → Q v H2) → te σ H1 Q
def EvQA (bs : List Addr) (ta : TA) (σ : L2.St) (H : Hp) (ds : List PyData) : Prop := ∀ H1, Same H H1 → ∀ Q : List V → Hp → Prop, (∀ vs H2, Same H1 H2 → DqAll (hid bs H2) vs ds → Q vs H2) → ta σ H1 Q
def cutG {α : Type} (xs : List α) (lo hi : Option Int) : List α := (xs.drop (HT.sIx xs.length 0 lo)).take (HT.sIx xs.length xs.length hi - HT.sIx xs.length 0 lo)
section
variable {bs : List Addr} {K : PySem.W.Frag} {σ : L2.St} {H H' : Hp} {ta tb te : TE} {v : V} {d e : PyData} {ds es : List PyData} {T : String} {b : Bool}
theorem Live.mono (l : Live bs H) (e : Same H H') : Live bs H' := fun x hx => by
  cases hh : H x with
  | none => exact absurd hh (l x hx)
  | some o => rw [e x o hh]; exact fun z => nomatch z
theorem Live.out {p : Addr} (l : Live bs H) (hp : H p = none) : p ∉ bs := fun z => l p z hp
theorem Live.keep {b : Addr} {n : Nat} (l : Live bs H) (k : Keep [b] H H') (hB : Box H' b n) : Live bs H' := fun x hx => k.live hB (l x hx)
theorem keep_up {b : Addr} (hb : b ∈ bs) (k : Keep [b] H H') : Keep bs H H' := k.more fun x hx => by
  have e : x = b := by simpa using hx
  subst e
  exact hb
theorem same_hid (e : Same H H') : Same (hid bs H) (hid bs H') := Keep.of e
theorem EvQ.mono (s : Same H H') (h : EvQ bs te σ H d) : EvQ bs te σ H' d := fun H1 a Q q => h H1 (s.trans a) Q q
theorem eq_ev (h : Ev te σ H v) (hd : Dq (hid bs H) v d) : EvQ bs te σ H d := fun H1 a Q q => h H1 a Q fun H2 e2 => q v H2 e2 (hd.mono (same_hid (a.trans e2)))
theorem eq_var {i : Nat} (h : σ[i]? = some (some v)) (hd : Dq (hid bs H) v d) : EvQ bs (tVar i) σ H d := eq_ev (ev_var h) hd
theorem eq_int {i : Int} (h : Ev te σ H (.int i)) : EvQ bs te σ H (.int i) := eq_ev h (.int i)
theorem eq_bl {b : Bool} (h : Ev te σ H (.bl b)) : EvQ bs te σ H (.bool b) := eq_ev h (.bl b)
theorem eq_non (h : Ev te σ H .non) : EvQ bs te σ H .none := eq_ev h .non
theorem eq_str {x : Str} (h : Ev te σ H (.str x)) : EvQ bs te σ H (.str x) := eq_ev h (.str x)
theorem ev_int {i : Int} (h : EvQ bs te σ H (.int i)) : Ev te σ H (.int i) := fun H1 a Q q => h H1 a Q fun v H2 e2 hd => by
  rw [hd.int_inv]
  exact q H2 e2
theorem qa_nil : EvQA bs tNil σ H [] := fun H1 _ _ q => q [] H1 (Same.refl _) .nil
theorem qa_cons {tr : TA} (h : EvQ bs te σ H d) (hr : EvQA bs tr σ H ds) : EvQA bs (tCons te tr) σ H (d :: ds) := fun H1 a Q q => h H1 a _ fun v H2 e2 hd =>
  hr H2 (a.trans e2) _ fun vs H3 e3 hds => q (v :: vs) H3 (e2.trans e3) (.cons (hd.mono (same_hid e3)) hds)
theorem eq_lst {ta : TA} (l : Live bs H) (h : EvQA bs ta σ H ds) (hz : ds.length ≤ 1000000) : EvQ bs (tLst ta) σ H (.list ds) := fun H1 a Q q => h H1 a _ fun vs H2 e2 hds =>
  ⟨by rw [hds.len]; exact Nat.le_trans hz (by decide), fun p np => q _ _ (e2.trans (Ex.new np)) (.lst (by rw [hid_out ((l.mono (a.trans e2)).out np), upd_same]) (hds.mono (same_hid (Ex.new np))))⟩
theorem eq_tup {ta : TA} (l : Live bs H) (h : EvQA bs ta σ H ds) (hz : ds.length ≤ 1000000) : EvQ bs (tTup ta) σ H (.tuple ds) := fun H1 a Q q => h H1 a _ fun vs H2 e2 hds =>
  ⟨by rw [hds.len]; exact Nat.le_trans hz (by decide), fun p np => q _ _ (e2.trans (Ex.new np)) (.tup (by rw [hid_out ((l.mono (a.trans e2)).out np), upd_same]) (hds.mono (same_hid (Ex.new np))))⟩
theorem eq_cat (l : Live bs H) (ha : EvQ bs ta σ H (.list ds)) (hb : EvQ bs tb σ H (.list es)) (hz : ds.length + es.length ≤ 1000000) : EvQ bs (tOp rCat ta tb) σ H (.list (ds ++ es)) := fun H1 a Q q => ha H1 a _ fun v H2 e2 hd => hb H2 (a.trans e2) _ fun u H3 e3 he => by
  obtain ⟨p, xs, rfl, hp, hx⟩ := (hd.mono (same_hid e3)).list_inv
  obtain ⟨r, ys, rfl, hr, hy⟩ := he.list_inv
  refine ⟨p, r, xs, ys, rfl, rfl, (hid_some hp).2, (hid_some hr).2, by rw [hx.len, hy.len]; exact Nat.le_trans hz (by decide), fun z nz => q _ _ ((e2.trans e3).trans (Ex.new nz)) (.lst (by rw [hid_out ((l.mono ((a.trans e2).trans e3)).out nz), upd_same]) ?_)⟩
  exact (hx.append hy).mono (same_hid (Ex.new nz))
theorem DqAll.cut {xs : List V} (h : DqAll H xs ds) (lo hi : Option Int) : DqAll H (cutV xs lo hi) (cutG ds lo hi) := by
  unfold cutV cutG
  rw [h.len]
  exact (h.drop _).take _
theorem eq_sl {tl th : TO} {lo hi : Option Int} (l : Live bs H) (ha : EvQ bs ta σ H (.list ds)) (h1 : EvO tl σ H lo) (h2 : EvO th σ H hi) : EvQ bs (tSl (rSlL K) ta tl th) σ H (.list (cutG ds lo hi)) := fun H1 a Q q => ha H1 a _ fun v H2 e2 hd =>
  h1 H2 (a.trans e2) _ fun H3 e3 => h2 H3 ((a.trans e2).trans e3) _ fun H4 e4 => by
  obtain ⟨p, xs, rfl, hp, hx⟩ := (hd.mono (same_hid (e3.trans e4))).list_inv
  exact ⟨p, xs, rfl, SqL.of (hid_some hp).2, fun z nz => q _ _ (((e2.trans e3).trans e4).trans (Ex.new nz)) (.lst (by rw [hid_out ((l.mono (((a.trans e2).trans e3).trans e4)).out nz), upd_same]) ((hx.cut lo hi).mono (same_hid (Ex.new nz))))⟩
theorem DqAll.flat {xs : List V} (h : DqAll H xs ds) : ∀ n : Nat, DqAll H (List.replicate n xs).flatten (List.replicate n ds).flatten
  | 0 => .nil
  | n + 1 => by
    rw [List.replicate_succ, List.flatten_cons, List.replicate_succ, List.flatten_cons]
    exact h.append (h.flat n)
theorem eq_rep {n : Nat} (l : Live bs H) (ha : EvQ bs ta σ H (.list ds)) (hb : Ev tb σ H (.int (n : Int))) (hn : n ≤ 1000000) (hz : ds.length * n ≤ 1000000) : EvQ bs (tOp rRep ta tb) σ H (.list (List.replicate n ds).flatten) := fun H1 a Q q => ha H1 a _ fun v H2 e2 hd => hb H2 (a.trans e2) _ fun H3 e3 => by
  obtain ⟨p, xs, rfl, hp, hx⟩ := (hd.mono (same_hid e3)).list_inv
  have e : ((n : Int)).toNat = n := by simp
  refine ⟨p, n, xs, rfl, rfl, (hid_some hp).2, by omega, by omega, by rw [hx.len, e]; exact Nat.le_trans hz (by decide), fun z nz => q _ _ ((e2.trans e3).trans (Ex.new nz)) (.lst (by rw [hid_out ((l.mono ((a.trans e2).trans e3)).out nz), upd_same]) ?_)⟩
  rw [e]
  exact (hx.flat n).mono (same_hid (Ex.new nz))
theorem eq_tupleL (l : Live bs H) (ha : EvQ bs ta σ H (.list ds)) : EvQ bs (tCB (rTupS K) (tCons ta tNil)) σ H (.tuple ds) := fun H1 a Q q => ha H1 a _ fun v H2 e2 hd => by
  obtain ⟨p, xs, rfl, hp, hx⟩ := hd.list_inv
  exact ⟨p, xs, rfl, .inl ⟨SqL.of (hid_some hp).2, fun z nz => q _ _ (e2.trans (Ex.new nz)) (.tup (by rw [hid_out ((l.mono (a.trans e2)).out nz), upd_same]) (hx.mono (same_hid (Ex.new nz))))⟩⟩
theorem eq_listL (l : Live bs H) (ha : EvQ bs ta σ H (.list ds)) : EvQ bs (tCB (rListS K) (tCons ta tNil)) σ H (.list ds) := fun H1 a Q q => ha H1 a _ fun v H2 e2 hd => by
  obtain ⟨p, xs, rfl, hp, hx⟩ := hd.list_inv
  exact ⟨p, xs, rfl, .inl (SqL.of (hid_some hp).2), fun z nz => q _ _ (e2.trans (Ex.new nz)) (.lst (by rw [hid_out ((l.mono (a.trans e2)).out nz), upd_same]) (hx.mono (same_hid (Ex.new nz))))⟩
theorem atG {xs : List V} {i : Int} (h : DqAll H xs ds) (hi : atI ds i = some d) : ∃ x, atI xs i = some x ∧ Dq H x d := by
  unfold atI at hi ⊢
  rw [h.len]
  cases hx : ixN ds.length i with
  | none => rw [hx] at hi; cases hi
  | some j =>
    rw [hx] at hi
    exact h.at hi
theorem eq_ix {i : Int} (ha : EvQ bs ta σ H (.list ds)) (hb : Ev tb σ H (.int i)) (hi : atI ds i = some d) : EvQ bs (tOp (rIxL K) ta tb) σ H d := fun H1 a Q q => ha H1 a _ fun v H2 e2 hd => hb H2 (a.trans e2) _ fun H3 e3 => by
  obtain ⟨p, xs, rfl, hp, hx⟩ := (hd.mono (same_hid e3)).list_inv
  obtain ⟨x, h1, h2⟩ := atG hx hi
  exact ⟨p, xs, i, x, rfl, rfl, SqL.of (hid_some hp).2, h1, q x H3 (e2.trans e3) h2⟩
theorem ev_isiQ (ha : EvQ bs ta σ H d) (hk : kitB (tyN d) T = some b) : Ev (tCB (rIsi K) (tCons ta (tCons (tC (.ty T)) tNil))) σ H (.bl b) := fun H1 e Q q =>
  ha H1 e _ fun v H2 e2 hd => ⟨v, .ty T, .type (tyN d), .type T, b, rfl, .ty T, (dq_vis hd).ty, kit_ty hk, q H2 e2⟩
theorem ev_lenQ (ha : EvQ bs ta σ H (.list ds)) : Ev (tCB (rLenS K) (tCons ta tNil)) σ H (.int (ds.length : Int)) := fun H1 e Q q => ha H1 e _ fun v H2 e2 hd => by
  obtain ⟨p, xs, rfl, hp, hx⟩ := hd.list_inv
  refine ⟨p, xs, rfl, .inl (SqL.of (hid_some hp).2), ?_⟩
  rw [hx.len]
  exact q H2 e2
theorem ev_lenQT (ha : EvQ bs ta σ H (.tuple ds)) : Ev (tCB (rLenS K) (tCons ta tNil)) σ H (.int (ds.length : Int)) := fun H1 e Q q => ha H1 e _ fun v H2 e2 hd => by
  obtain ⟨p, xs, rfl, hp, hx⟩ := hd.tup_inv
  refine ⟨p, xs, rfl, .inr (SqT.of (hid_some hp).2), ?_⟩
  rw [hx.len]
  exact q H2 e2
theorem ev_neQ (ha : EvQ bs ta σ H d) (hb : EvQ bs tb σ H e) (s1 : SeqAt.shaped d = true) (s2 : SeqAt.shaped e = true) : Ev (tOp (rNeD K) ta tb) σ H (.bl (!PyData.eqv d e)) := fun H1 a Q q => ha H1 a _ fun v H2 e2 hd => hb H2 (a.trans e2) _ fun u H3 e3 he =>
  ⟨d, e, (dq_vis (hd.mono (same_hid e3))).dp, (dq_vis he).dp, s1, s2, q H3 (e2.trans e3)⟩
theorem ev_eqQ (ha : EvQ bs ta σ H d) (hb : EvQ bs tb σ H e) (s1 : SeqAt.shaped d = true) (s2 : SeqAt.shaped e = true) : Ev (tOp (rEqD K) ta tb) σ H (.bl (PyData.eqv d e)) := fun H1 a Q q => ha H1 a _ fun v H2 e2 hd => hb H2 (a.trans e2) _ fun u H3 e3 he =>
  ⟨d, e, (dq_vis (hd.mono (same_hid e3))).dp, (dq_vis he).dp, s1, s2, q H3 (e2.trans e3)⟩
theorem eq_if {t : TT} {c : Bool} (h : EvT t σ H c) (h1 : c = true → EvQ bs ta σ H d) (h2 : c = false → EvQ bs tb σ H d) : EvQ bs (tIf t ta tb) σ H d := fun H1 a Q q => h H1 a _ fun H2 e2 => by
  cases c with
  | true => exact iteT (h1 rfl H2 (a.trans e2) Q fun v H3 e3 hd => q v H3 (e2.trans e3) hd)
  | false => exact iteF (h2 rfl H2 (a.trans e2) Q fun v H3 e3 hd => q v H3 (e2.trans e3) hd)
mutual
theorem canLay_ok : ∀ d : PyData, okD d = true → d.canLay0 = true
  | .none, _ => rfl
  | .bool _, _ => rfl
  | .int _, _ => rfl
  | .str x, h => h
  | .list xs, h => canLayAll_ok xs h
  | .tuple xs, h => canLayAll_ok xs h
  | .dict _, h => by cases h
theorem canLayAll_ok : ∀ xs : List PyData, okAll xs = true → PyData.canLayAll0 xs = true
  | [], _ => rfl
  | x :: r, h => by
    have h' : (okD x && okAll r) = true := h
    rw [Bool.and_eq_true] at h'
    show (PyData.canLay0 x && PyData.canLayAll0 r) = true
    rw [canLay_ok x h'.1, canLayAll_ok r h'.2] <;> rfl
end
theorem shaped_ok {d : PyData} (h : okD d = true) (hd : d.depth ≤ 64) : SeqAt.shaped d = true := by
  show (d.canLay0 && decide (d.depth ≤ 64)) = true
  rw [canLay_ok d h, decide_eq_true hd] <;> rfl
/-! statements -/
variable {D : Ends} {tz : TS}
theorem q_asgQ {i : Nat} (h : EvQ bs te σ H d) (k : ∀ v H1, Same H H1 → Dq (hid bs H1) v d → tz D (σ.set i (some v)) H1) : tSeq (tAsg te (gName i)) tz D σ H := h H (Same.refl _) _ fun v H1 e1 hd => k v H1 e1 hd
theorem s_asgQ {i : Nat} (h : EvQ bs te σ H d) (k : ∀ v H1, Same H H1 → Dq (hid bs H1) v d → D.nx (σ.set i (some v)) H1) : tAsg te (gName i) D σ H := h H (Same.refl _) _ fun v H1 e1 hd => k v H1 e1 hd
theorem s_retQ (h : EvQ bs te σ H d) (k : ∀ v H1, Same H H1 → Dq (hid bs H1) v d → D.rt v H1) : tRet te D σ H := h H (Same.refl _) _ fun v H1 e1 hd => k v H1 e1 hd
/-- a, b = x, y -/
theorem q_parQ {i j : Nat} {d2 : PyData} (h : EvQA bs (tCons ta (tCons tb tNil)) σ H [d, d2]) (k : ∀ v u H1, Same H H1 → Dq (hid bs H1) v d → Dq (hid bs H1) u d2 → tz D ((σ.set i (some v)).set j (some u)) H1) : tSeq (tPar i j (tCons ta (tCons tb tNil))) tz D σ H := by
  show (tCons ta (tCons tb tNil)) σ H (fun vs H1 => ∃ v w, vs = [v, w] ∧ tz D ((σ.set i (some v)).set j (some w)) H1)
  refine h H (Same.refl _) _ fun vs H1 e1 hd => ?_
  cases hd with
  | cons h1 t1 => cases t1 with
    | cons h2 t2 => cases t2 with
      | nil => exact ⟨_, _, rfl, k _ _ H1 e1 h1 h2⟩
/-- x = draw -/
theorem q_take {i i0 : Nat} {b : Addr} {m : Int} {n : Nat} (h0 : σ[i0]? = some (some (.ref b))) (hm : Ev te σ H (.int m)) (hB : Box H b n) (hn : n ≤ 1000000000) (h1 : 1 ≤ m) (h2 : m ≤ 10000000)
    (k : ∀ (j : Nat) (H' : Hp), (j : Int) < m → Box H' b (n + 1) → Keep [b] H H' → tz D (σ.set i (some (.int (j : Int)))) H') : tSeq (tAsg (tCall spTake [] E0 (tCons (tVar i0) (tCons te tNil))) (gName i)) tz D σ H :=
  r_take h0 hm hB hn h1 h2 fun x H' a1 a2 a3 a4 => by
    have e : x = ((x.toNat : Nat) : Int) := by omega
    have := k x.toNat H' (by omega) a3 a4
    rw [← e] at this
    exact this
/-- x = LIST[draw] -/
theorem q_pick {i i0 : Nat} {b : Addr} {m : Int} {n : Nat} {tl : TE} (h0 : σ[i0]? = some (some (.ref b))) (hb : b ∈ bs) (hl : EvQ bs tl σ H (.list ds)) (hm : Ev te σ H (.int m)) (hB : Box H b n) (hn : n ≤ 1000000000) (h1 : 1 ≤ m) (h2 : m ≤ 10000000) (h3 : m ≤ ds.length)
    (k : ∀ (j : Nat) (hj : j < ds.length) (x : V) (H' : Hp), Dq (hid bs H') x ds[j] → Box H' b (n + 1) → Keep [b] H H' → tz D (σ.set i (some x)) H') : tSeq (tAsg (tOp (rIxL K) tl (tCall spTake [] E0 (tCons (tVar i0) (tCons te tNil)))) (gName i)) tz D σ H := by
  have go : tl σ H fun x H1 => tCall spTake [] E0 (tCons (tVar i0) (tCons te tNil)) σ H1 fun y H2 => rIxL K x y H2 fun z H3 => tz D (σ.set i (some z)) H3 := by
    refine hl H (Same.refl _) _ fun v H1 e1 hd => ?_
    refine r_take h0 (fun H2 e2 => hm H2 (e1.trans e2)) (hB.mono e1) hn h1 h2 fun x H' a1 a2 a3 a4 => ?_
    obtain ⟨p, xs, rfl, hp, hx⟩ := ((keep_up hb a4).dq hd).list_inv
    have hj : x.toNat < ds.length := by omega
    have e : x = ((x.toNat : Nat) : Int) := by omega
    obtain ⟨y, gy, dy⟩ := atG hx (atI_nat (List.getElem?_eq_getElem hj))
    rw [← e] at gy
    exact ⟨p, xs, x, y, rfl, rfl, SqL.of (hid_some hp).2, gy, k x.toNat hj y H' dy a3 ((Keep.of e1).trans a4)⟩
  exact go
/-! new lists, comprehensions -/
theorem hid_fresh {D : Addr} {o : HO} (hD : H D = none) : Same (hid bs H) (hid (D :: bs) (upd H D o)) := fun a x q => by
  obtain ⟨h1, h2⟩ := hid_some q
  have hne : a ≠ D := ne_of_none h2 hD
  rw [hid_out (fun z => (List.mem_cons.mp z).elim hne h1), upd_ne hne]
  exact h2
/-- a new list of its own -/
def EvN (bs : List Addr) (te : TE) (σ : L2.St) (H : Hp) (ds : List PyData) : Prop := ∀ H1, Same H H1 → ∀ Q : VK, (∀ p xs H2, H1 p = none → Same H1 H2 → H2 p = some (.lst xs) → DqAll (hid (p :: bs) H2) xs ds → Q (.ref p) H2) → te σ H1 Q
theorem en_lst {ta : TA} (h : EvQA bs ta σ H ds) (hz : ds.length ≤ 1000000) : EvN bs (tLst ta) σ H ds := fun H1 a Q q => h H1 a _ fun vs H2 e2 hds =>
  ⟨by rw [hds.len]; exact Nat.le_trans hz (by decide), fun p np => q p vs _ (fresh_back e2 np) (e2.trans (Ex.new np)) upd_same (hds.mono (hid_fresh np))⟩
theorem en_cat (ha : EvQ bs ta σ H (.list ds)) (hb : EvQ bs tb σ H (.list es)) (hz : ds.length + es.length ≤ 1000000) : EvN bs (tOp rCat ta tb) σ H (ds ++ es) := fun H1 a Q q => ha H1 a _ fun v H2 e2 hd => hb H2 (a.trans e2) _ fun u H3 e3 he => by
  obtain ⟨p, xs, rfl, hp, hx⟩ := (hd.mono (same_hid e3)).list_inv
  obtain ⟨r, ys, rfl, hr, hy⟩ := he.list_inv
  exact ⟨p, r, xs, ys, rfl, rfl, (hid_some hp).2, (hid_some hr).2, by rw [hx.len, hy.len]; exact Nat.le_trans hz (by decide), fun z nz => q z _ _ (fresh_back (e2.trans e3) nz) ((e2.trans e3).trans (Ex.new nz)) upd_same ((hx.append hy).mono (hid_fresh nz))⟩
theorem en_eq (l : Live bs H) (h : EvN bs te σ H ds) : EvQ bs te σ H (.list ds) := fun H1 a Q q => h H1 a Q fun p xs H2 np e2 hp hx =>
  q (.ref p) H2 e2 (.lst (by rw [hid_out ((l.mono a).out np)]; exact hp) (hx.mono (hid_less fun x hx => List.mem_cons_of_mem _ hx)))
theorem q_asgN {i : Nat} (h : EvN bs te σ H ds) (k : ∀ p xs H1, H p = none → Same H H1 → H1 p = some (.lst xs) → DqAll (hid (p :: bs) H1) xs ds → tz D (σ.set i (some (.ref p))) H1) : tSeq (tAsg te (gName i)) tz D σ H :=
  h H (Same.refl _) _ fun p xs H1 np e1 hp hx => k p xs H1 np e1 hp hx
/-- [e for x in xs], data by data -/
theorem en_lc {tl : TE} {j : Nat} {vs : List Nat} (g : PyData → PyData) (l : Live bs H) (h : EvQ bs tl σ H (.list ds)) (hz : ds.length ≤ 40000) (hw : ∀ x, wipe ((wipe σ vs).set j (some x)) vs = wipe σ vs)
    (he : ∀ (cs : List Addr) (x : V) (d : PyData) (H1 : Hp), Same H H1 → (∀ y ∈ bs, y ∈ cs) → Live cs H1 → d ∈ ds → Dq (hid cs H1) x d → EvQ cs te ((wipe σ vs).set j (some x)) H1 (g d)) :
    EvN bs (tLc (iList K tl) (gName j) tYes te vs) σ H (ds.map g) := fun H0 a Q q => h H0 a _ fun v H1 e1 hd => by
  obtain ⟨p, xs, rfl, hp, hx⟩ := hd.list_inv
  have hp' := (hid_some hp).2
  refine ⟨p, rfl, ⟨xs, SqL.of hp'⟩, fun D hD => ?_⟩
  have l1 : Live bs H1 := l.mono (a.trans e1)
  have hx0 : DqAll (hid (D :: bs) (upd H1 D (.lst []))) xs ds := hx.mono (hid_fresh hD)
  refine lc_list (K := K) (a := p) (xs := xs) (fun i H' => ∃ acc : List V, H' D = some (.lst acc) ∧ DqAll (hid (D :: bs) H') acc ((ds.take i).map g) ∧ Same H1 H' ∧ DqAll (hid (D :: bs) H') xs ds)
    ⟨[], upd_same, .nil, Ex.new hD, hx0⟩ (fun i H' _ hP => ?_) (fun i x H' hi hP => ?_) (fun H' hP => ?_)
  · obtain ⟨_, _, _, sm, _⟩ := hP
    exact SqL.of (sm _ _ hp')
  · obtain ⟨acc, h1, h2, h3, h4⟩ := hP
    obtain ⟨d, gd, dd⟩ := h4.get hi
    have hil := (List.getElem?_eq_some_iff.mp gd).1
    have lD : Live (D :: bs) H' := fun y hy => by
      rcases List.mem_cons.mp hy with rfl | hy
      · rw [h1]; exact fun z => nomatch z
      · exact (l1.mono h3) y hy
    refine ⟨hw x, ?_⟩
    show te ((wipe σ vs).set j (some x)) H' fun y H4 => ∃ acc, H4 D = some (.lst acc) ∧ acc.length < sizeLine ∧ _
    refine he (D :: bs) x d H' ((a.trans e1).trans h3) (fun y hy => List.mem_cons_of_mem _ hy) lD (List.mem_of_getElem? gd) dd H' (Same.refl _) _ fun y H4 e4 dy => ⟨acc, e4 _ _ h1, ?_, acc ++ [y], upd_same, ?_, ?_, ?_⟩
    · have := h2.len
      rw [List.length_map, List.length_take] at this
      exact Nat.lt_of_le_of_lt (show acc.length ≤ 40000 by omega) (by decide)
    · have kk : Keep (D :: bs) H4 (upd H4 D (.lst (acc ++ [y]))) := (Keep.refl _ _).put (List.mem_cons_self ..)
      rw [List.take_add_one, gd, List.map_append]
      exact ((h2.mono (same_hid e4)).mono kk).append (.cons (dy.mono kk) .nil)
    · exact fun c o q => by
        rw [upd_ne (ne_of_none q hD)]
        exact e4 _ _ (h3 _ _ q)
    · have kk : Keep (D :: bs) H4 (upd H4 D (.lst (acc ++ [y]))) := (Keep.refl _ _).put (List.mem_cons_self ..)
      exact (h4.mono (same_hid e4)).mono kk
  · obtain ⟨acc, h1, h2, h3, h4⟩ := hP
    rw [h4.len, List.take_of_length_le (Nat.le_refl _)] at h2
    exact q D acc H' (fresh_back e1 hD) (e1.trans h3) h1 h2
theorem eq_lc {tl : TE} {j : Nat} {vs : List Nat} (g : PyData → PyData) (l : Live bs H) (h : EvQ bs tl σ H (.list ds)) (hz : ds.length ≤ 40000) (hw : ∀ x, wipe ((wipe σ vs).set j (some x)) vs = wipe σ vs)
    (he : ∀ (cs : List Addr) (x : V) (d : PyData) (H1 : Hp), Same H H1 → (∀ y ∈ bs, y ∈ cs) → Live cs H1 → d ∈ ds → Dq (hid cs H1) x d → EvQ cs te ((wipe σ vs).set j (some x)) H1 (g d)) :
    EvQ bs (tLc (iList K tl) (gName j) tYes te vs) σ H (.list (ds.map g)) := en_eq l (en_lc g l h hz hw he)
theorem ev_reprQ (ha : EvQ bs ta σ H d) (h1 : okD d = true) (h2 : d.depth ≤ 40) (h3 : wz d ≤ 1000000) : Ev (tCB (rReprD K) (tCons ta tNil)) σ H (.str d.shown) := fun H1 a Q q => ha H1 a _ fun v H2 e2 hd =>
  ⟨v, d, rfl, (dq_vis hd).dp, h1, h2, Nat.le_trans h3 (by decide), q H2 e2⟩
end
/-- such a def, kept where no repr is under way -/
structure DfG (P : Program) (w : World) (K : PySem.W.Frag) (mg : Str → Option Value) (base : Heap) (k : Nat) (x : Str) (st : Stmt) (ps : List Str) (f : Addr) (fd : FuncData) (sp : Sp) : Prop where
  F : Fun K x x st f fd
  g : mg x = some (.ref f)
  b : Binds K fd ps []
  G : FnG P w K mg base k f fd ps sp
end Cg

set_option Elab.async false
set_option linter.all false
set_option maxRecDepth 100000
namespace Cg
open PySem PySem.Spec PyProof.Rows L2 Evl
/-! ### lists of data: what holds of each -/
theorem okAll_iff : ∀ {xs : List PyData}, okAll xs = true ↔ ∀ x ∈ xs, okD x = true
  | [] => ⟨(fun _ _ z => nomatch z), fun _ => rfl⟩
  | x :: r => by
    show (okD x && okAll r) = true ↔ _
    rw [Bool.and_eq_true, okAll_iff (xs := r)]
    exact ⟨fun h y hy => (List.mem_cons.mp hy).elim (fun e => e ▸ h.1) (h.2 y), fun h => ⟨h x (List.mem_cons_self ..), fun y hy => h y (List.mem_cons_of_mem _ hy)⟩⟩
theorem depthAll_iff {k : Nat} : ∀ {xs : List PyData}, PyData.depthAll xs ≤ k ↔ ∀ x ∈ xs, x.depth ≤ k
  | [] => ⟨(fun _ _ z => nomatch z), fun _ => Nat.zero_le _⟩
  | x :: r => by
    show max x.depth (PyData.depthAll r) ≤ k ↔ _
    rw [Nat.max_le, depthAll_iff (xs := r)]
    exact ⟨fun h y hy => (List.mem_cons.mp hy).elim (fun e => e ▸ h.1) (h.2 y), fun h => ⟨h x (List.mem_cons_self ..), fun y hy => h y (List.mem_cons_of_mem _ hy)⟩⟩
theorem wzAll_append : ∀ (xs ys : List PyData), wzAll (xs ++ ys) = wzAll xs + wzAll ys
  | [], ys => (Nat.zero_add _).symm
  | x :: r, ys => by
    show wz x + 2 + wzAll (r ++ ys) = wz x + 2 + wzAll r + wzAll ys
    rw [wzAll_append r ys]
    omega
theorem wzAll_split (n : Nat) (xs : List PyData) : wzAll (xs.take n) + wzAll (xs.drop n) = wzAll xs := by rw [← wzAll_append, List.take_append_drop]
theorem wzAll_drop1 (xs : List PyData) (n : Nat) : wzAll (xs.drop (n + 1)) ≤ wzAll (xs.drop n) := by
  have h := wzAll_split 1 (xs.drop n)
  rw [List.drop_drop] at h
  omega
theorem wzAll_le {R : Nat} : ∀ {xs : List PyData}, (∀ x ∈ xs, wz x ≤ R) → wzAll xs ≤ (R + 2) * xs.length
  | [], _ => Nat.zero_le _
  | x :: r, h => by
    have h1 := wzAll_le (xs := r) fun y hy => h y (List.mem_cons_of_mem _ hy)
    have h2 := h x (List.mem_cons_self ..)
    show wz x + 2 + wzAll r ≤ (R + 2) * (r.length + 1)
    rw [Nat.mul_succ]
    omega
theorem cut_to {α : Type} (xs : List α) (n : Nat) : cutG xs none (some (n : Int)) = xs.take n := by
  unfold cutG
  rw [HT.sIx_none, HT.sIx_nat, Nat.sub_zero, List.drop_zero]
  by_cases h : n ≤ xs.length
  · rw [Nat.min_eq_left h]
  · rw [Nat.min_eq_right (show xs.length ≤ n by omega), List.take_of_length_le (Nat.le_refl _), List.take_of_length_le (show xs.length ≤ n by omega)]
theorem cut_from {α : Type} (xs : List α) (n : Nat) : cutG xs (some (n : Int)) none = xs.drop n := by
  unfold cutG
  rw [HT.sIx_none, HT.sIx_nat]
  by_cases h : n ≤ xs.length
  · rw [Nat.min_eq_left h, List.take_of_length_le (by rw [List.length_drop]; omega)]
  · rw [Nat.min_eq_right (show xs.length ≤ n by omega), List.drop_of_length_le (Nat.le_refl _), List.drop_of_length_le (show xs.length ≤ n by omega), List.take_nil]
theorem eqv_nil (xs : List PyData) : PyData.eqv (.list xs) (.list []) = xs.isEmpty := by cases xs <;> rfl
/-- `[x] * n` -/
theorem rep_one {α : Type} (n : Nat) (x : α) : (List.replicate n [x]).flatten = List.replicate n x := by
  induction n with
  | zero => rfl
  | succ n ih => rw [List.replicate_succ, List.flatten_cons, ih]; rfl
/-- return all([e for k in range(n)]), each e True, nothing changed that was -/
theorem r_lawAll {K : PySem.W.Frag} {σ : L2.St} {H : Hp} {D : Ends} {ta : TA} {te : TE} {j n : Nat} {vs : List Nat} (ha : EvA ta σ H [.int (n : Int)]) (hn : n ≤ 40000) (hw : ∀ x, wipe ((wipe σ vs).set j (some x)) vs = wipe σ vs)
    (step : ∀ (i : Nat) (H' : Hp) (Q : VK), i < n → Same H H' → (∀ H2, Same H' H2 → Q (.bl true) H2) → te ((wipe σ vs).set j (some (.int (i : Int)))) H' Q) (k : ∀ H', Same H H' → D.rt (.bl true) H') :
    tRet (tCB (rAll K) (tCons (tLc (iRng1 ta) (gName j) tYes te vs) tNil)) D σ H := by
  have go : tLc (iRng1 ta) (gName j) tYes te vs σ H fun x H1 => rAll K [x] H1 D.rt := by
    refine ha H (Ex.refl _) _ fun H1 e1 => ⟨n, rfl, by omega, by omega, fun A nA => ?_⟩
    have toN : ((n : Int)).toNat = n := by omega
    rw [toN]
    refine lc_range (lo := 0) (n := n) (fun i H' => H' A = some (.lst ((List.replicate i true).map V.bl)) ∧ Same H1 H') ⟨upd_same, Ex.new nA⟩ (fun i H' hi hP => ?_) (fun H' hP => ?_)
    · obtain ⟨h1, h2⟩ := hP
      have e0 : (0 : Int) + (i : Int) = (i : Int) := Int.zero_add _
      show wipe ((wipe σ vs).set j (some (.int ((0 : Int) + (i : Int))))) vs = wipe σ vs ∧ te ((wipe σ vs).set j (some (.int ((0 : Int) + (i : Int))))) H' _
      rw [e0]
      refine ⟨hw _, step i H' _ hi (e1.trans h2) fun H2 e2 => ⟨_, e2 _ _ h1, ?_, ?_, fun a o q => ?_⟩⟩
      · rw [List.length_map, List.length_replicate]
        exact Nat.lt_of_le_of_lt (show i ≤ 40000 by omega) (by decide)
      · rw [upd_same, List.replicate_succ', List.map_append]; rfl
      · rw [upd_ne (ne_of_none q nA)]
        exact e2 _ _ (h2 _ _ q)
    · obtain ⟨h1, h2⟩ := hP
      refine ⟨A, List.replicate n true, rfl, SqL.of h1, ?_⟩
      have e : (List.replicate n true).all id = true := List.all_eq_true.mpr fun x hx => by rw [List.eq_of_mem_replicate hx]; rfl
      rw [e]
      exact k H' (e1.trans h2)
  exact go
/-- a box made here is nobody else's -/
theorem same_box {H H1 H2 : Hp} {b : Addr} (e : Same H H1) (nb : H b = none) (k : Keep [b] H1 H2) : Same H H2 := fun a o q => k.get (by simpa using ne_of_none q nb) (e _ _ q)
/-- max(1, len(xs)) -/
theorem ev_max1 {K : PySem.W.Frag} {σ : L2.St} {H : Hp} {i : Nat} {l : Addr} {xs : List V} (hs : σ[i]? = some (some (.ref l))) (hh : H l = some (.lst xs)) :
    EvA (tCons (tCB (fun xs H Q => ∃ i j, xs = [V.int i, V.int j] ∧ Q (V.int (if j > i then j else i)) H) (tCons (tC (.int 1)) (tCons (tCB (rLenS K) (tCons (tVar i) tNil)) tNil))) tNil) σ H [.int ((max 1 xs.length : Nat) : Int)] := by
  refine ea_cons (ev_is (ev_cb2 ev_c (ev_len (ev_var hs) (SqL.of hh)) fun H1 Q q => ⟨_, _, rfl, q⟩) ?_) ea_nil
  split
  · rw [Nat.max_eq_right (by omega)]
  · rw [Nat.max_eq_left (by omega)]; rfl
end Cg

set_option Elab.async false
set_option linter.all false
set_option maxRecDepth 100000
set_option maxHeartbeats 1000000
namespace Cg
open PySem PySem.Spec PyProof.Rows L2 Evl
/-! ### zip of any number of lists, or of tuples -/
def RIt (kd : Bool) (h : Heap) (it a : Addr) (k : Nat) : Prop := match kd with
  | true => h.IsListIter it a k
  | false => h.IsTupleIter it a k
def RSq (kd : Bool) (h : Heap) (a : Addr) (items : Array Value) : Prop := match kd with
  | true => h.IsList a items
  | false => h.IsTuple a items
section
variable {kd : Bool} {h h' : Heap} {it a : Addr} {k : Nat} {items : Array Value}
theorem RIt.keep (x : RIt kd h it a k) (e : ∀ o, h.get? it = some o → h'.get? it = some o) : RIt kd h' it a k := by
  cases kd with
  | true => exact Heap.IsListIter.at x e
  | false => exact Heap.IsTupleIter.at x e
theorem RSq.keep (x : RSq kd h a items) (e : ∀ o, h.get? a = some o → h'.get? a = some o) : RSq kd h' a items := by
  cases kd with
  | true =>
    obtain ⟨o, ho, r⟩ := x
    exact ⟨o, e _ ho, r⟩
  | false =>
    obtain ⟨o, ho, r⟩ := x
    exact ⟨o, e _ ho, r⟩
theorem RIt.obj (x : RIt kd h it a k) : ∃ o, h.get? it = some o ∧ ∀ v, o.data ≠ .cell v := by
  cases kd with
  | true =>
    obtain ⟨o, e, _, d⟩ := x
    exact ⟨o, e, fun v z => by rw [d] at z; cases z⟩
  | false =>
    obtain ⟨o, e, _, d⟩ := x
    exact ⟨o, e, fun v z => by rw [d] at z; cases z⟩
end
section
variable {prog : Program} {w : World} {A : Around} {E : Value → Shared → Prop} {s : Shared} {kd : Bool}
theorem next_item {it l : Addr} {i : Nat} {items : Array Value} {x : Value} {Q : Value → Shared → Prop} (hit : RIt kd s.heap it l i) (hl : RSq kd s.heap l items) (hx : items[i]? = some x)
    (hQ : ∀ h', RIt kd h' it l (i + 1) → Heap.SameBut it s.heap h' → Q x { s with heap := h' }) : wpAny (model prog w) A (Builtin.SmallTypes.nextOf (.ref it)) Q E s := by
  cases kd with
  | true => exact wpAny_nextOf_list_item hit hl hx hQ
  | false => exact RZ.nextOf_tuple_item hit hl hx hQ
theorem next_end {it l : Addr} {i : Nat} {items : Array Value} {Q : Value → Shared → Prop} (hh : A.handled = none) (hit : RIt kd s.heap it l i) (hl : RSq kd s.heap l items) (hx : items[i]? = none)
    (hE : ∀ h' e, Heap.ExtBut it s.heap h' → (∃ o, h'.get? e = some o ∧ o.cls = .type "StopIteration") → E (.ref e) { s with heap := h' }) : wpAny (model prog w) A (Builtin.SmallTypes.nextOf (.ref it)) Q E s := by
  cases kd with
  | true => exact wpAny_nextOf_list_end hh hit hl hx hE
  | false => exact RZ.nextOf_tuple_end hh hit hl hx hE
abbrev zObj (f0 : Value) (f1 : Bool) (TI TO : Addr) : Obj := { cls := .type "zip", dict := none, data := .fields #[f0, .bool f1, .bool false, .ref TI, .ref TO], slots := #[] }
abbrev tObj (vs : Array Value) : Obj := { cls := .type "tuple", data := .seq vs }
def ZF (f0 : Value) : Prop := f0 = .none ∨ ∃ T : Nat, f0 = rawInt T
theorem owned_free {z TI TO : Addr} {f0 : Value} {f1 : Bool} {Q : Bool → Shared → Prop} (hz : s.heap.get? z = some (zObj f0 f1 TI TO)) (hf : ZF f0)
    (h : ∀ (b : Bool) (h' : Heap) (f1' : Bool), h'.get? z = some (zObj f0 f1' TI TO) → Heap.SameBut z s.heap h' → Q b { s with heap := h' }) : wpAny (model prog w) A (Builtin.SmallTypes.ownedTupleIsFree (.ref z)) Q E s := by
  unfold Builtin.SmallTypes.ownedTupleIsFree
  rcases hf with rfl | ⟨T, rfl⟩
  · exact wpAny_bind (wpAny_field hz rfl (x := .none) rfl (wpAny_pure (h true s.heap f1 hz (Heap.SameBut.refl _ _))))
  · refine wpAny_bind (wpAny_field hz rfl (x := rawInt T) rfl ?_)
    show wpAny _ _ (loadIfAlive ((T : Int).toNat) >>= _) _ _ _
    rw [Int.toNat_natCast]
    cases ho : s.heap.get? T with
    | some o =>
      refine wpAny_bind (PySem.W.kdx_alive ho ?_)
      simp only [Option.isNone_some, Bool.false_eq_true, if_false]
      refine wpAny_bind (wpAny_field hz rfl (x := .bool f1) rfl ?_)
      cases f1 with
      | true =>
        rw [if_neg (show ¬ ((Value.bool true != Value.bool true) = true) from Bool.false_ne_true)]
        exact wpAny_pure (h false s.heap true hz (Heap.SameBut.refl _ _))
      | false =>
        rw [if_pos (show (Value.bool false != Value.bool true) = true from rfl)]
        exact wpAny_bind (wpAny_setField_rec hz (by simp) fun h1 hz1 hs1 => wpAny_pure (h false h1 true hz1 hs1))
    | none =>
      have dead : ∀ {Q : Option Obj → Shared → Prop}, Q none s → wpAny (model prog w) A (loadIfAlive T) Q E s := fun hq _ _ _ => by
        have hq' := hq
        rw [← ho] at hq'
        exact hq'
      refine wpAny_bind (dead ?_)
      simp only [Option.isNone_none, if_true]
      exact wpAny_pure (h true s.heap f1 hz (Heap.SameBut.refl _ _))
theorem upd_seq {T : Addr} {ws : Array Value} {k : Nat} {x : Value} {Q : Unit → Shared → Prop} (hT : s.heap.get? T = some (tObj ws)) (hz : ws.size ≤ 1000)
    (h : ∀ h', h'.get? T = some (tObj (ws.setIfInBounds k x)) → Heap.SameBut T s.heap h' → Q () { s with heap := h' }) : wpAny (model prog w) A (updateSeq T (·.setIfInBounds k x)) Q E s := by
  refine wpAny_updateSeq hT rfl (h _ ?_ (Heap.SameBut.update ..)) (hz := Nat.le_trans hz (by decide)) (_hz' := by rw [Array.size_setIfInBounds]; exact Nat.le_trans hz (by decide))
  rw [Heap.get?_update_self _ hT rfl]
  simp [Obj.mapSeq]
/-- the iterators, what they walk, what they give next -/
abbrev Src := Addr × Addr × Value
def Gives (kd : Bool) (h : Heap) (i : Nat) (t : Src) : Prop := RIt kd h t.1 t.2.1 i ∧ ∃ items, RSq kd h t.2.1 items ∧ items[i]? = some t.2.2
structure ZApart (z TI TO : Addr) (L : List Src) : Prop where
  nd : (z :: TI :: TO :: L.map (·.1)).Nodup
  src : ∀ t ∈ L, t.2.1 ≠ z ∧ t.2.1 ≠ TO ∧ t.2.1 ∉ L.map (·.1)
theorem zipN_item {z TI TO : Addr} {L : List Src} {i : Nat} {f0 : Value} {f1 : Bool} {vs : Array Value} {Q : Value → Shared → Prop} (D : ZApart z TI TO L) (hz : s.heap.get? z = some (zObj f0 f1 TI TO)) (hf : ZF f0)
    (hTI : s.heap.get? TI = some (tObj (L.map fun t => Value.ref t.1).toArray)) (hTO : s.heap.get? TO = some (tObj vs)) (hv : vs.size = L.length) (hne : L ≠ []) (hlen : L.length ≤ 1000) (hg : ∀ t ∈ L, Gives kd s.heap i t)
    (hQ : ∀ h' f0' f1' vs', h'.get? z = some (zObj f0' f1' TI TO) → ZF f0' → h'.get? TI = some (tObj (L.map fun t => Value.ref t.1).toArray) → h'.get? TO = some (tObj vs') → vs'.size = L.length →
      (∀ t ∈ L, RIt kd h' t.1 t.2.1 (i + 1)) → h'.get? s.heap.objs.size = some (tObj (L.map (·.2.2)).toArray) → (∀ c o, c ≠ z → c ≠ TO → c ∉ L.map (·.1) → s.heap.get? c = some o → h'.get? c = some o) → Q (.ref s.heap.objs.size) { s with heap := h' }) :
    wpAny (model prog w) A (Builtin.«zip.__next__» ⟨[.ref z], []⟩) (fun fin s' => ∃ v, fin = .done (.ret v) ∧ Q v s') E s := by
  show wpAny _ _ (field (.ref z) 2 >>= _) _ _ _
  refine wpAny_bind (wpAny_field hz rfl (x := .bool false) rfl ?_)
  show wpAny _ _ (field (.ref z) 3 >>= _) _ _ _
  refine wpAny_bind (wpAny_field hz rfl (x := .ref TI) rfl ?_)
  refine wpAny_bind (wpAny_seqItems hTI rfl ?_)
  have he : (L.map fun t => Value.ref t.1).toArray.isEmpty = false := by
    cases L with
    | nil => exact absurd rfl hne
    | cons x r => rfl
  simp only [he, Bool.false_eq_true, if_false]
  refine wpAny_bind (owned_free hz hf fun b h1 f1' hz1 hs1 => ?_)
  have nd := D.nd
  rw [List.nodup_cons, List.nodup_cons, List.nodup_cons] at nd
  obtain ⟨nz, nTI, nTO, nL⟩ := nd
  have hTIz : TI ≠ z := fun e => nz (by rw [e]; exact List.mem_cons_self ..)
  have hTOz : TO ≠ z := fun e => nz (by rw [e]; exact List.mem_cons_of_mem _ (List.mem_cons_self ..))
  have hTITO : TI ≠ TO := fun e => nTI (by rw [e]; exact List.mem_cons_self ..)
  have hzL : z ∉ L.map (·.1) := fun e => nz (List.mem_cons_of_mem _ (List.mem_cons_of_mem _ e))
  have hTIL : TI ∉ L.map (·.1) := fun e => nTI (List.mem_cons_of_mem _ e)
  have itz : ∀ {t : Src}, t ∈ L → t.1 ≠ z := fun ht e => hzL (by rw [← e]; exact List.mem_map_of_mem ht)
  have itTO : ∀ {t : Src}, t ∈ L → t.1 ≠ TO := fun ht e => nTO (by rw [← e]; exact List.mem_map_of_mem ht)
  have apart : ∀ {dn td : List Src} {t : Src}, L = dn ++ t :: td → t.1 ∉ dn.map (·.1) := fun {dn td t} e hm => by
    rw [e, List.map_append, List.nodup_append] at nL
    exact nL.2.2 _ hm _ (by rw [List.map_cons]; exact List.mem_cons_self ..) rfl
  have sub : ∀ {dn td : List Src} {c : Addr}, L = dn ++ td → c ∉ L.map (·.1) → c ∉ dn.map (·.1) := fun e hc hm => hc (by rw [e, List.map_append]; exact List.mem_append_left _ hm)
  have k1 : ∀ c o, c ≠ z → s.heap.get? c = some o → h1.get? c = some o := fun c o hc e => hs1.extBut _ _ hc e
  cases b with
  | false =>
    simp only [Bool.false_eq_true, if_false]
    refine wpAny_bind ?_
    rw [← Array.forIn_toList]
    refine wpAny_forIn_list _ (fun rest b s' => ∃ (dn td : List Src) (h2 : Heap), L = dn ++ td ∧ rest = td.map (fun t => Value.ref t.1) ∧ b = (none, (dn.map (·.2.2)).toArray) ∧ s' = { s with heap := h2 } ∧ h2.objs.size = s.heap.objs.size ∧ (∀ t ∈ dn, RIt kd h2 t.1 t.2.1 (i + 1)) ∧ ∀ c o, c ∉ dn.map (·.1) → h1.get? c = some o → h2.get? c = some o) _ ?_ ?_ _ _
      ⟨[], L, h1, rfl, by simp, rfl, rfl, hs1.1, (fun _ z => nomatch z), fun _ _ _ e => e⟩
    · rintro x rest b s' ⟨dn, td, h2, eL, er, rfl, rfl, sz, hd, kp⟩
      cases td with
      | nil => cases er
      | cons t td =>
        rw [List.map_cons, List.cons.injEq] at er
        obtain ⟨rfl, rfl⟩ := er
        have ht : t ∈ L := by rw [eL]; exact List.mem_append_right _ (List.mem_cons_self ..)
        obtain ⟨g1, items, g2, g3⟩ := hg t ht
        obtain ⟨s1, s2, s3⟩ := D.src t ht
        have a1 := apart eL
        refine wpAny_bind (wpAny_holding ?_)
        show wpAny _ _ (Builtin.SmallTypes.nextOf (.ref t.1) >>= _) _ _ _
        refine wpAny_bind (next_item (s := { s with heap := h2 }) (g1.keep fun o e => kp _ _ a1 (k1 _ _ (itz ht) e)) (g2.keep fun o e => kp _ _ (sub eL s3) (k1 _ _ s1 e)) g3 fun h3 r3 sb3 => wpAny_pure ?_)
        refine wpAny_pure ⟨dn ++ [t], td, h3, by rw [eL, List.append_assoc]; rfl, rfl, by simp, rfl, sb3.1.trans sz, fun y hy => ?_, fun c o hc e => ?_⟩
        · rcases List.mem_append.mp hy with hy | hy
          · exact (hd y hy).keep fun o e => sb3.extBut _ _ (fun z => a1 (by rw [← z]; exact List.mem_map_of_mem hy)) e
          · rw [List.mem_singleton.mp hy]; exact r3
        · rw [List.map_append, List.mem_append] at hc
          exact sb3.extBut _ _ (fun z => hc (.inr (by rw [z]; exact List.mem_singleton.mpr rfl))) (kp c o (fun z => hc (.inl z)) e)
    · rintro b s' ⟨dn, td, h2, eL, er, rfl, rfl, sz, hd, kp⟩
      obtain rfl : td = [] := by
        cases td with
        | nil => rfl
        | cons _ _ => cases er
      rw [List.append_nil] at eL
      subst eL
      show wpAny _ _ (newTuple (L.map (·.2.2)) >>= _) _ _ _
      refine wpAny_bind (wpAny_newTuple ?_ (by rw [List.length_map]; exact Nat.le_trans hlen (by decide)))
      refine wpAny_pure ⟨_, rfl, ?_⟩
      show Q (.ref h2.objs.size) _
      have up : ∀ c o, c ∉ L.map (·.1) → h1.get? c = some o → (h2.push (tObj (L.map (·.2.2)).toArray)).get? c = some o := fun c o hc e => Heap.get?_push_of_some _ (kp c o hc e)
      have hT : (h2.push (tObj (L.map (·.2.2)).toArray)).get? h2.objs.size = some (tObj (L.map (·.2.2)).toArray) := Heap.get?_push_size _ rfl
      rw [sz] at hT ⊢
      exact hQ _ f0 f1' vs (up _ _ hzL hz1) hf (up _ _ hTIL (k1 _ _ hTIz hTI)) (up _ _ nTO (k1 _ _ hTOz hTO)) hv (fun t ht => (hd t ht).keep fun o e => Heap.get?_push_of_some _ e) hT fun c o c1 c2 c3 e => up c o c3 (k1 c o c1 e)
  | true =>
    simp only [if_true]
    refine wpAny_bind (wpAny_rule ?_)
    refine wpAny_bind (wpAny_field (s := { s with heap := h1 }) hz1 rfl (x := .ref TO) rfl ?_)
    refine wpAny_bind (wpAny_setField_rec (s := { s with heap := h1 }) hz1 (by simp) fun h1b hz1b hs1b => ?_)
    replace hz1b : h1b.get? z = some (zObj .ellipsis f1' TI TO) := hz1b
    have k2 : ∀ c o, c ≠ z → s.heap.get? c = some o → h1b.get? c = some o := fun c o hc e => hs1b.extBut _ _ hc (k1 c o hc e)
    refine wpAny_bind ?_
    refine wpAny_forIn_list _ (fun rest b s' => ∃ (dn td : List Src) (h2 : Heap) (ws : Array Value), L = dn ++ td ∧ rest = (td.map (fun t => Value.ref t.1)).zipIdx dn.length ∧ b = (none, ()) ∧ s' = { s with heap := h2 } ∧ h2.objs.size = s.heap.objs.size ∧ (∀ t ∈ dn, RIt kd h2 t.1 t.2.1 (i + 1)) ∧
        h2.get? TO = some (tObj ws) ∧ ws.toList = dn.map (·.2.2) ++ vs.toList.drop dn.length ∧ ∀ c o, c ≠ TO → c ∉ dn.map (·.1) → h1b.get? c = some o → h2.get? c = some o) _ ?_ ?_ _ _
      ⟨[], L, h1b, vs, rfl, rfl, rfl, rfl, hs1b.1.trans hs1.1, (fun _ z => nomatch z), k2 _ _ hTOz hTO, rfl, fun _ _ _ _ e => e⟩
    · rintro ⟨x, j⟩ rest b s' ⟨dn, td, h2, ws, eL, er, rfl, rfl, sz, hd, hw, ew, kp⟩
      cases td with
      | nil => cases er
      | cons t td =>
        rw [List.map_cons, List.zipIdx_cons, List.cons.injEq, Prod.mk.injEq] at er
        obtain ⟨⟨rfl, rfl⟩, rfl⟩ := er
        have ht : t ∈ L := by rw [eL]; exact List.mem_append_right _ (List.mem_cons_self ..)
        obtain ⟨g1, items, g2, g3⟩ := hg t ht
        obtain ⟨s1, s2, s3⟩ := D.src t ht
        have a1 := apart eL
        refine wpAny_bind (wpAny_onRaise ?_)
        show wpAny _ _ (Builtin.SmallTypes.nextOf (.ref t.1) >>= _) _ _ _
        refine wpAny_bind (next_item (s := { s with heap := h2 }) (g1.keep fun o e => kp _ _ (itTO ht) a1 (k2 _ _ (itz ht) e)) (g2.keep fun o e => kp _ _ s2 (sub eL s3) (k2 _ _ s1 e)) g3 fun h3 r3 sb3 => wpAny_pure ?_)
        have hw3 : h3.get? TO = some (tObj ws) := sb3.extBut _ _ (itTO ht).symm hw
        refine wpAny_bind (wpAny_seqItems (s := { s with heap := h3 }) hw3 rfl ?_)
        have wsz : ws.size = L.length := by
          have hvl : vs.toList.length = L.length := by rw [Array.length_toList, hv]
          rw [← Array.length_toList, ew, List.length_append, List.length_map, List.length_drop, hvl]
          have e2 := congrArg List.length eL
          rw [List.length_append, List.length_cons] at e2
          omega
        refine wpAny_bind (upd_seq (s := { s with heap := h3 }) hw3 (by rw [wsz]; exact hlen) fun h4 hw4 up => ?_)
        refine wpAny_bind (wpAny_letGo (wpAny_pure ?_))
        refine ⟨dn ++ [t], td, h4, ws.setIfInBounds dn.length t.2.2, by rw [eL, List.append_assoc]; rfl, by rw [List.length_append]; rfl, rfl, rfl, up.1.trans (sb3.1.trans sz), fun y hy => ?_, ?_, ?_, fun c o c1 hc e => ?_⟩
        · have hyL : y ∈ L := by
            rw [eL]
            rcases List.mem_append.mp hy with hy | hy
            · exact List.mem_append_left _ hy
            · rw [List.mem_singleton.mp hy]; exact List.mem_append_right _ (List.mem_cons_self ..)
          refine RIt.keep (h := h3) ?_ fun o e => up.extBut _ _ (itTO hyL) e
          rcases List.mem_append.mp hy with hy | hy
          · exact (hd y hy).keep fun o e => sb3.extBut _ _ (fun z => a1 (by rw [← z]; exact List.mem_map_of_mem hy)) e
          · rw [List.mem_singleton.mp hy]; exact r3
        · exact hw4
        · have hl1 : dn.length < vs.toList.length := by
            have hvl : vs.toList.length = L.length := by rw [Array.length_toList, hv]
            have e2 := congrArg List.length eL
            rw [List.length_append, List.length_cons] at e2
            omega
          rw [Array.toList_setIfInBounds, ew, List.set_append, if_neg (show ¬ dn.length < (dn.map (·.2.2)).length by rw [List.length_map]; omega)]
          rw [List.length_map, Nat.sub_self, List.drop_eq_getElem_cons hl1, List.set_cons_zero, List.map_append, List.length_append, List.append_assoc]
          rfl
        · rw [List.map_append, List.mem_append] at hc
          exact up.extBut _ _ c1 (sb3.extBut _ _ (fun z => hc (.inr (by rw [z]; exact List.mem_singleton.mpr rfl))) (kp c o c1 (fun z => hc (.inl z)) e))
    · rintro b s' ⟨dn, td, h2, ws, eL, er, rfl, rfl, sz, hd, hw, ew, kp⟩
      obtain rfl : td = [] := by
        cases td with
        | nil => rfl
        | cons _ _ => cases er
      rw [List.append_nil] at eL
      subst eL
      have ew' : ws = (L.map (·.2.2)).toArray := by
        have : vs.toList.drop L.length = [] := List.drop_of_length_le (by rw [Array.length_toList, hv]; exact Nat.le_refl _)
        rw [this, List.append_nil] at ew
        rw [← ew, Array.toArray_toList]
      subst ew'
      show wpAny _ _ (seqItems? (.ref TO) >>= _) _ _ _
      refine wpAny_bind (wpAny_seqItems (s := { s with heap := h2 }) hw rfl ?_)
      show wpAny _ _ (newTuple (L.map (·.2.2)).toArray.toList >>= _) _ _ _
      refine wpAny_bind (wpAny_newTuple ?_ (by simp; exact Nat.le_trans hlen (by decide)))
      show wpAny _ _ (Builtin.SmallTypes.ownedTupleHandOut (.ref z) (.ref h2.objs.size) >>= _) _ _ _
      refine wpAny_bind ?_
      unfold Builtin.SmallTypes.ownedTupleHandOut
      have hz2 : h2.get? z = some (zObj .ellipsis f1' TI TO) := kp _ _ hTOz.symm hzL hz1b
      have hz3 : (h2.push (tObj (L.map (·.2.2)).toArray)).get? z = some (zObj .ellipsis f1' TI TO) := Heap.get?_push_of_some _ hz2
      have hzlt : z < h2.objs.size := Heap.lt_size hz2
      refine wpAny_bind (wpAny_setField_rec (s := { s with heap := h2.push (tObj (L.map (·.2.2)).toArray) }) hz3 (by simp) fun h4 hz4 hs4 => ?_)
      replace hz4 : h4.get? z = some (zObj (rawInt h2.objs.size) f1' TI TO) := hz4
      refine wpAny_setField_rec (s := { s with heap := h4 }) hz4 (by simp) fun h5 hz5 hs5 => ?_
      replace hz5 : h5.get? z = some (zObj (rawInt h2.objs.size) false TI TO) := hz5
      have up : ∀ c o, c ≠ z → h2.get? c = some o → h5.get? c = some o := fun c o hc e => hs5.extBut _ _ hc (hs4.extBut _ _ hc (Heap.get?_push_of_some _ e))
      have hT : h5.get? h2.objs.size = some (tObj (L.map (·.2.2)).toArray) := hs5.extBut _ _ (Nat.ne_of_gt hzlt) (hs4.extBut _ _ (Nat.ne_of_gt hzlt) (Heap.get?_push_size _ rfl))
      refine wpAny_pure ⟨_, rfl, ?_⟩
      show Q (.ref h2.objs.size) _
      have hzf : ZF (rawInt h2.objs.size) := .inr ⟨_, rfl⟩
      rw [sz] at hT hz5 hzf ⊢
      exact hQ h5 _ false _ hz5 hzf (up _ _ hTIz (kp _ _ hTITO hTIL (k2 _ _ hTIz hTI))) (up _ _ hTOz hw) (by simp) (fun t ht => (hd t ht).keep fun o e => up _ _ (itz ht) e) hT fun c o c1 c2 c3 e => up c o c1 (kp c o c2 c3 (k2 c o c1 e))
theorem zipN_end {z TI TO it a : Addr} {its : List Addr} {i : Nat} {f0 : Value} {f1 : Bool} {items : Array Value} {Q : Fin → Shared → Prop} (hh : A.handled = none) (hz : s.heap.get? z = some (zObj f0 f1 TI TO)) (hf : ZF f0) (hTIz : TI ≠ z) (hiz : it ≠ z) (haz : a ≠ z)
    (hTI : s.heap.get? TI = some (tObj ((it :: its).map Value.ref).toArray)) (hr : RIt kd s.heap it a i) (hq : RSq kd s.heap a items) (hx : items[i]? = none)
    (hE : ∀ h' e, (∀ c o, c ≠ z → c ≠ it → s.heap.get? c = some o → h'.get? c = some o) → (∃ o, h'.get? e = some o ∧ o.cls = .type "StopIteration") → E (.ref e) { s with heap := h' }) :
    wpAny (model prog w) A (Builtin.«zip.__next__» ⟨[.ref z], []⟩) Q E s := by
  show wpAny _ _ (field (.ref z) 2 >>= _) _ _ _
  refine wpAny_bind (wpAny_field hz rfl (x := .bool false) rfl ?_)
  show wpAny _ _ (field (.ref z) 3 >>= _) _ _ _
  refine wpAny_bind (wpAny_field hz rfl (x := .ref TI) rfl ?_)
  refine wpAny_bind (wpAny_seqItems hTI rfl ?_)
  have he : ((it :: its).map Value.ref).toArray.isEmpty = false := rfl
  simp only [he, Bool.false_eq_true, if_false]
  refine wpAny_bind (owned_free hz hf fun b h1 f1' hz1 hs1 => ?_)
  cases b with
  | false =>
    simp only [Bool.false_eq_true, if_false]
    refine wpAny_bind ?_
    rw [← Array.forIn_toList]
    simp only [List.map_cons, List.forIn_cons]
    refine wpAny_bind (wpAny_bind (wpAny_holding ?_))
    show wpAny _ _ (Builtin.SmallTypes.nextOf (.ref it) >>= _) _ _ _
    refine wpAny_bind (next_end (s := { s with heap := h1 }) hh (hr.keep fun o e => hs1.extBut _ _ hiz e) (hq.keep fun o e => hs1.extBut _ _ haz e) hx fun h2 e hs2 he => ?_)
    exact hE h2 e (fun c o c1 c2 x => hs2 _ _ c2 (hs1.extBut _ _ c1 x)) he
  | true =>
    simp only [if_true]
    refine wpAny_bind (wpAny_rule ?_)
    refine wpAny_bind (wpAny_field (s := { s with heap := h1 }) hz1 rfl (x := .ref TO) rfl ?_)
    refine wpAny_bind (wpAny_setField_rec (s := { s with heap := h1 }) hz1 (by simp) fun h1b hz1b hs1b => ?_)
    replace hz1b : h1b.get? z = some (zObj .ellipsis f1' TI TO) := hz1b
    refine wpAny_bind ?_
    simp only [List.map_cons, List.zipIdx_cons, List.forIn_cons]
    refine wpAny_bind (wpAny_bind (wpAny_onRaise ?_))
    show wpAny _ _ (Builtin.SmallTypes.nextOf (.ref it) >>= _) _ _ _
    refine wpAny_bind (next_end (s := { s with heap := h1b }) hh (hr.keep fun o e => hs1b.extBut _ _ hiz (hs1.extBut _ _ hiz e)) (hq.keep fun o e => hs1b.extBut _ _ haz (hs1.extBut _ _ haz e)) hx fun h2 e hs2 he => ?_)
    obtain ⟨oe, hoe, hce⟩ := he
    have hz2 : h2.get? z = some (zObj .ellipsis f1' TI TO) := hs2 _ _ hiz.symm hz1b
    have hez : e ≠ z := fun x => by subst x; rw [hz2] at hoe; cases hoe; simp at hce
    refine wpAny_setField_rec (s := { s with heap := h2 }) hz2 (by simp) fun h3 _ hs3 => hE h3 e (fun c o c1 c2 x => hs3.extBut _ _ c1 (hs2 _ _ c2 (hs1b.extBut _ _ c1 (hs1.extBut _ _ c1 x)))) ⟨oe, hs3.extBut _ _ hez hoe, hce⟩
theorem zipN_next {z : Addr} {f0 : Value} {f1 : Bool} {TI TO : Addr} {Q : Option Value → Shared → Prop} (hz : s.heap.get? z = some (zObj f0 f1 TI TO))
    (h : wpAny (model prog w) A.in1 (Builtin.«zip.__next__» ⟨[.ref z], []⟩) (fun fin s' => ∃ v, fin = .done (.ret v) ∧ Q (some v) s') (fun e s' => (∃ a o, e = .ref a ∧ s'.heap.get? a = some o ∧ o.cls = .type "StopIteration") ∧ Q none s') s) : wpAny (model prog w) A (pyNext (.ref z)) Q E s := by
  have hT : s.TypeIs (.ref z) "zip" := ⟨_, hz, rfl⟩
  unfold pyNext
  refine wpAny_bind (wpAny_attempt (wpAny_callSpecial?_slot (name := Str.ofString "__next__") hT F.slot_zip_next (wpAny_call_entry F.slot_zip_next hT F.entry_zip_next (wpAny_mono h ?_ ?_) (F.args_zip_next_1 _))))
  · rintro fin s' ⟨v, rfl, q⟩
    exact ⟨v, rfl, wpAny_pure q⟩
  · rintro e s' ⟨⟨a, o, rfl, ho, hc⟩, q⟩
    exact wpAny_bind (wpAny_isInstance (T := "StopIteration") (b := true) ⟨o, ho, hc⟩ isSubtype_stop (wpAny_pure q))
theorem typeCall_zipN : ∀ {vs : List Value}, vs.length ≤ 12 → checkTypeCall "zip" ⟨vs, []⟩ = pure ()
  | [], _ => by kernel_rfl
  | [_], _ => by kernel_rfl
  | [_, _], _ => by kernel_rfl
  | [_, _, _], _ => by kernel_rfl
  | [_, _, _, _], _ => by kernel_rfl
  | [_, _, _, _, _], _ => by kernel_rfl
  | [_, _, _, _, _, _], _ => by kernel_rfl
  | [_, _, _, _, _, _, _], _ => by kernel_rfl
  | [_, _, _, _, _, _, _, _], _ => by kernel_rfl
  | [_, _, _, _, _, _, _, _, _], _ => by kernel_rfl
  | [_, _, _, _, _, _, _, _, _, _], _ => by kernel_rfl
  | [_, _, _, _, _, _, _, _, _, _, _], _ => by kernel_rfl
  | [_, _, _, _, _, _, _, _, _, _, _, _], _ => by kernel_rfl
  | _ :: _ :: _ :: _ :: _ :: _ :: _ :: _ :: _ :: _ :: _ :: _ :: _ :: r, h => by simp at h
theorem newCall_zipN : ∀ {vs : List Value}, vs.length ≤ 12 → checkBuiltinCall "zip.__new__" ⟨.type "zip" :: vs, []⟩ = pure ()
  | [], _ => by kernel_rfl
  | [_], _ => by kernel_rfl
  | [_, _], _ => by kernel_rfl
  | [_, _, _], _ => by kernel_rfl
  | [_, _, _, _], _ => by kernel_rfl
  | [_, _, _, _, _], _ => by kernel_rfl
  | [_, _, _, _, _, _], _ => by kernel_rfl
  | [_, _, _, _, _, _, _], _ => by kernel_rfl
  | [_, _, _, _, _, _, _, _], _ => by kernel_rfl
  | [_, _, _, _, _, _, _, _, _], _ => by kernel_rfl
  | [_, _, _, _, _, _, _, _, _, _], _ => by kernel_rfl
  | [_, _, _, _, _, _, _, _, _, _, _], _ => by kernel_rfl
  | [_, _, _, _, _, _, _, _, _, _, _, _], _ => by kernel_rfl
  | _ :: _ :: _ :: _ :: _ :: _ :: _ :: _ :: _ :: _ :: _ :: _ :: _ :: r, h => by simp at h
theorem args_init_zipN (obj : Value) : ∀ {vs : List Value}, vs.length ≤ 12 → argsOk "object.__init__" ⟨obj :: vs, []⟩
  | vs, h => by
    unfold argsOk
    rw [signature?_of (id := "object.__init__") (n := ['_', '_', 't', 'i', 'n', 'i', '_', '_']) (o := ['t', 'c', 'e', 'j', 'b', 'o']) (by kernel_rfl) F.owner_object]
    match vs, h with
    | [], _ => kernel_rfl
    | [_], _ => kernel_rfl
    | [_, _], _ => kernel_rfl
    | [_, _, _], _ => kernel_rfl
    | [_, _, _, _], _ => kernel_rfl
    | [_, _, _, _, _], _ => kernel_rfl
    | [_, _, _, _, _, _], _ => kernel_rfl
    | [_, _, _, _, _, _, _], _ => kernel_rfl
    | [_, _, _, _, _, _, _, _], _ => kernel_rfl
    | [_, _, _, _, _, _, _, _, _], _ => kernel_rfl
    | [_, _, _, _, _, _, _, _, _, _], _ => kernel_rfl
    | [_, _, _, _, _, _, _, _, _, _, _], _ => kernel_rfl
    | [_, _, _, _, _, _, _, _, _, _, _, _], _ => kernel_rfl
    | _ :: _ :: _ :: _ :: _ :: _ :: _ :: _ :: _ :: _ :: _ :: _ :: _ :: r, h => simp at h
/-- the iterators' records -/
def itObj (kd : Bool) (a : Addr) : Obj := match kd with
  | true => { cls := .type "list_iterator", data := .fields #[.ref a, .int 0 0] }
  | false => { cls := .type "tuple_iterator", data := .fields #[.ref a, .int 0 0] }
theorem iter_row {a : Addr} {items : Array Value} {Q : Value → Shared → Prop} (h : RSq kd s.heap a items) (hQ : Q (.ref s.heap.objs.size) { s with heap := s.heap.push (itObj kd a) }) : wpAny (model prog w) A (pyIter (.ref a)) Q E s := by
  cases kd with
  | true => exact wpAny_pyIter_list h hQ
  | false => exact wpAny_pyIter_tuple h hQ
theorem rit_new {a : Addr} {h : Heap} : RIt kd (h.push (itObj kd a)) h.objs.size a 0 := by
  cases kd with
  | true => exact ⟨_, Heap.get?_push_size _ rfl, rfl, rfl⟩
  | false => exact ⟨_, Heap.get?_push_size _ rfl, rfl, rfl⟩
theorem iter_all {as : List Addr} {Q : List Value → Shared → Prop} (hs : ∀ a ∈ as, ∃ items, RSq kd s.heap a items)
    (hQ : ∀ (ps : List (Addr × Addr)) (h' : Heap), ps.map (·.2) = as → (ps.map (·.1)).Nodup → (∀ p ∈ ps, s.heap.objs.size ≤ p.1 ∧ p.1 < h'.objs.size) → (∀ p ∈ ps, RIt kd h' p.1 p.2 0) → s.heap.objs.size ≤ h'.objs.size → (∀ c o, s.heap.get? c = some o → h'.get? c = some o) → Q (ps.map fun p => Value.ref p.1) { s with heap := h' }) :
    wpAny (model prog w) A (Builtin.SmallTypes.iterAll (as.map Value.ref)) Q E s := by
  unfold Builtin.SmallTypes.iterAll
  refine wpAny_bind ?_
  refine wpAny_forIn_list _ (fun rest b s' => ∃ (ps : List (Addr × Addr)) (td : List Addr) (h2 : Heap), as = ps.map (·.2) ++ td ∧ rest = td.map Value.ref ∧ b = (ps.map fun p => Value.ref p.1).toArray ∧ s' = { s with heap := h2 } ∧ (ps.map (·.1)).Nodup ∧ (∀ p ∈ ps, s.heap.objs.size ≤ p.1 ∧ p.1 < h2.objs.size) ∧ (∀ p ∈ ps, RIt kd h2 p.1 p.2 0) ∧
      s.heap.objs.size ≤ h2.objs.size ∧ ∀ c o, s.heap.get? c = some o → h2.get? c = some o) _ ?_ ?_ _ _ ⟨[], as, s.heap, rfl, rfl, rfl, rfl, List.nodup_nil, (fun _ z => nomatch z), (fun _ z => nomatch z), Nat.le_refl _, fun _ _ e => e⟩
  · rintro x rest b s' ⟨ps, td, h2, ea, er, rfl, rfl, nd, lo, ri, sz, kp⟩
    cases td with
    | nil => cases er
    | cons a td =>
      rw [List.map_cons, List.cons.injEq] at er
      obtain ⟨rfl, rfl⟩ := er
      obtain ⟨items, hq⟩ := hs a (by rw [ea]; exact List.mem_append_right _ (List.mem_cons_self ..))
      refine wpAny_bind (wpAny_holding (iter_row (s := { s with heap := h2 }) (hq.keep fun o e => kp _ _ e) ?_))
      refine wpAny_pure ⟨ps ++ [(h2.objs.size, a)], td, h2.push (itObj kd a), by rw [ea, List.map_append, List.append_assoc]; rfl, rfl, by simp, rfl, ?_, fun p hp => ?_, fun p hp => ?_, by rw [Heap.size_push]; omega, fun c o e => Heap.get?_push_of_some _ (kp c o e)⟩
      · rw [List.map_append, List.nodup_append]
        refine ⟨nd, List.nodup_cons.mpr ⟨(fun z => nomatch z), List.nodup_nil⟩, fun x hx y hy => ?_⟩
        obtain ⟨p, hp, rfl⟩ := List.mem_map.mp hx
        have e : y = h2.objs.size := by simpa using hy
        rw [e]
        exact Nat.ne_of_lt (lo p hp).2
      · rw [Heap.size_push]
        rcases List.mem_append.mp hp with hp | hp
        · exact ⟨(lo p hp).1, Nat.lt_succ_of_lt (lo p hp).2⟩
        · rw [List.mem_singleton.mp hp]
          exact ⟨sz, by show h2.objs.size < _; omega⟩
      · rcases List.mem_append.mp hp with hp | hp
        · exact (ri p hp).keep fun o e => Heap.get?_push_of_some _ e
        · rw [List.mem_singleton.mp hp]
          exact rit_new
  · rintro b s' ⟨ps, td, h2, ea, er, rfl, rfl, nd, lo, ri, sz, kp⟩
    obtain rfl : td = [] := by
      cases td with
      | nil => rfl
      | cons _ _ => cases er
    rw [List.append_nil] at ea
    exact wpAny_pure (hQ ps h2 ea.symm nd lo ri sz kp)
/-- what zip(..) has made -/
def ZMade (kd : Bool) (h h' : Heap) (as : List Addr) (z : Addr) : Prop := ∃ (ps : List (Addr × Addr)) (TI TO : Addr) (vs : Array Value), ps.map (·.2) = as ∧ (z :: TI :: TO :: ps.map (·.1)).Nodup ∧ h.objs.size ≤ z ∧ h.objs.size ≤ TI ∧ h.objs.size ≤ TO ∧ (∀ p ∈ ps, h.objs.size ≤ p.1) ∧
  h'.get? z = some (zObj .none false TI TO) ∧ h'.get? TI = some (tObj (ps.map fun p => Value.ref p.1).toArray) ∧ h'.get? TO = some (tObj vs) ∧ vs.size = ps.length ∧ (∀ p ∈ ps, RIt kd h' p.1 p.2 0)
theorem zipN_new (as : List Addr) : Meets (Builtin.«zip.__new__» ⟨.type "zip" :: as.map Value.ref, []⟩) (fun _ R s => (∀ a ∈ as, ∃ items, RSq kd s.heap a items) ∧ as.length ≤ 1000 ∧
      ∀ h' z, ZMade kd s.heap h' as z → (∀ c o, s.heap.get? c = some o → h'.get? c = some o) → R (.ok (.ret (.ref z))) { s with heap := h' }) :=
  .of_wp fun prog w A R s h => by
    obtain ⟨hs, hl, h⟩ := h
    have hsub := sub_zip
    unfold Builtin.«zip.__new__»
    repeat ((fail_if_success (with_reducible show wpAny _ _ (Builtin.SmallTypes.iterAll _) _ _ _)); (any_goals (first | assumption | wp_step)))
    refine iter_all hs fun ps h1 e1 nd lo ri hsz kp => ?_
    have pl : ps.length ≤ 1000 := by
      rw [← e1, List.length_map] at hl
      exact hl
    refine wpAny_bind (wpAny_newTuple ?_ (by rw [List.length_map]; exact Nat.le_trans pl (by decide)))
    refine wpAny_bind (wpAny_newTuple ?_ (by rw [List.length_map, List.length_map]; exact Nat.le_trans pl (by decide)))
    refine wpAny_bind ?_
    unfold Builtin.SmallTypes.newRecord
    refine wpAny_newObj_type ?_ (by first | exact True.intro | (show (5 : Nat) ≤ sizeLine; decide) | (simp [sizeOk, Builtin.SmallTypes.ownedTupleFields]; decide))
    refine wpAny_pure ⟨_, rfl, ?_⟩
    let t1 : Obj := tObj (ps.map fun p => Value.ref p.1).toArray
    let t2 : Obj := tObj ((ps.map fun p => Value.ref p.1).map fun _ => Value.none).toArray
    have s1 : (h1.push t1).objs.size = h1.objs.size + 1 := Heap.size_push ..
    have s2 : ((h1.push t1).push t2).objs.size = h1.objs.size + 2 := by rw [Heap.size_push, s1]
    refine h _ _ ⟨ps, h1.objs.size, (h1.push t1).objs.size, ((ps.map fun p => Value.ref p.1).map fun _ => Value.none).toArray, e1, ?_, ?_, hsz, ?_, fun p hp => (lo p hp).1, ?_, ?_, ?_, ?_, fun p hp => ?_⟩ fun c o e => Heap.get?_push_of_some _ (Heap.get?_push_of_some _ (Heap.get?_push_of_some _ (kp c o e)))
    · show (((h1.push t1).push t2).objs.size :: h1.objs.size :: (h1.push t1).objs.size :: ps.map (·.1)).Nodup
      have hp : ∀ x ∈ ps.map (·.1), x < h1.objs.size := fun x hx => by
        obtain ⟨p, hp, rfl⟩ := List.mem_map.mp hx
        exact (lo p hp).2
      rw [s1, s2, List.nodup_cons, List.nodup_cons, List.nodup_cons]
      refine ⟨fun hm => ?_, fun hm => ?_, fun hm => ?_, nd⟩
      · rcases List.mem_cons.mp hm with hm | hm
        · omega
        · rcases List.mem_cons.mp hm with hm | hm
          · omega
          · have := hp _ hm
            omega
      · rcases List.mem_cons.mp hm with hm | hm
        · omega
        · have := hp _ hm
          omega
      · have := hp _ hm
        omega
    · show s.heap.objs.size ≤ ((h1.push t1).push t2).objs.size
      rw [s2]; omega
    · rw [s1]; omega
    · exact Heap.get?_push_size _ rfl
    · exact Heap.get?_push_of_some _ (Heap.get?_push_of_some _ (Heap.get?_push_size _ rfl))
    · exact Heap.get?_push_of_some _ (Heap.get?_push_size _ rfl)
    · simp
    · exact (ri p hp).keep fun o e => Heap.get?_push_of_some _ (Heap.get?_push_of_some _ (Heap.get?_push_of_some _ e))
theorem call_zipN {as : List Addr} {Q : Value → Shared → Prop} (hs : ∀ a ∈ as, ∃ items, RSq kd s.heap a items) (hl : as.length ≤ 12)
    (h : ∀ h' z, ZMade kd s.heap h' as z → (∀ c o, s.heap.get? c = some o → h'.get? c = some o) → Q (.ref z) { s with heap := h' }) : wpAny (model prog w) A (call (.type "zip") (as.map Value.ref)) Q E s := by
  have hl' : (as.map Value.ref).length ≤ 12 := by rw [List.length_map]; exact hl
  refine callType_new F.called_zip (by decide) (typeCall_zipN hl') (newCall_zipN hl') (fun obj => args_init_zipN obj hl') F.entry_zip_new (zipN_new (kd := kd) as) ⟨hs, by omega, fun h' z hz hk => ?_⟩
  obtain ⟨ps, TI, TO, vs, h1, h2, h3, h4, h5, h6, g, r⟩ := id hz
  exact ⟨⟨_, g, rfl⟩, h h' z hz hk⟩
end
/-! ### for column in zip(*rows), as a comprehension walks it -/
def SqK (kd : Bool) (K : PySem.W.Frag) (H : Hp) (a : Addr) (xs : List V) : Prop := match kd with
  | true => SqL K H a xs
  | false => SqT K H a xs
theorem SqK.get {X : Cx} {pins : List (Addr × Obj)} {σ : L2.St} {H : Hp} {s : Shared} {kd : Bool} {a : Addr} {xs : List V} (I : Inv X pins σ H s) (h : SqK kd X.K H a xs) : ∃ its : List Value, Vals xs its ∧ RSq kd s.heap a its.toArray := by
  cases kd with
  | true =>
    obtain ⟨its, r, p, _⟩ := I.list h
    exact ⟨its, r, p.isList⟩
  | false =>
    obtain ⟨its, r, p, _⟩ := I.tuple h
    exact ⟨its, r, p⟩
def ItZ (K : PySem.W.Frag) (kd : Bool) (rs : List (Addr × List V)) : It :=
  ⟨fun i H => ∀ r ∈ rs, SqK kd K H r.1 r.2 ∧ i < r.2.length, fun i H v H' => ∃ T, v = .ref T ∧ H T = none ∧ H' = upd H T (.tup (rs.map fun r => r.2.getD i .non)), fun i H => ∀ r ∈ rs, SqK kd K H r.1 r.2 ∧ r.2.length ≤ i⟩
theorem RSq.lt {kd : Bool} {h : Heap} {a : Addr} {items : Array Value} (x : RSq kd h a items) : a < h.objs.size := by
  cases kd with
  | true =>
    obtain ⟨o, ho, _⟩ := x
    exact Heap.lt_size ho
  | false =>
    obtain ⟨o, ho, _⟩ := x
    exact Heap.lt_size ho
/-- what the rows give at a turn -/
theorem rows_give {X : Cx} {pins : List (Addr × Obj)} {σ : L2.St} {H : Hp} {s : Shared} {kd : Bool} {i : Nat} (I : Inv X pins σ H s) : ∀ {ps : List (Addr × Addr)} {rs : List (Addr × List V)}, ps.map (·.2) = rs.map (·.1) → (∀ p ∈ ps, RIt kd s.heap p.1 p.2 i) → (∀ r ∈ rs, SqK kd X.K H r.1 r.2 ∧ i < r.2.length) →
    ∃ L : List Src, L.map (fun t => (t.1, t.2.1)) = ps ∧ Vals (rs.map fun r => r.2.getD i .non) (L.map (·.2.2)) ∧ ∀ t ∈ L, Gives kd s.heap i t
  | [], [], _, _, _ => ⟨[], rfl, .nil, fun _ z => nomatch z⟩
  | p :: ps, r :: rs, e, h1, h2 => by
    rw [List.map_cons, List.map_cons, List.cons.injEq] at e
    obtain ⟨L, l1, l2, l3⟩ := rows_give I e.2 (fun q hq => h1 q (List.mem_cons_of_mem _ hq)) fun q hq => h2 q (List.mem_cons_of_mem _ hq)
    obtain ⟨sq, hi⟩ := h2 r (List.mem_cons_self ..)
    obtain ⟨its, rv, rs1⟩ := SqK.get I sq
    obtain ⟨u, hu, ru⟩ := rv.get (List.getElem?_eq_getElem hi)
    refine ⟨(p.1, p.2, u) :: L, by rw [List.map_cons, l1], ?_, fun t ht => ?_⟩
    · refine .cons ?_ l2
      show L2.RelV (r.2.getD i .non) u
      rw [List.getD_eq_getElem?_getD, List.getElem?_eq_getElem hi]
      exact ru
    · rcases List.mem_cons.mp ht with rfl | ht
      · exact ⟨h1 p (List.mem_cons_self ..), its.toArray, by show RSq kd s.heap p.2 _; rw [e.1]; exact rs1, by simpa using hu⟩
      · exact l3 t ht
  | [], _ :: _, e, _, _ => by cases e
  | _ :: _, [], e, _, _ => by cases e
theorem turn_zipN {P : Program} {w : World} {K : PySem.W.Frag} {x : Str} {px : Pos} {kd : Bool} {rs : List (Addr × List V)} {ps : List (Addr × Addr)} {z TI TO : Addr} (e : ps.map (·.2) = rs.map (·.1)) (hne : rs ≠ []) (hlen : rs.length ≤ 12) (nd : (z :: TI :: TO :: ps.map (·.1)).Nodup)
    (src : ∀ p ∈ ps, p.2 ≠ z ∧ p.2 ≠ TO ∧ p.2 ∉ ps.map (·.1)) :
    Turn P w K (.Name x px) (ItZ K kd rs) (z :: TI :: TO :: ps.map (·.1)) z (fun i h => ∃ f0 f1 vs, h.get? z = some (zObj f0 f1 TI TO) ∧ ZF f0 ∧ h.get? TI = some (tObj (ps.map fun p => Value.ref p.1).toArray) ∧ h.get? TO = some (tObj vs) ∧ vs.size = ps.length ∧ ∀ p ∈ ps, RIt kd h p.1 p.2 i) where
  mem := List.mem_cons_self ..
  obj := fun i h st b hb => by
    obtain ⟨f0, f1, vs, g1, g2, g3, g4, g5, g6⟩ := st
    rcases List.mem_cons.mp hb with rfl | hb
    · exact ⟨_, g1, fun v q => nomatch q⟩
    · rcases List.mem_cons.mp hb with rfl | hb
      · exact ⟨_, g3, fun v q => nomatch q⟩
      · rcases List.mem_cons.mp hb with rfl | hb
        · exact ⟨_, g4, fun v q => nomatch q⟩
        · obtain ⟨p, hp, rfl⟩ := List.mem_map.mp hb
          exact (g6 p hp).obj
  keep := fun i h h' st k => by
    obtain ⟨f0, f1, vs, g1, g2, g3, g4, g5, g6⟩ := st
    refine ⟨f0, f1, vs, k z (List.mem_cons_self ..) _ g1, g2, k TI (List.mem_cons_of_mem _ (List.mem_cons_self ..)) _ g3, k TO (List.mem_cons_of_mem _ (List.mem_cons_of_mem _ (List.mem_cons_self ..))) _ g4, g5, fun p hp => (g6 p hp).keep fun o q => k p.1 (List.mem_cons_of_mem _ (List.mem_cons_of_mem _ (List.mem_cons_of_mem _ (List.mem_map_of_mem hp)))) o q⟩
  item := by
    intro X hP hw hK hc i pins s σ H E I hf st hg
    subst hP hw hK
    obtain ⟨f0, f1, vs, g1, g2, g3, g4, g5, g6⟩ := st
    obtain ⟨L, l1, l2, l3⟩ := rows_give I e g6 hg
    have lm : L.map (·.1) = ps.map (·.1) := by rw [← l1, List.map_map]; rfl
    have ll : L.length = ps.length := by rw [← l1, List.length_map]
    have lv : L.map (fun t => Value.ref t.1) = ps.map (fun p => Value.ref p.1) := by rw [← l1, List.map_map]; rfl
    have pr : ps.length = rs.length := by
      have := congrArg List.length e
      rw [List.length_map, List.length_map] at this
      exact this
    have D : ZApart z TI TO L := ⟨by rw [lm]; exact nd, fun t ht => by
      rw [lm]
      exact src (t.1, t.2.1) (by rw [← l1]; exact List.mem_map_of_mem (f := fun t : Src => (t.1, t.2.1)) ht)⟩
    refine zipN_next g1 ?_
    refine zipN_item (kd := kd) (Q := fun v s1 => ∃ u, some v = some u ∧ wpAny (model X.prog X.w) X.A (letOwnedTupleGo (.Name x px) (.ref z) u) (fun _ s2 => ∃ x H', Inv X pins σ H' s2 ∧ RelV x u ∧ (ItZ X.K kd rs).yld i H x H' ∧ (∃ f0 f1 vs, s2.heap.get? z = some (zObj f0 f1 TI TO) ∧ ZF f0 ∧ s2.heap.get? TI = some (tObj (ps.map fun p => Value.ref p.1).toArray) ∧ s2.heap.get? TO = some (tObj vs) ∧ vs.size = ps.length ∧ ∀ p ∈ ps, RIt kd s2.heap p.1 p.2 (i + 1)) ∧ ∀ b ∈ z :: TI :: TO :: ps.map (·.1), H' b = none) E s1)
      D g1 g2 (by rw [lv]; exact g3) g4 (by rw [ll]; exact g5) (fun q => hne ?_) (by omega) l3 fun h' f0' f1' vs' a1 a2 a3 a4 a5 a6 a7 a8 => ?_
    · have l0 : L.length = 0 := by rw [q]; rfl
      exact List.length_eq_zero_iff.mp (by omega)
    · rw [lv] at a3
      rw [lm] at a8
      have new : ObjOk X.prog X.w (upd H s.heap.objs.size (.tup (rs.map fun r => r.2.getD i .non))) h' s.heap.objs.size (.tup (rs.map fun r => r.2.getD i .non)) :=
        ⟨by rw [List.length_map]; exact Nat.le_trans hlen (by decide), _, l2, ⟨_, a7, rfl, _, rfl⟩⟩
      have I1 : Inv X pins σ (upd H s.heap.objs.size (.tup (rs.map fun r => r.2.getD i .non))) { s with heap := h' } :=
        I.turnedNew (t' := s.toks) (ch := z :: TI :: TO :: ps.map (·.1)) (fun c o hb q => a8 c o (fun q' => hb (by rw [q']; exact List.mem_cons_self ..)) (fun q' => hb (by rw [q']; exact List.mem_cons_of_mem _ (List.mem_cons_of_mem _ (List.mem_cons_self ..)))) (fun q' => hb (List.mem_cons_of_mem _ (List.mem_cons_of_mem _ (List.mem_cons_of_mem _ q')))) q) hf (Nat.le_refl _) new
      have lts : ∀ b ∈ z :: TI :: TO :: ps.map (·.1), b < s.heap.objs.size := fun b hb => by
        rcases List.mem_cons.mp hb with rfl | hb
        · exact Heap.lt_size g1
        · rcases List.mem_cons.mp hb with rfl | hb
          · exact Heap.lt_size g3
          · rcases List.mem_cons.mp hb with rfl | hb
            · exact Heap.lt_size g4
            · obtain ⟨p, hp, rfl⟩ := List.mem_map.mp hb
              obtain ⟨o, ho, _⟩ := (g6 p hp).obj
              exact Heap.lt_size ho
      refine ⟨_, rfl, ?_⟩
      refine wpAny_pure ⟨.ref s.heap.objs.size, _, I1, rfl, ⟨_, rfl, I.hok.fresh (Nat.le_refl _), rfl⟩, ⟨f0', f1', vs', a1, a2, a3, a4, by rw [a5, ll], fun p hp => ?_⟩, fun b hb => ?_⟩
      · obtain ⟨t, ht, et⟩ := List.mem_map.mp (by rw [l1]; exact hp : p ∈ L.map fun t => (t.1, t.2.1))
        rw [← et]
        exact a6 t ht
      · rw [upd_ne (Nat.ne_of_lt (lts b hb))]
        exact (hf b hb).1
  done := by
    intro X hP hw hK hc i pins s σ H E I hf st hg
    subst hP hw hK
    obtain ⟨f0, f1, vs, g1, g2, g3, g4, g5, g6⟩ := st
    cases rs with
    | nil => exact absurd rfl hne
    | cons r rs =>
      cases ps with
      | nil => cases e
      | cons p ps =>
        rw [List.map_cons, List.map_cons, List.cons.injEq] at e
        obtain ⟨sq, hi⟩ := hg r (List.mem_cons_self ..)
        obtain ⟨its, rv, rq⟩ := SqK.get I sq
        rw [← e.1] at rq
        have hl := rv.length
        have nz : p.1 ≠ z := fun q => by
          rw [List.nodup_cons] at nd
          exact nd.1 (List.mem_cons_of_mem _ (List.mem_cons_of_mem _ (by rw [← q]; exact List.mem_cons_self ..)))
        have nt : TI ≠ z := fun q => by
          rw [List.nodup_cons] at nd
          exact nd.1 (by rw [← q]; exact List.mem_cons_self ..)
        obtain ⟨s1, s2, s3⟩ := src p (List.mem_cons_self ..)
        refine zipN_next g1 (zipN_end (kd := kd) (its := ps.map (·.1)) (I.ok.hd hc) g1 g2 nt nz s1 (by rw [g3, List.map_cons, List.map_cons, List.map_map]; rfl) (g6 p (List.mem_cons_self ..)) rq (by simp; omega) fun h' e' hk he => ?_)
        obtain ⟨o, ho, hcl⟩ := he
        exact ⟨⟨e', o, rfl, ho, hcl⟩, rfl, I.turnedL (t' := s.toks) (ch := z :: TI :: TO :: (p :: ps).map (·.1)) (fun c o hb q => hk c o (fun q' => hb (by rw [q']; exact List.mem_cons_self ..)) (fun q' => hb (List.mem_cons_of_mem _ (List.mem_cons_of_mem _ (List.mem_cons_of_mem _ (by rw [q']; exact List.mem_cons_self ..))))) q) hf⟩
  self := fun A i s Q E st h => by
    obtain ⟨f0, f1, vs, g1, _⟩ := st
    have hT : s.TypeIs (.ref z) "zip" := ⟨_, g1, rfl⟩
    refine wpAny_pyIter_slot hT F.slot_zip_iter (wpAny_call_entry F.slot_zip_iter hT F.entry_zip_iter ?_ (F.args_zip_iter_1 _))
    show wpAny _ _ (ret (.ref z)) _ _ s
    exact wpAny_pure ⟨_, rfl, "zip", _, hT, F.slot_zip_next.lookup, h⟩
def iZipN (K : PySem.W.Frag) (te : TE) : TI := fun σ H R => te σ H fun x H1 => ∃ (p : Addr) (kd : Bool) (rs : List (Addr × List V)), x = .ref p ∧ (SqT K H1 p (rs.map fun r => V.ref r.1) ∨ SqL K H1 p (rs.map fun r => V.ref r.1)) ∧ rs ≠ [] ∧ rs.length ≤ 12 ∧ (∀ r ∈ rs, SqK kd K H1 r.1 r.2) ∧ R (ItZ K kd rs) H1
theorem vals_refs : ∀ {as : List Addr} {us : List Value}, Vals (as.map V.ref) us → us = as.map Value.ref
  | [], _, .nil => rfl
  | a :: as, _, .cons r t => by
    have e : _ = Value.ref a := r
    rw [e, vals_refs t]; rfl
theorem keeps_zip {M : Model} {h : Heap} : ∃ k, (k = Keeper.frame ∨ k = Keeper.machine ∨ k = Keeper.boundFrame) ∧ PySem.W.Looks M h (keeperOf (.type "zip")) k := by
  refine ⟨.machine, .inr (.inl rfl), ?_⟩
  exact PySem.W.Looks.of_pure rfl
theorem pi_zipN (K : PySem.W.Frag) {X : Cx} {e : Expr} {te : TE} {x : Str} {px p sp pos : Pos} (hg : Gl X "zip") (hm : X.mg "zip" = none) (he : PE X e te) (hK : X.K = K := by rfl) (hst : starEach [.Starred e sp] X.env = [(true, eval e X.env)] := by rfl) :
    PI X (.Name x px) (.Call (.Name "zip" p) [.Starred e sp] [] pos) (iZipN K te) := by
  subst hK
  refine ⟨fun pins s σ H R I h => ?_⟩
  refine Call_ (ld_blt I hg hm PyProof.Rows.boot_zip ?_)
  rw [hst]
  refine PySem.W.ks_call (P := fun _ => True) rfl (fun h _ => keeps_zip) (PySem.W.ks_lone (thn (he.run pins s σ H _ I h) fun v s1 ⟨y, H1, I1, ry, a, kd, rs, ey, hxs, hne, hlen, hsq, q⟩ => ?_))
  subst ey
  obtain rfl : v = Value.ref a := ry
  have hxs' : SqT X.K H1 a ((rs.map (·.1)).map V.ref) ∨ SqL X.K H1 a ((rs.map (·.1)).map V.ref) := by rw [List.map_map]; exact hxs
  refine StX.star_any I1 hxs' fun us s2 I2 rv => ⟨trivial, ?_⟩
  rw [vals_refs rv, List.nil_append]
  refine call_zipN (kd := kd) (fun b hb => ?_) (by rw [List.length_map]; exact hlen) fun h' z hz hk => ?_
  · obtain ⟨r, hr, rfl⟩ := List.mem_map.mp hb
    obtain ⟨its, _, w2⟩ := SqK.get I2 (hsq r hr)
    exact ⟨_, w2⟩
  · obtain ⟨ps, TI, TO, vs, e1, nd, lz, lTI, lTO, lp, g1, g3, g4, g5, g6⟩ := hz
    have old : ∀ q ∈ ps, q.2 < s2.heap.objs.size := fun q hq => by
      have hm2 : q.2 ∈ rs.map (·.1) := by rw [← e1]; exact List.mem_map_of_mem hq
      obtain ⟨r, hr, er⟩ := List.mem_map.mp hm2
      obtain ⟨its, _, w2⟩ := SqK.get I2 (hsq r hr)
      rw [← er]
      exact w2.lt
    have I3 : Inv X pins σ H1 { s2 with heap := h' } := I2.kept (t' := s2.toks) hk
    have T := turn_zipN (P := X.prog) (w := X.w) (K := X.K) (x := x) (px := px) (kd := kd) e1 hne hlen nd fun q hq => ⟨Nat.ne_of_lt (Nat.lt_of_lt_of_le (old q hq) lz), Nat.ne_of_lt (Nat.lt_of_lt_of_le (old q hq) lTO), fun z' => by
      obtain ⟨q', hq', e'⟩ := List.mem_map.mp z'
      exact Nat.ne_of_lt (Nat.lt_of_lt_of_le (old q hq) (lp q' hq')) e'.symm⟩
    refine T.self X.A 0 { s2 with heap := h' } _ _ ⟨.none, false, vs, g1, .inl rfl, g3, g4, g5, g6⟩ ?_
    refine ⟨z, _, _, _, H1, rfl, I3, T, ⟨.none, false, vs, g1, .inl rfl, g3, g4, g5, g6⟩, fun b hb => ?_, q⟩
    have lb : s2.heap.objs.size ≤ b := by
      rcases List.mem_cons.mp hb with rfl | hb
      · exact lz
      · rcases List.mem_cons.mp hb with rfl | hb
        · exact lTI
        · rcases List.mem_cons.mp hb with rfl | hb
          · exact lTO
          · obtain ⟨q', hq', rfl⟩ := List.mem_map.mp hb
            exact lp q' hq'
    exact I2.fpOk lb (I2.hok.fresh lb)
end Cg

set_option Elab.async false
set_option linter.all false
set_option maxRecDepth 100000
set_option maxHeartbeats 1000000
namespace Cg
open PySem PySem.Spec PyProof.Rows L2 Evl
/-! ### enumerate of a list or a tuple that stands still -/
theorem draws_row {prog : Program} {w : World} {A : Around} {kd : Bool} (hh : A.handled = none) (it a : Addr) (hne : a ≠ it) (items : Array Value) : Draws prog w A it [it, a] items.size (fun i v => items[i]? = some v) (fun i h => RIt kd h it a i ∧ RSq kd h a items) := by
  cases kd with
  | true => exact Draws.list hh it a hne items
  | false => exact Draws.tuple hh it a hne items
section
variable {prog : Program} {w : World} {A : Around} {E : Value → Shared → Prop} {s : Shared} {kd : Bool}
theorem enum_tup (l : Addr) (items : Array Value) : Meets (Builtin.«enumerate.__new__» ⟨[.type "enumerate", .ref l], []⟩) (fun _ R s => s.heap.IsTuple l items ∧
      R (.ok (.ret (.ref (s.heap.push (itObj false l)).objs.size))) { s with heap := (s.heap.push (itObj false l)).push { cls := .type "enumerate", data := .fields #[.none, .bool false, .ref s.heap.objs.size, rawInt 0, .none, .none] } }) :=
  .of_wp fun prog w A R s h => by
    obtain ⟨hp, g, d, tk, os⟩ := s
    obtain ⟨hl, h⟩ := h
    have hsub := sub_enumerate
    obtain ⟨o, ho, r⟩ := id hl
    have hL : Heap.IsTuple (Shared.heap ⟨hp, g, d, tk, os⟩) l items := hl
    wp_walk using AutoSeq1.wpAny_loadPart' ho
    refine wpAny_stack_any fun _ => wpAny_pure ?_
    split
    · rename_i c _ _ _ _ _
      cases (c == Value.type "enumerate") <;> (wp_walk using AutoSeq1.wpAny_loadPart' ho, wpAny_pyIter_tuple hL; exact ⟨_, rfl, h⟩)
    · wp_walk using AutoSeq1.wpAny_loadPart' ho, wpAny_pyIter_tuple hL
      exact ⟨_, rfl, h⟩
theorem call_enum {l : Addr} {items : Array Value} {Q : Value → Shared → Prop} (hL : RSq kd s.heap l items)
    (h : ∀ h', IsEnum h' (s.heap.objs.size + 1) s.heap.objs.size 0 .none → RIt kd h' s.heap.objs.size l 0 → (∀ b o, s.heap.get? b = some o → h'.get? b = some o) → Q (.ref (s.heap.objs.size + 1)) { s with heap := h' }) :
    wpAny (model prog w) A (call (.type "enumerate") [.ref l]) Q E s := by
  cases kd with
  | true => exact call_enumerate_list hL fun h' a1 a2 _ a4 => h h' a1 a2 a4
  | false =>
    refine callType_new F.called_enumerate (by decide) (F.typeCall_enumerate_1 _) (F.newCall_enumerate_1 _) (fun obj => F.args_object_init_2 obj _) F.entry_enumerate_new (enum_tup l items) ⟨hL, ?_⟩
    have hz : (s.heap.push (itObj false l)).objs.size = s.heap.objs.size + 1 := Heap.size_push ..
    have he : ((s.heap.push (itObj false l)).push { cls := .type "enumerate", data := .fields #[.none, .bool false, .ref s.heap.objs.size, rawInt 0, .none, .none] }).get? (s.heap.push (itObj false l)).objs.size = some { cls := .type "enumerate", data := .fields #[.none, .bool false, .ref s.heap.objs.size, rawInt 0, .none, .none] } := Heap.get?_push_size _ rfl
    show _ ∧ _
    rw [hz] at he ⊢
    exact ⟨⟨_, he, rfl⟩, h _ he ((rit_new (kd := false)).keep fun o e => Heap.get?_push_of_some _ e) fun b o x => Heap.get?_push_of_some _ (Heap.get?_push_of_some _ x)⟩
end
def ItE (K : PySem.W.Frag) (kd : Bool) (a : Addr) (xs : List V) : It :=
  ⟨fun i H => SqK kd K H a xs ∧ i < xs.length, fun i H v H' => ∃ T, v = .ref T ∧ H T = none ∧ H' = upd H T (.tup [.int (i : Nat), xs.getD i .non]), fun i H => SqK kd K H a xs ∧ xs.length ≤ i⟩
theorem turn_enumK {P : Program} {w : World} {K : PySem.W.Frag} {elts : List Expr} {kk : Nat} {tpos : Pos} {kd : Bool} {xs : List V} {a e it : Addr} (hei : e ≠ it) (hai : a ≠ it) (hae : a ≠ e) :
    Turn P w K (.Tuple elts kk tpos) (ItE K kd a xs) [e, it] e (fun i h => (∃ old, IsEnum h e it ((i : Nat) : Int) old) ∧ RIt kd h it a i ∧ i ≤ xs.length) where
  mem := List.mem_cons_self ..
  obj := fun i h st b hb => by
    obtain ⟨⟨old, he⟩, hi, _⟩ := st
    rcases List.mem_cons.mp hb with rfl | hb
    · exact ⟨_, he, fun v q => nomatch q⟩
    · rw [List.mem_singleton.mp hb]
      exact hi.obj
  keep := fun i h h' st k => by
    obtain ⟨⟨old, he⟩, hi, hl⟩ := st
    exact ⟨⟨old, k e (List.mem_cons_self ..) _ he⟩, hi.keep fun o q => k it (List.mem_cons_of_mem _ (List.mem_cons_self ..)) o q, hl⟩
  item := by
    intro X hP hw hK hc i pins s σ H E I hf st hg
    subst hP hw hK
    obtain ⟨⟨old, he⟩, hi, _⟩ := st
    obtain ⟨sq, hlt⟩ := hg
    obtain ⟨its, rv, rq⟩ := SqK.get I sq
    have hlen := rv.length
    obtain ⟨u, hu, ru⟩ := rv.get (List.getElem?_eq_getElem hlt)
    have hel : e < s.heap.objs.size := Heap.lt_size he
    have hil : it < s.heap.objs.size := by
      obtain ⟨o, ho, _⟩ := hi.obj
      exact Heap.lt_size ho
    refine wpAny_pyNext_enum_itemD (draws_row (kd := kd) (A := X.A.in1) (I.ok.hd hc) it a hai its.toArray) he ⟨hi, rq⟩ (by simp; omega) hei (by simp; exact ⟨hei, hae.symm⟩) fun x h' tk hP ho hst hT hsz hk => ?_
    have ex : x = u := by
      have h1 : its[i]? = some x := by simpa using hP
      rw [hu] at h1
      exact (Option.some.inj h1).symm
    subst ex
    refine ⟨_, rfl, wpAny_letOwnedTupleGo_enum (s := { s with heap := h', toks := tk + 1 }) ho fun h2 he2 sb => ?_⟩
    have hT2 : h2.get? s.heap.objs.size = some (tObj #[.int i tk, x]) := (sb.2 _ (Nat.ne_of_gt hel)).trans hT
    have eg : xs.getD i .non = xs[i] := by rw [List.getD_eq_getElem?_getD, List.getElem?_eq_getElem hlt]; rfl
    have new : ObjOk X.prog X.w (upd H s.heap.objs.size (.tup [.int (i : Nat), xs.getD i .non])) h2 s.heap.objs.size (.tup [.int (i : Nat), xs.getD i .non]) :=
      ⟨by show 2 ≤ sizeLine; decide, [.int i tk, x], .cons ⟨_, rfl⟩ (.cons (by rw [eg]; exact ru) .nil), ⟨_, hT2, rfl, _, rfl⟩⟩
    have I1 : Inv X pins σ (upd H s.heap.objs.size (.tup [.int (i : Nat), xs.getD i .non])) { s with heap := h2, toks := tk + 1 } :=
      I.turnedNew (ch := [e, it]) (fun b ob hb q => (sb.2 b (fun z => hb (by rw [z]; exact List.mem_cons_self ..))).trans (hk b ob (fun z => hb (by rw [z]; exact List.mem_cons_self ..)) (fun z => hb (by rw [z]; exact List.mem_cons_of_mem _ (List.mem_cons_self ..))) q)) hf (Nat.le_refl _) new
    refine ⟨.ref s.heap.objs.size, _, I1, rfl, ⟨_, rfl, I.hok.fresh (Nat.le_refl _), rfl⟩, ⟨⟨x, ?_⟩, hst.1.keep fun o q => (sb.2 it hei.symm).trans q, hlt⟩, fun b hb => ?_⟩
    · have e1 : ((i + 1 : Nat) : Int) = (i : Int) + 1 := by omega
      rw [e1]
      exact he2
    · have hb' : b < s.heap.objs.size := by
        rcases List.mem_cons.mp hb with rfl | hb
        · exact hel
        · rw [List.mem_singleton.mp hb]; exact hil
      rw [upd_ne (Nat.ne_of_lt hb')]
      exact (hf b hb).1
  done := by
    intro X hP hw hK hc i pins s σ H E I hf st hg
    subst hP hw hK
    obtain ⟨⟨old, he⟩, hi, hl⟩ := st
    obtain ⟨sq, hle⟩ := hg
    obtain ⟨its, rv, rq⟩ := SqK.get I sq
    have hlen := rv.length
    obtain rfl : i = xs.length := by omega
    obtain ⟨f0, f1, f2, f3, f4, f5⟩ := hf it (List.mem_cons_of_mem _ (List.mem_cons_self ..))
    have hsz : its.toArray.size = xs.length := by rw [List.size_toArray]; omega
    exact wpAny_pyNext_enum_endD (draws_row (kd := kd) (A := X.A.in1) (I.ok.hd hc) it a hai its.toArray) he ⟨by rw [hsz]; exact hi, rq⟩ fun h' eb => ⟨rfl, I.turned (t' := s.toks) (fun b o hb q => eb b o hb q) f0 f1 f3 f4 f5⟩
  self := fun A i s Q E st h => by
    obtain ⟨⟨_, he⟩, _⟩ := st
    exact wpAny_pyIter_enum he h
def iEnumK (K : PySem.W.Frag) (ta : TA) : TI := fun σ H R => ta σ H fun vs H1 => ∃ (kd : Bool) (a : Addr) (xs : List V), vs = [.ref a] ∧ SqK kd K H1 a xs ∧ R (ItE K kd a xs) H1
theorem pi_enumS (K : PySem.W.Frag) {X : Cx} {e : Expr} {ta : TA} {p pos tpos : Pos} {elts : List Expr} {kk : Nat} (hg : Gl X "enumerate") (hm : X.mg "enumerate" = none) (ha : PA X [e] ta) (hK : X.K = K := by rfl) (hs : starEach [e] X.env = [(false, eval e X.env)] := by rfl) :
    PI X (.Tuple elts kk tpos) (.Call (.Name "enumerate" p) [e] [] pos) (iEnumK K ta) := by
  subst hK
  constructor
  intro pins s σ H R I h
  refine Call_ (ld_blt I hg hm boot_enumerate (PyProof.Rows.callWith_type1 (thn (ha.run pos pins s σ H _ I h) ?_) hs rfl))
  rintro us s1 ⟨vs, H1, I1, r1, kd, a, xs, rfl, sq, q⟩
  obtain ⟨u, rfl, ru⟩ := vals1 r1
  obtain rfl : u = Value.ref a := ru
  obtain ⟨its, rv, rq⟩ := SqK.get I1 sq
  have hal := rq.lt
  refine call_enum rq fun h' he hit hk => wpAny_pyIter_enum he ?_
  have I2 : Inv X pins σ H1 { s1 with heap := h' } := I1.kept (t' := s1.toks) hk
  refine ⟨s1.heap.objs.size + 1, [s1.heap.objs.size + 1, s1.heap.objs.size], _, _, H1, rfl, I2, turn_enumK (kd := kd) (xs := xs) (Nat.succ_ne_self _) (Nat.ne_of_lt hal) (Nat.ne_of_lt (Nat.lt_succ_of_lt hal)), ⟨⟨.none, he⟩, hit, Nat.zero_le _⟩, fun b hb => ?_, q⟩
  have hle : s1.heap.objs.size ≤ b := by
    rcases List.mem_cons.mp hb with rfl | hb
    · exact Nat.le_succ _
    · rw [List.mem_singleton.mp hb]; exact Nat.le_refl _
  exact I1.fpOk hle (I1.hok.fresh hle)
end Cg

set_option Elab.async false
set_option linter.all false
set_option maxRecDepth 100000
set_option maxHeartbeats 1000000
namespace Cg
open PySem PySem.Spec PyProof.Rows L2 Evl
/-! ### a walk of n turns -/
theorem it_by {J : It} {n : Nat} {Body : V → Hp → (Hp → Prop) → Prop} {Fn : Hp → Prop} {H0 : Hp} (Pv : Nat → Hp → Prop) (h0 : Pv 0 H0) (hgo : ∀ i H, i < n → Pv i H → J.go i H) (hst : ∀ H, Pv n H → J.stop n H) (hs : ∀ i x H H', i < n → Pv i H → J.yld i H x H' → Body x H' (Pv (i + 1))) (hd : ∀ H, Pv n H → Fn H) :
    ∃ W : Nat → Nat → Hp → Prop, (∃ m, W 0 m H0) ∧ ∀ i m H, W i m H → (J.stop i H ∧ Fn H) ∨ (J.go i H ∧ ∃ Nx : Hp → Prop, (∀ H', Nx H' → ∃ m', m' < m ∧ W (i + 1) m' H') ∧ ∀ x H', J.yld i H x H' → Body x H' Nx) := by
  refine ⟨fun i m H => i + m = n ∧ Pv i H, ⟨n, by omega, h0⟩, fun i m H hw => ?_⟩
  obtain ⟨e, p⟩ := hw
  cases m with
  | zero =>
    obtain rfl : i = n := by omega
    exact .inl ⟨hst H p, hd H p⟩
  | succ m => exact .inr ⟨hgo i H (by omega) p, Pv (i + 1), fun H' p' => ⟨m, by omega, by omega, p'⟩, fun x H' y => hs i x H H' (by omega) p y⟩
/-- a list, or a tuple, of data -/
def seqD (kd : Bool) (ds : List PyData) : PyData := match kd with
  | true => .list ds
  | false => .tuple ds
theorem Dq.seq_inv {H : Hp} {v : V} {kd : Bool} {ds : List PyData} (h : Dq H v (seqD kd ds)) : ∃ a xs, v = .ref a ∧ (∀ {K : PySem.W.Frag} {H' : Hp}, Same H H' → SqK kd K H' a xs) ∧ DqAll H xs ds := by
  cases kd with
  | true =>
    obtain ⟨a, xs, e, hh, r⟩ := h.list_inv
    exact ⟨a, xs, e, fun s => SqL.of (s _ _ hh), r⟩
  | false =>
    obtain ⟨a, xs, e, hh, r⟩ := h.tup_inv
    exact ⟨a, xs, e, fun s => SqT.of (s _ _ hh), r⟩
theorem take_idx {α β : Type} (f : Nat → α → β) {xs : List α} {i : Nat} {x : α} (h : xs[i]? = some x) : (xs.take (i + 1)).mapIdx f = (xs.take i).mapIdx f ++ [f i x] := by
  have hl : (xs.take i).length = i := by
    rw [List.length_take]
    have := (List.getElem?_eq_some_iff.mp h).1
    omega
  rw [List.take_add_one, h]
  show (xs.take i ++ [x]).mapIdx f = _
  rw [List.mapIdx_append, hl]
  simp
section
variable {bs : List Addr} {K : PySem.W.Frag} {σ : L2.St} {H H' : Hp} {ta tb te tl : TE} {d e : PyData} {ds es : List PyData}
/-- [e for k, x in enumerate(xs)] -/
theorem en_lcE {kd : Bool} {i j : Nat} {vs : List Nat} (g : Nat → PyData → PyData) (l : Live bs H) (h : EvQ bs tl σ H (seqD kd ds)) (hz : ds.length ≤ 40000) (hw : ∀ x y, wipe (((wipe σ vs).set i (some x)).set j (some y)) vs = wipe σ vs)
    (he : ∀ (cs : List Addr) (x : V) (k : Nat) (d : PyData) (H1 : Hp), Same H H1 → (∀ y ∈ bs, y ∈ cs) → Live cs H1 → ds[k]? = some d → Dq (hid cs H1) x d → EvQ cs te (((wipe σ vs).set i (some (.int (k : Nat)))).set j (some x)) H1 (g k d)) :
    EvN bs (tLc (iEnumK K (tCons tl tNil)) (gTup K 2 (gCons (gName i) (gCons (gName j) gNil))) tYes te vs) σ H (ds.mapIdx g) := fun H0 a Q q => h H0 a _ fun v H1 e1 hd => by
  obtain ⟨p, xs, rfl, hp, hx⟩ := hd.seq_inv
  refine ⟨kd, p, xs, rfl, hp hid_same, fun D hD => ?_⟩
  have l1 : Live bs H1 := l.mono (a.trans e1)
  have hlen := hx.len
  refine it_by (J := ItE K kd p xs) (n := xs.length) (Body := fun x H' Nx => gTup K 2 (gCons (gName i) (gCons (gName j) gNil)) x (wipe σ vs) H' fun σ2 H2 => wipe σ2 vs = wipe σ vs ∧ tYes σ2 H2 fun b H3 => if b = true then te σ2 H3 fun y H4 => ∃ acc, H4 D = some (.lst acc) ∧ acc.length < sizeLine ∧ Nx (upd H4 D (.lst (acc ++ [y]))) else Nx H3)
    (fun k H' => ∃ acc : List V, H' D = some (.lst acc) ∧ DqAll (hid (D :: bs) H') acc ((ds.take k).mapIdx g) ∧ Same H1 H' ∧ DqAll (hid (D :: bs) H') xs ds) ⟨[], upd_same, .nil, Ex.new hD, hx.mono (hid_fresh hD)⟩ (fun k H' hk hP => ?_) (fun H' hP => ?_) (fun k x H' H2 hk hP hy => ?_) (fun H' hP => ?_)
  · obtain ⟨_, _, _, sm, _⟩ := hP
    exact ⟨hp (hid_same.trans sm), hk⟩
  · obtain ⟨_, _, _, sm, _⟩ := hP
    exact ⟨hp (hid_same.trans sm), Nat.le_refl _⟩
  · obtain ⟨acc, h1, h2, h3, h4⟩ := hP
    obtain ⟨T, rfl, hT, rfl⟩ := hy
    have hxk : xs[k]? = some (xs.getD k .non) := by rw [List.getD_eq_getElem?_getD, List.getElem?_eq_getElem hk]; rfl
    obtain ⟨d, gd, dd⟩ := h4.get hxk
    have sT : Same H' (upd H' T (.tup [.int (k : Nat), xs.getD k .non])) := Ex.new hT
    have lD : Live (D :: bs) H' := fun y hy => by
      rcases List.mem_cons.mp hy with rfl | hy
      · rw [h1]; exact fun z => nomatch z
      · exact (l1.mono h3) y hy
    refine ⟨T, _, rfl, SqT.of upd_same, rfl, _, _, rfl, _, _, rfl, rfl, hw _ _, ?_⟩
    show te _ (upd H' T (.tup [.int (k : Nat), xs.getD k .non])) fun y H4 => ∃ acc, H4 D = some (.lst acc) ∧ acc.length < sizeLine ∧ _
    refine he (D :: bs) (xs.getD k .non) k d _ (((a.trans e1).trans h3).trans sT) (fun y hy => List.mem_cons_of_mem _ hy) (lD.mono sT) gd (dd.mono (same_hid sT)) _ (Same.refl _) _ fun y H4 e4 dy => ⟨acc, e4 _ _ (sT _ _ h1), ?_, acc ++ [y], upd_same, ?_, ?_, ?_⟩
    · have := h2.len
      rw [List.length_mapIdx, List.length_take] at this
      exact Nat.lt_of_le_of_lt (show acc.length ≤ 40000 by omega) (by decide)
    · have kk : Keep (D :: bs) H4 (upd H4 D (.lst (acc ++ [y]))) := (Keep.refl _ _).put (List.mem_cons_self ..)
      rw [take_idx g gd]
      exact ((h2.mono (same_hid (sT.trans e4))).mono kk).append (.cons (dy.mono kk) .nil)
    · exact fun c o q => by
        rw [upd_ne (ne_of_none q hD)]
        exact e4 _ _ (sT _ _ (h3 _ _ q))
    · have kk : Keep (D :: bs) H4 (upd H4 D (.lst (acc ++ [y]))) := (Keep.refl _ _).put (List.mem_cons_self ..)
      exact (h4.mono (same_hid (sT.trans e4))).mono kk
  · obtain ⟨acc, h1, h2, h3, h4⟩ := hP
    rw [hlen, List.take_of_length_le (Nat.le_refl _)] at h2
    exact q D acc H' (fresh_back e1 hD) (e1.trans h3) h1 h2
/-- [e for k, row in enumerate(rows) for r, x in enumerate(row) if t] -/
theorem en_lc2E {k1 k2 : Bool} {i j i2 j2 : Nat} {vs vs1 : List Nat} {t : TT} {tl2 : TE} {rows : List (List PyData)} (c : PyData → Bool) (g : Nat → Nat → PyData → PyData) (l : Live bs H) (h : EvQ bs tl σ H (seqD k1 (rows.map (seqD k2)))) (hz : (rows.map List.length).sum ≤ 40000) (hlr : rows.length ≤ 40000)
    (hw : ∀ x y, wipe (((wipe σ vs).set i (some x)).set j (some y)) vs = wipe σ vs) (hw1 : ∀ x y z w, wipe (((wipe (((wipe σ vs).set i (some x)).set j (some y)) vs1).set i2 (some z)).set j2 (some w)) vs1 = wipe (((wipe σ vs).set i (some x)).set j (some y)) vs1)
    (h2 : ∀ (cs : List Addr) (x : V) (k : Nat) (row : List PyData) (H1 : Hp), Live cs H1 → Dq (hid cs H1) x (seqD k2 row) → EvQ cs tl2 (((wipe σ vs).set i (some (.int (k : Nat)))).set j (some x)) H1 (seqD k2 row))
    (ht : ∀ (cs : List Addr) (x y : V) (k r : Nat) (d : PyData) (H1 : Hp), (∃ row ∈ rows, d ∈ row) → Dq (hid cs H1) y d → EvT t (((wipe (((wipe σ vs).set i (some (.int (k : Nat)))).set j (some x)) vs1).set i2 (some (.int (r : Nat)))).set j2 (some y)) H1 (c d))
    (he : ∀ (cs : List Addr) (x y : V) (k r : Nat) (d : PyData) (H1 : Hp), Live cs H1 → c d = true → Dq (hid cs H1) y d → EvQ cs te (((wipe (((wipe σ vs).set i (some (.int (k : Nat)))).set j (some x)) vs1).set i2 (some (.int (r : Nat)))).set j2 (some y)) H1 (g k r d)) :
    EvN bs (tLc2 (iEnumK K (tCons tl tNil)) (gTup K 2 (gCons (gName i) (gCons (gName j) gNil))) tYes (iEnumK K (tCons tl2 tNil)) (gTup K 2 (gCons (gName i2) (gCons (gName j2) gNil))) t te vs vs1) σ H
      (rows.mapIdx fun k row => (row.mapIdx fun r d => if c d = true then [g k r d] else []).flatten).flatten := fun H0 a Q q => h H0 a _ fun v H1 e1 hd => by
  obtain ⟨p, xs, rfl, hp, hx⟩ := hd.seq_inv
  refine ⟨k1, p, xs, rfl, hp hid_same, fun D hD => ?_⟩
  have l1 : Live bs H1 := l.mono (a.trans e1)
  have hlen : xs.length = rows.length := by rw [hx.len, List.length_map]
  let f : Nat → List PyData → List PyData := fun k row => (row.mapIdx fun r d => if c d = true then [g k r d] else []).flatten
  have flen : ∀ (k : Nat) (row : List PyData), (f k row).length ≤ row.length := fun k row => by
    show ((row.mapIdx fun r d => if c d = true then [g k r d] else []).flatten).length ≤ _
    rw [List.length_flatten]
    have : ∀ (r0 : Nat) (row : List PyData), ((row.mapIdx fun r d => if c d = true then [g k (r + r0) d] else []).map List.length).sum ≤ row.length := fun r0 row => by
      induction row generalizing r0 with
      | nil => exact Nat.le_refl _
      | cons d row ih =>
        rw [List.mapIdx_cons, List.map_cons, List.sum_cons, List.length_cons]
        have h1 := ih (r0 + 1)
        have h2 : ∀ x y : PyData → PyData, True := fun _ _ => trivial
        have h3 : (if c d = true then [g k (0 + r0) d] else []).length ≤ 1 := by split <;> simp
        have e : (row.mapIdx fun r d => if c d = true then [g k (r + 1 + r0) d] else []) = (row.mapIdx fun r d => if c d = true then [g k (r + (r0 + 1)) d] else []) := by
          congr 1
          funext r d
          rw [show r + 1 + r0 = r + (r0 + 1) by omega]
        rw [e]
        omega
    exact this 0 row
  have alen : ∀ k, ((rows.take k).mapIdx f).flatten.length ≤ ((rows.take k).map List.length).sum := fun k => by
    induction k with
    | zero => simp
    | succ k ih =>
      cases hr : rows[k]? with
      | none =>
        have hle := List.getElem?_eq_none_iff.mp hr
        rw [List.take_of_length_le (by omega)]
        rw [List.take_of_length_le hle] at ih
        exact ih
      | some row =>
        rw [take_idx f hr, List.flatten_append, List.length_append, List.take_add_one, hr, List.map_append, List.sum_append]
        have := flen k row
        simp at ih ⊢
        omega
  have tlen : ∀ k, ((rows.take k).map List.length).sum ≤ 40000 := fun k => by
    have h1 : ((rows.take k).map List.length).sum + ((rows.drop k).map List.length).sum = (rows.map List.length).sum := by rw [← List.sum_append, ← List.map_append, List.take_append_drop]
    omega
  refine it_by (J := ItE K k1 p xs) (n := xs.length) (Body := fun x H' Nx => gTup K 2 (gCons (gName i) (gCons (gName j) gNil)) x (wipe σ vs) H' fun σ2 H2 => wipe σ2 vs = wipe σ vs ∧ tYes σ2 H2 fun b H3 =>
      if b = true then iEnumK K (tCons tl2 tNil) σ2 H3 fun J1 H4 => ∃ W1 : Nat → Nat → Hp → Prop, (∃ m, W1 0 m H4) ∧ ∀ j k H, W1 j k H →
        (J1.stop j H ∧ Nx H) ∨ (J1.go j H ∧ ∃ Nx1 : Hp → Prop, (∀ H', Nx1 H' → ∃ k', k' < k ∧ W1 (j + 1) k' H') ∧ ∀ x H', J1.yld j H x H' → gTup K 2 (gCons (gName i2) (gCons (gName j2) gNil)) x (wipe σ2 vs1) H' fun σ3 H5 => wipe σ3 vs1 = wipe σ2 vs1 ∧ t σ3 H5 fun b H6 =>
          if b = true then te σ3 H6 fun y H7 => ∃ acc, H7 D = some (.lst acc) ∧ acc.length < sizeLine ∧ Nx1 (upd H7 D (.lst (acc ++ [y]))) else Nx1 H6)
      else Nx H3)
    (fun k H' => ∃ acc : List V, H' D = some (.lst acc) ∧ DqAll (hid (D :: bs) H') acc ((rows.take k).mapIdx f).flatten ∧ Same H1 H' ∧ DqAll (hid (D :: bs) H') xs (rows.map (seqD k2))) ⟨[], upd_same, .nil, Ex.new hD, hx.mono (hid_fresh hD)⟩ (fun k H' hk hP => ?_) (fun H' hP => ?_) (fun k x H' H2 hk hP hy => ?_) (fun H' hP => ?_)
  · obtain ⟨_, _, _, sm, _⟩ := hP
    exact ⟨hp (hid_same.trans sm), hk⟩
  · obtain ⟨_, _, _, sm, _⟩ := hP
    exact ⟨hp (hid_same.trans sm), Nat.le_refl _⟩
  · obtain ⟨acc, g1, g2, g3, g4⟩ := hP
    obtain ⟨T, rfl, hT, rfl⟩ := hy
    have hxk : xs[k]? = some (xs.getD k .non) := by rw [List.getD_eq_getElem?_getD, List.getElem?_eq_getElem hk]; rfl
    obtain ⟨d, gd, dd⟩ := g4.get hxk
    rw [List.getElem?_map, Option.map_eq_some_iff] at gd
    obtain ⟨row, gr, rfl⟩ := gd
    have sT : Same H' (upd H' T (.tup [.int (k : Nat), xs.getD k .non])) := Ex.new hT
    have lD : Live (D :: bs) H' := fun y hy => by
      rcases List.mem_cons.mp hy with rfl | hy
      · rw [g1]; exact fun z => nomatch z
      · exact (l1.mono g3) y hy
    refine ⟨T, _, rfl, SqT.of upd_same, rfl, _, _, rfl, _, _, rfl, rfl, hw _ _, ?_⟩
    dsimp only [tYes]
    rw [if_pos rfl]
    refine h2 (D :: bs) (xs.getD k .non) k row _ (lD.mono sT) (dd.mono (same_hid sT)) _ (Same.refl _) _ fun v2 H3 e3 d3 => ?_
    obtain ⟨p2, ys, rfl, hp2, hy2⟩ := d3.seq_inv
    refine ⟨k2, p2, ys, rfl, hp2 hid_same, ?_⟩
    have ylen : ys.length = row.length := hy2.len
    refine it_by (J := ItE K k2 p2 ys) (n := ys.length) (Body := fun x H' Nx1 => gTup K 2 (gCons (gName i2) (gCons (gName j2) gNil)) x (wipe (((wipe σ vs).set i (some (.int (k : Nat)))).set j (some (xs.getD k .non))) vs1) H' fun σ3 H5 => wipe σ3 vs1 = wipe (((wipe σ vs).set i (some (.int (k : Nat)))).set j (some (xs.getD k .non))) vs1 ∧ t σ3 H5 fun b H6 =>
        if b = true then te σ3 H6 fun y H7 => ∃ acc, H7 D = some (.lst acc) ∧ acc.length < sizeLine ∧ Nx1 (upd H7 D (.lst (acc ++ [y]))) else Nx1 H6)
      (fun r H' => ∃ acc : List V, H' D = some (.lst acc) ∧ DqAll (hid (D :: bs) H') acc (((rows.take k).mapIdx f).flatten ++ ((row.take r).mapIdx fun r d => if c d = true then [g k r d] else []).flatten) ∧ Same H1 H' ∧ DqAll (hid (D :: bs) H') xs (rows.map (seqD k2)) ∧ DqAll (hid (D :: bs) H') ys row ∧ Same (hid (D :: bs) H3) (hid (D :: bs) H'))
      ⟨acc, e3 _ _ (sT _ _ g1), by simpa using g2.mono (same_hid (sT.trans e3)), (g3.trans sT).trans e3, g4.mono (same_hid (sT.trans e3)), hy2, Same.refl _⟩ (fun r H4 hr hP => ?_) (fun H4 hP => ?_) (fun r x H4 H5 hr hP hy => ?_) (fun H4 hP => ?_)
    · obtain ⟨_, _, _, _, _, _, sm⟩ := hP
      exact ⟨hp2 (sm.trans hid_same), hr⟩
    · obtain ⟨_, _, _, _, _, _, sm⟩ := hP
      exact ⟨hp2 (sm.trans hid_same), Nat.le_refl _⟩
    · obtain ⟨ac, b1, b2, b3, b4, b5, b6⟩ := hP
      obtain ⟨T2, rfl, hT2, rfl⟩ := hy
      have hyr : ys[r]? = some (ys.getD r .non) := by rw [List.getD_eq_getElem?_getD, List.getElem?_eq_getElem hr]; rfl
      obtain ⟨d, gd, dd2⟩ := b5.get hyr
      have sT2 : Same H4 (upd H4 T2 (.tup [.int (r : Nat), ys.getD r .non])) := Ex.new hT2
      have dmem : ∃ row ∈ rows, d ∈ row := ⟨row, List.mem_of_getElem? gr, List.mem_of_getElem? gd⟩
      have lD4 : Live (D :: bs) H4 := fun y hy => by
        rcases List.mem_cons.mp hy with rfl | hy
        · rw [b1]; exact fun z => nomatch z
        · exact (l1.mono b3) y hy
      refine ⟨T2, _, rfl, SqT.of upd_same, rfl, _, _, rfl, _, _, rfl, rfl, hw1 _ _ _ _, ?_⟩
      refine ht (D :: bs) _ (ys.getD r .non) k r d _ dmem (dd2.mono (same_hid sT2)) _ (Ex.refl _) _ fun H6 e6 => ?_
      have s46 := sT2.trans e6
      rw [take_idx (fun r d => if c d = true then [g k r d] else []) gd, List.flatten_append]
      cases hc : c d with
      | false =>
        refine iteF ⟨ac, s46 _ _ b1, by simpa [hc] using b2.mono (same_hid s46), b3.trans s46, b4.mono (same_hid s46), b5.mono (same_hid s46), b6.trans (same_hid s46)⟩
      | true =>
        refine iteT ?_
        refine he (D :: bs) _ (ys.getD r .non) k r d H6 (lD4.mono s46) hc (dd2.mono (same_hid s46)) H6 (Same.refl _) _ fun y H7 e7 dy => ⟨ac, e7 _ _ (s46 _ _ b1), ?_, ac ++ [y], upd_same, ?_, ?_, ?_, ?_, ?_⟩
        · have h1 := b2.len
          rw [List.length_append] at h1
          have h3 := alen k
          have h4 := tlen k
          have h5 : (((row.take r).mapIdx fun r d => if c d = true then [g k r d] else []).flatten).length ≤ (row.take r).length := flen k (row.take r)
          rw [List.length_take] at h5
          have h6 : row.length ≤ 40000 := by
            have h7 := tlen (k + 1)
            rw [List.take_add_one, gr, List.map_append, List.sum_append] at h7
            simp at h7
            omega
          exact Nat.lt_of_le_of_lt (show ac.length ≤ 80000 by omega) (by decide)
        · have kk : Keep (D :: bs) H7 (upd H7 D (.lst (ac ++ [y]))) := (Keep.refl _ _).put (List.mem_cons_self ..)
          have b2' := (b2.mono (same_hid (s46.trans e7))).mono kk
          have z := b2'.append (.cons (dy.mono kk) .nil)
          simpa [hc] using z
        · exact fun c' o q => by
            rw [upd_ne (ne_of_none q hD)]
            exact e7 _ _ (s46 _ _ (b3 _ _ q))
        · have kk : Keep (D :: bs) H7 (upd H7 D (.lst (ac ++ [y]))) := (Keep.refl _ _).put (List.mem_cons_self ..)
          exact (b4.mono (same_hid (s46.trans e7))).mono kk
        · have kk : Keep (D :: bs) H7 (upd H7 D (.lst (ac ++ [y]))) := (Keep.refl _ _).put (List.mem_cons_self ..)
          exact (b5.mono (same_hid (s46.trans e7))).mono kk
        · have kk : Keep (D :: bs) H7 (upd H7 D (.lst (ac ++ [y]))) := (Keep.refl _ _).put (List.mem_cons_self ..)
          exact (b6.trans (same_hid (s46.trans e7))).trans kk
    · obtain ⟨ac, b1, b2, b3, b4, b5, b6⟩ := hP
      rw [ylen, List.take_of_length_le (Nat.le_refl _)] at b2
      refine ⟨ac, b1, ?_, b3, b4⟩
      rw [take_idx f gr, List.flatten_append]
      simpa using b2
  · obtain ⟨acc, g1, g2, g3, g4⟩ := hP
    rw [hlen, List.take_of_length_le (Nat.le_refl _)] at g2
    exact q D acc H' (fresh_back e1 hD) (e1.trans g3) g1 g2
end
end Cg

set_option Elab.async false
set_option linter.all false
set_option maxRecDepth 100000
set_option maxHeartbeats 1000000
namespace Cg
open PySem PySem.Spec PyProof.Rows L2 Evl
theorem pi_zipS (K : PySem.W.Frag) {X : Cx} {e e2 : Expr} {ta : TA} {p pos tpos : Pos} {elts : List Expr} {kk : Nat} (hg : Gl X "zip") (hm : X.mg "zip" = none) (ha : PA X [e, e2] ta) (hK : X.K = K := by rfl)
    (hs : starEach [e, e2] X.env = (false, eval e X.env) :: starEach [e2] X.env := by rfl) (hpl : (backTo pos (starEach [e2] X.env)).any (·.1) = false := by rfl) : PI X (.Tuple elts kk tpos) (.Call (.Name "zip" p) [e, e2] [] pos) (RZ.iZipA K ta) := by
  subst hK
  exact RZ.pi_zipA hg hm ha hs hpl
/-- tables of numbers -/
abbrev Mat := List (List Int)
def rowD (kd : Bool) (r : List Int) : PyData := seqD kd (r.map PyData.int)
def tabD (k1 k2 : Bool) (M : Mat) : PyData := seqD k1 (M.map (rowD k2))
theorem ints_inv {H : Hp} : ∀ {xs : List V} {ns : List Int}, DqAll H xs (ns.map PyData.int) → xs = ns.map V.int
  | _, [], .nil => rfl
  | _, n :: r, .cons h t => by rw [h.int_inv, ints_inv t]; rfl
theorem hid_grow {bs cs : List Addr} {H H' : Hp} (hc : ∀ a ∈ cs, H a = none) (s : Same H H') : Same (hid bs H) (hid (cs ++ bs) H') := fun a o e => by
  obtain ⟨h1, h2⟩ := hid_some e
  have h3 : a ∉ cs ++ bs := fun z => by
    rcases List.mem_append.mp z with z | z
    · rw [hc a z] at h2; cases h2
    · exact h1 z
  rw [hid_out h3]
  exact s _ _ h2
/-- a new list of new lists of numbers -/
structure NewTab (H H' : Hp) (p : Addr) (as : List Addr) (M : Mat) : Prop where
  np : H p = none
  hp : H' p = some (.lst (as.map V.ref))
  len : as.length = M.length
  nd : as.Nodup
  row : ∀ (j : Nat) (a : Addr) (r : List Int), as[j]? = some a → M[j]? = some r → a ≠ p ∧ H a = none ∧ H' a = some (.lst (r.map V.int))
theorem rows_dq {H' : Hp} : ∀ {as : List Addr} {M : Mat}, as.length = M.length → (∀ (j : Nat) (a : Addr) (r : List Int), as[j]? = some a → M[j]? = some r → H' a = some (.lst (r.map V.int))) → DqAll H' (as.map V.ref) (M.map (rowD true))
  | [], [], _, _ => .nil
  | [], _ :: _, z, _ => nomatch z
  | _ :: _, [], z, _ => nomatch z
  | a :: as, r :: M, len, row => .cons (.lst (row 0 a r rfl rfl) (DqAll.ints r)) (rows_dq (by simpa using len) fun j b s h1 h2 => row (j + 1) b s h1 h2)
theorem NewTab.get {H H' : Hp} {p : Addr} {as : List Addr} {M : Mat} (t : NewTab H H' p as M) {a : Addr} (ha : a ∈ as) : a ≠ p ∧ H a = none ∧ ∃ r ∈ M, H' a = some (.lst (r.map V.int)) := by
  obtain ⟨j, hj, e⟩ := List.mem_iff_getElem.mp ha
  have h1 : as[j]? = some a := by rw [List.getElem?_eq_getElem hj, e]
  have hj2 : j < M.length := by rw [← t.len]; exact hj
  obtain ⟨q1, q2, q3⟩ := t.row j a M[j] h1 (List.getElem?_eq_getElem hj2)
  exact ⟨q1, q2, M[j], List.getElem_mem hj2, q3⟩
theorem NewTab.dq {H H' : Hp} {p : Addr} {as : List Addr} {M : Mat} (t : NewTab H H' p as M) {bs : List Addr} (l : Live bs H) : Dq (hid bs H') (.ref p) (tabD true true M) := by
  refine .lst (by rw [hid_out (l.out t.np)]; exact t.hp) (rows_dq t.len fun j a r h1 h2 => ?_)
  obtain ⟨_, q2, q3⟩ := t.row j a r h1 h2
  rw [hid_out (l.out q2)]
  exact q3
theorem NewTab.old {H0 H H' H2 : Hp} {p : Addr} {as : List Addr} {M : Mat} (t : NewTab H H' p as M) (s : Same H0 H) (s2 : Same H' H2) : NewTab H0 H2 p as M :=
  ⟨fresh_back s t.np, s2 _ _ t.hp, t.len, t.nd, fun j a r h1 h2 => by
    obtain ⟨q1, q2, q3⟩ := t.row j a r h1 h2
    exact ⟨q1, fresh_back s q2, s2 _ _ q3⟩⟩
section
variable {bs : List Addr} {K : PySem.W.Frag} {σ : L2.St} {H H1 : Hp} {te tl : TE} {ds : List PyData}
/-- a comprehension each of whose turns gives a new list of numbers -/
theorem lc_rows {J : It} {n : Nat} {g : TG} {vs : List Nat} {D : Addr} {Q : VK} (rowI : Nat → List Int) (hD : H1 D = none) (hn : n ≤ 40000) (hgo : ∀ i H', i < n → Same H1 H' → J.go i H') (hst : ∀ H', Same H1 H' → J.stop n H')
    (hs : ∀ (i : Nat) (x : V) (H' H2 : Hp) (Qk : VK), i < n → Same H1 H' → J.yld i H' x H2 → (∀ q H3, H' q = none → Same H' H3 → H3 q = some (.lst ((rowI i).map V.int)) → Qk (.ref q) H3) → g x (wipe σ vs) H2 fun σ2 H4 => wipe σ2 vs = wipe σ vs ∧ te σ2 H4 Qk)
    (hq : ∀ as H', Same H1 H' → NewTab H1 H' D as ((List.range n).map rowI) → Q (.ref D) H') :
    ∃ W : Nat → Nat → Hp → Prop, (∃ m, W 0 m (upd H1 D (.lst []))) ∧ ∀ i m H, W i m H → (J.stop i H ∧ Q (.ref D) H) ∨ (J.go i H ∧ ∃ Nx : Hp → Prop, (∀ H', Nx H' → ∃ m', m' < m ∧ W (i + 1) m' H') ∧ ∀ x H', J.yld i H x H' → g x (wipe σ vs) H' fun σ2 H2 => wipe σ2 vs = wipe σ vs ∧ tYes σ2 H2 fun b H3 =>
      if b = true then te σ2 H3 fun y H4 => ∃ acc, H4 D = some (.lst acc) ∧ acc.length < sizeLine ∧ Nx (upd H4 D (.lst (acc ++ [y]))) else Nx H3) := by
  refine it_by (J := J) (n := n) (Body := fun x H' Nx => g x (wipe σ vs) H' fun σ2 H2 => wipe σ2 vs = wipe σ vs ∧ tYes σ2 H2 fun b H3 => if b = true then te σ2 H3 fun y H4 => ∃ acc, H4 D = some (.lst acc) ∧ acc.length < sizeLine ∧ Nx (upd H4 D (.lst (acc ++ [y]))) else Nx H3)
    (fun k H' => ∃ as, Same H1 H' ∧ NewTab H1 H' D as ((List.range k).map rowI)) ⟨[], Ex.new hD, hD, upd_same, rfl, .nil, fun _ _ _ z => by simp at z⟩ (fun k H' hk hP => ?_) (fun H' hP => ?_) (fun k x H' H2 hk hP hy => ?_) (fun H' hP => ?_)
  · obtain ⟨_, sm, _⟩ := hP
    exact hgo k H' hk sm
  · obtain ⟨_, sm, _⟩ := hP
    exact hst H' sm
  · obtain ⟨as, sm, T⟩ := hP
    have base : ∀ q H3, H' q = none → Same H' H3 → H3 q = some (.lst ((rowI k).map V.int)) → ∃ acc, H3 D = some (.lst acc) ∧ acc.length < sizeLine ∧ ∃ as, Same H1 (upd H3 D (.lst (acc ++ [V.ref q]))) ∧ NewTab H1 (upd H3 D (.lst (acc ++ [V.ref q]))) D as ((List.range (k + 1)).map rowI) := fun q H3 nq s3 hq' => by
      have nqD : q ≠ D := fun z => by rw [z, T.hp] at nq; cases nq
      have hlen : as.length = k := by rw [T.len, List.length_map, List.length_range]
      refine ⟨_, s3 _ _ T.hp, ?_, as ++ [q], fun c o z => ?_, T.np, ?_, ?_, ?_, fun j a r h1 h2 => ?_⟩
      · rw [List.length_map, hlen]
        exact Nat.lt_of_le_of_lt (show k ≤ 40000 by omega) (by decide)
      · rw [upd_ne (ne_of_none z hD)]
        exact s3 _ _ (sm _ _ z)
      · rw [upd_same, List.map_append]; rfl
      · rw [List.length_append, hlen, List.length_map, List.length_range]; rfl
      · refine List.nodup_append.mpr ⟨T.nd, by simp, fun x hx y hy z => ?_⟩
        rw [List.mem_singleton.mp hy] at z
        obtain ⟨_, _, r, _, h9⟩ := T.get hx
        rw [z, nq] at h9
        cases h9
      · rw [List.range_succ, List.map_append] at h2
        by_cases hj : j < k
        · rw [List.getElem?_append_left (by omega)] at h1
          rw [List.getElem?_append_left (by rw [List.length_map, List.length_range]; omega)] at h2
          obtain ⟨q1, q2, q3⟩ := T.row j a r h1 h2
          exact ⟨q1, q2, by rw [upd_ne q1]; exact s3 _ _ q3⟩
        · have hjk : j = k := by
            have := (List.getElem?_eq_some_iff.mp h1).1
            rw [List.length_append, hlen] at this
            have h3 : j < k + 1 := this
            omega
          subst hjk
          rw [List.getElem?_append_right (by omega), hlen, Nat.sub_self] at h1
          rw [List.getElem?_append_right (by rw [List.length_map, List.length_range]; omega), List.length_map, List.length_range, Nat.sub_self] at h2
          have e1 : q = a := Option.some.inj h1
          have e2 : rowI j = r := Option.some.inj h2
          rw [← e1, ← e2]
          refine ⟨nqD, ?_, by rw [upd_ne nqD]; exact hq'⟩
          cases hh : H1 q with
          | none => rfl
          | some o => rw [sm _ _ hh] at nq; cases nq
    have st := hs k x H' H2 (fun y H4 => ∃ acc, H4 D = some (.lst acc) ∧ acc.length < sizeLine ∧ ∃ as, Same H1 (upd H4 D (.lst (acc ++ [y]))) ∧ NewTab H1 (upd H4 D (.lst (acc ++ [y]))) D as ((List.range (k + 1)).map rowI)) hk sm hy base
    simp only [tYes, if_true]
    exact st
  · obtain ⟨as, sm, T⟩ := hP
    exact hq as H' sm T
end
end Cg

set_option Elab.async false
set_option linter.all false
set_option maxRecDepth 100000
set_option maxHeartbeats 1000000
namespace Cg
open PySem PySem.Spec PyProof.Rows L2 Evl
section
variable {bs : List Addr} {K : PySem.W.Frag} {σ : L2.St} {H H1 : Hp} {ta tb te tl : TE} {v u : V} {d : PyData} {ds : List PyData}
theorem kit_two (d : PyData) : PySem.W.kitAny K (.type (tyN d)) [.type "list", .type "tuple"] = some (isList d || isTuple d) := by
  refine kitAny_cons (kit_ty (kit_list d)) (fun h => ?_) fun h => by rw [h]; rfl
  rw [h, Bool.false_or]
  refine kitAny_cons (kit_ty (kit_tuple d)) (fun h => ?_) fun h => h
  rw [h]
  exact kitAny_nil
/-- isinstance(x, (list, tuple)) -/
theorem ev_isi2 (ha : Ev ta σ H v) (hd : Dq H v d) : Ev (tCB (rIsiT K) (tCons ta (tCons (tTup (tCons (tC (.ty "list")) (tCons (tC (.ty "tuple")) tNil))) tNil))) σ H (.bl (isList d || isTuple d)) := fun H1 e Q q =>
  ha H1 e _ fun H2 e2 => ⟨by show 2 ≤ _; decide, fun p np => ⟨v, p, [.ty "list", .ty "tuple"], .type (tyN d), [.type "list", .type "tuple"], isList d || isTuple d, rfl, upd_same, .cons (.ty _) (.cons (.ty _) .nil), (hd.mono ((e.trans e2).trans (Ex.new np))).ty, kit_two d, q _ (e2.trans (Ex.new np))⟩⟩
/-- all([e for x, y in zip(a, b)]), a and b the same data, each e True -/
theorem ev_allZ {kd : Bool} {i j : Nat} {vs : List Nat} (ha : Ev ta σ H v) (hb : Ev tb σ H u) (hv : Dq H v (seqD kd ds)) (hu : Dq H u (seqD kd ds)) (hz : ds.length ≤ 40000) (hw : ∀ x y, wipe (((wipe σ vs).set i (some x)).set j (some y)) vs = wipe σ vs)
    (he : ∀ (x y : V) (d : PyData) (H1 : Hp), d ∈ ds → Dq H1 x d → Dq H1 y d → Ev te (((wipe σ vs).set i (some x)).set j (some y)) H1 (.bl true)) :
    Ev (tCB (rAll K) (tCons (tLc (RZ.iZipA K (tCons ta (tCons tb tNil))) (gTup K 2 (gCons (gName i) (gCons (gName j) gNil))) tYes te vs) tNil)) σ H (.bl true) := fun H0 e0 Q q => by
  refine ha H0 e0 _ fun H1 e1 => hb H1 (e0.trans e1) _ fun H2 e2 => ?_
  have s2 : Same H H2 := (e0.trans e1).trans e2
  obtain ⟨a, xs, rfl, hsx, hx⟩ := (hv.mono s2).seq_inv
  obtain ⟨b, ys, rfl, hsy, hy⟩ := (hu.mono s2).seq_inv
  have lx := hx.len
  have ly := hy.len
  have core : ∀ J : It, (∀ k H', k < ds.length → Same H2 H' → J.go k H') → (∀ H', Same H2 H' → J.stop ds.length H') → (∀ k H' w H'', k < ds.length → Same H2 H' → J.yld k H' w H'' → ∃ T x y, w = .ref T ∧ H' T = none ∧ H'' = upd H' T (.tup [x, y]) ∧ xs[k]? = some x ∧ ys[k]? = some y) →
      ∀ D, H2 D = none → ∃ W : Nat → Nat → Hp → Prop, (∃ m, W 0 m (upd H2 D (.lst []))) ∧ ∀ i' m H', W i' m H' → (J.stop i' H' ∧ rAll K [.ref D] H' Q) ∨ (J.go i' H' ∧ ∃ Nx : Hp → Prop, (∀ H'', Nx H'' → ∃ m', m' < m ∧ W (i' + 1) m' H'') ∧ ∀ x H'', J.yld i' H' x H'' → gTup K 2 (gCons (gName i) (gCons (gName j) gNil)) x (wipe σ vs) H'' fun σ2 H3 => wipe σ2 vs = wipe σ vs ∧ tYes σ2 H3 fun b H4 =>
        if b = true then te σ2 H4 fun y H5 => ∃ acc, H5 D = some (.lst acc) ∧ acc.length < sizeLine ∧ Nx (upd H5 D (.lst (acc ++ [y]))) else Nx H4) := fun J hgo hst hyl D hD => by
    refine it_by (J := J) (n := ds.length) (Body := fun x H' Nx => gTup K 2 (gCons (gName i) (gCons (gName j) gNil)) x (wipe σ vs) H' fun σ2 H2 => wipe σ2 vs = wipe σ vs ∧ tYes σ2 H2 fun b H3 => if b = true then te σ2 H3 fun y H4 => ∃ acc, H4 D = some (.lst acc) ∧ acc.length < sizeLine ∧ Nx (upd H4 D (.lst (acc ++ [y]))) else Nx H3)
      (fun k H' => H' D = some (.lst ((List.replicate k true).map V.bl)) ∧ Same H2 H') ⟨upd_same, Ex.new hD⟩ (fun k H' hk hP => hgo k H' hk hP.2) (fun H' hP => hst H' hP.2) (fun k x H' H3 hk hP hY => ?_) (fun H' hP => ?_)
    · obtain ⟨h1, h2⟩ := hP
      obtain ⟨T, x1, y1, rfl, hT, rfl, gx, gy⟩ := hyl k H' x H3 hk h2 hY
      obtain ⟨d, gd, dx⟩ := hx.get gx
      obtain ⟨d', gd', dy⟩ := hy.get gy
      have ed : d' = d := Option.some.inj (gd'.symm.trans gd)
      subst ed
      have sT : Same H2 (upd H' T (.tup [x1, y1])) := h2.trans (Ex.new hT)
      refine ⟨T, _, rfl, SqT.of upd_same, rfl, _, _, rfl, _, _, rfl, rfl, hw _ _, ?_⟩
      show te _ (upd H' T (.tup [x1, y1])) fun y H4 => ∃ acc, H4 D = some (.lst acc) ∧ acc.length < sizeLine ∧ _
      refine he x1 y1 d' _ (List.mem_of_getElem? gd) (dx.mono sT) (dy.mono sT) _ (Ex.refl _) _ fun H4 e4 => ⟨_, e4 _ _ (Ex.new hT _ _ h1), ?_, ?_, fun a o q => ?_⟩
      · rw [List.length_map, List.length_replicate]
        exact Nat.lt_of_le_of_lt (show k ≤ 40000 by omega) (by decide)
      · rw [upd_same, List.replicate_succ', List.map_append]; rfl
      · rw [upd_ne (ne_of_none q hD)]
        exact e4 _ _ (sT _ _ q)
    · obtain ⟨h1, h2⟩ := hP
      refine ⟨D, List.replicate ds.length true, rfl, SqL.of h1, ?_⟩
      have e : (List.replicate ds.length true).all id = true := List.all_eq_true.mpr fun x hx => by rw [List.eq_of_mem_replicate hx]; rfl
      rw [e]
      exact q H' ((e1.trans e2).trans h2)
  refine ⟨a, b, xs, ys, rfl, ?_⟩
  cases kd with
  | true =>
    refine .inl ⟨hsx (Same.refl _), hsy (Same.refl _), core (Itz K a b) (fun k H' hk s => ?_) (fun H' s => ⟨xs, ys, hsx s, hsy s, .inl (by omega)⟩) fun k H' w H'' hk s hY => ?_⟩
    · exact ⟨xs, ys, xs[k]'(by omega), ys[k]'(by omega), hsx s, hsy s, List.getElem?_eq_getElem _, List.getElem?_eq_getElem _⟩
    · obtain ⟨T, x, y, e1, e2, e3, e4, e5⟩ := hY
      exact ⟨T, x, y, e1, e2, e3, e4 xs (hsx s), e5 ys (hsy s)⟩
  | false =>
    refine .inr ⟨hsx (Same.refl _), hsy (Same.refl _), core (RZ.ItzT K a b) (fun k H' hk s => ?_) (fun H' s => ⟨xs, ys, hsx s, hsy s, .inl (by omega)⟩) fun k H' w H'' hk s hY => ?_⟩
    · exact ⟨xs, ys, xs[k]'(by omega), ys[k]'(by omega), hsx s, hsy s, List.getElem?_eq_getElem _, List.getElem?_eq_getElem _⟩
    · obtain ⟨T, x, y, e1, e2, e3, e4, e5⟩ := hY
      exact ⟨T, x, y, e1, e2, e3, e4 xs (hsx s), e5 ys (hsy s)⟩
/-- data of so few depths, of no great lists -/
def Okn : Nat → PyData → Prop
  | 0, _ => False
  | n + 1, .list xs => xs.length ≤ 40000 ∧ ∀ x ∈ xs, Okn n x
  | n + 1, .tuple xs => xs.length ≤ 40000 ∧ ∀ x ∈ xs, Okn n x
  | _ + 1, .dict _ => False
  | _ + 1, _ => True
/-- alike, kind by kind: what is promised of the same data -/
def spSame (n : Nat) : Sp := fun vs H Q _ => ∃ v u d, vs = [v, u] ∧ Dq H v d ∧ Dq H u d ∧ Okn n d ∧ RetV (.bl true) H Q
theorem spv_same {n : Nat} {d : PyData} (hv : Dq H v d) (hu : Dq H u d) (h : Okn n d) : SpV (spSame n) [v, u] H (.bl true) := fun H1 e Q q E => ⟨v, u, d, rfl, hv.mono e, hu.mono e, h, fun H2 e2 => q H2 e2⟩
/-- for k, x in enumerate(xs) -/
theorem s_forK {kd : Bool} {i j : Nat} {a : Addr} {xs : List V} {tu : TS} {D : Ends} (h : Ev tl σ H (.ref a)) (hs0 : ∀ H1, Same H H1 → SqK kd K H1 a xs) (Pv : Nat → L2.St → Hp → Prop) (h0 : ∀ H1, Same H H1 → Pv 0 σ H1) (hl : ∀ k σ' H', k ≤ xs.length → Pv k σ' H' → SqK kd K H' a xs)
    (hs : ∀ (k : Nat) x T σ' H', xs[k]? = some x → Pv k σ' H' → H' T = none → tu { D with nx := Pv (k + 1), ct := Pv (k + 1), bk := D.nx } ((σ'.set i (some (.int (k : Nat)))).set j (some x)) (upd H' T (.tup [.int (k : Nat), x])))
    (hd : ∀ σ' H', Pv xs.length σ' H' → D.nx σ' H') : tFor (iEnumK K (tCons tl tNil)) (gTup K 2 (gCons (gName i) (gCons (gName j) gNil))) tu D σ H := by
  refine h H (Ex.refl _) _ fun H1 e1 => ⟨kd, a, xs, rfl, hs0 H1 e1, ?_⟩
  refine ⟨fun k m σ' H' => k + m = xs.length ∧ Pv k σ' H', ⟨xs.length, by omega, h0 H1 e1⟩, fun k m σ' H' hw => ?_⟩
  obtain ⟨e, p⟩ := hw
  have sq := hl k σ' H' (by omega) p
  cases m with
  | zero =>
    obtain rfl : k = xs.length := by omega
    exact .inl ⟨⟨sq, Nat.le_refl _⟩, hd σ' H' p⟩
  | succ m =>
    have hk : k < xs.length := by omega
    refine .inr ⟨⟨sq, hk⟩, Pv (k + 1), fun σ2 H2 p' => ⟨m, by omega, by omega, p'⟩, fun w H2 y => ?_⟩
    obtain ⟨T, rfl, hT, rfl⟩ := y
    have hxk : xs[k]? = some (xs.getD k .non) := by rw [List.getD_eq_getElem?_getD, List.getElem?_eq_getElem hk]; rfl
    exact ⟨T, _, rfl, SqT.of upd_same, rfl, _, _, rfl, _, _, rfl, rfl, hs k _ T σ' H' hxk p hT⟩
theorem q_forK {kd : Bool} {i j : Nat} {a : Addr} {xs : List V} {tu tz : TS} {D : Ends} (h : Ev tl σ H (.ref a)) (hs0 : ∀ H1, Same H H1 → SqK kd K H1 a xs) (Pv : Nat → L2.St → Hp → Prop) (h0 : ∀ H1, Same H H1 → Pv 0 σ H1) (hl : ∀ k σ' H', k ≤ xs.length → Pv k σ' H' → SqK kd K H' a xs)
    (hs : ∀ (k : Nat) x T σ' H', xs[k]? = some x → Pv k σ' H' → H' T = none → tu { D with nx := Pv (k + 1), ct := Pv (k + 1), bk := tz D } ((σ'.set i (some (.int (k : Nat)))).set j (some x)) (upd H' T (.tup [.int (k : Nat), x])))
    (hd : ∀ σ' H', Pv xs.length σ' H' → tz D σ' H') : tSeq (tFor (iEnumK K (tCons tl tNil)) (gTup K 2 (gCons (gName i) (gCons (gName j) gNil))) tu) tz D σ H :=
  s_forK (D := { D with nx := tz D }) h hs0 Pv h0 hl hs hd
end
end Cg

set_option Elab.async false
set_option linter.all false
set_option maxRecDepth 100000
set_option maxHeartbeats 1000000
namespace Cg
open PySem PySem.Spec PyProof.Rows L2 Evl
section
variable {bs : List Addr} {K : PySem.W.Frag} {σ : L2.St} {H H1 : Hp} {ta tb te tl : TE} {v u : V} {d : PyData} {ds : List PyData}
/-- [e for k in range(n)], nothing changed -/
theorem en_lcR {j n : Nat} {vs : List Nat} (g : Nat → PyData) (l : Live bs H) (h : Ev tl σ H (.int (n : Int))) (hn : n ≤ 40000) (hw : ∀ x, wipe ((wipe σ vs).set j (some x)) vs = wipe σ vs)
    (he : ∀ (cs : List Addr) (k : Nat) (H1 : Hp), Same H H1 → (∀ y ∈ bs, y ∈ cs) → Live cs H1 → (∀ v d, Dq (hid bs H) v d → Dq (hid cs H1) v d) → k < n → EvQ cs te ((wipe σ vs).set j (some (.int (k : Nat)))) H1 (g k)) :
    EvN bs (tLc (iRng1 (tCons tl tNil)) (gName j) tYes te vs) σ H ((List.range n).map g) := fun H0 a Q q => h H0 a _ fun H1 e1 => by
  refine ⟨n, rfl, by omega, by omega, fun D hD => ?_⟩
  have toN : ((n : Int)).toNat = n := by omega
  rw [toN]
  have l1 : Live bs H1 := l.mono (a.trans e1)
  refine lc_range (lo := 0) (n := n) (fun i H' => ∃ acc : List V, H' D = some (.lst acc) ∧ DqAll (hid (D :: bs) H') acc ((List.range i).map g) ∧ Same H1 H' ∧ Same (hid bs H1) (hid (D :: bs) H')) ⟨[], upd_same, .nil, Ex.new hD, hid_fresh hD⟩ (fun i H' hi hP => ?_) (fun H' hP => ?_)
  · obtain ⟨acc, h1, h2, h3, h4⟩ := hP
    have e0 : (0 : Int) + (i : Int) = (i : Int) := Int.zero_add _
    have lD : Live (D :: bs) H' := fun y hy => by
      rcases List.mem_cons.mp hy with rfl | hy
      · rw [h1]; exact fun z => nomatch z
      · exact (l1.mono h3) y hy
    show wipe ((wipe σ vs).set j (some (.int ((0 : Int) + (i : Int))))) vs = wipe σ vs ∧ te ((wipe σ vs).set j (some (.int ((0 : Int) + (i : Int))))) H' _
    rw [e0]
    refine ⟨hw _, he (D :: bs) i H' ((a.trans e1).trans h3) (fun y hy => List.mem_cons_of_mem _ hy) lD (fun v d hv => (hv.mono (same_hid (a.trans e1))).mono h4) hi H' (Same.refl _) _ fun y H4 e4 dy => ⟨acc, e4 _ _ h1, ?_, acc ++ [y], upd_same, ?_, ?_, ?_⟩⟩
    · have := h2.len
      rw [List.length_map, List.length_range] at this
      exact Nat.lt_of_le_of_lt (show acc.length ≤ 40000 by omega) (by decide)
    · have kk : Keep (D :: bs) H4 (upd H4 D (.lst (acc ++ [y]))) := (Keep.refl _ _).put (List.mem_cons_self ..)
      rw [List.range_succ, List.map_append]
      exact ((h2.mono (same_hid e4)).mono kk).append (.cons (dy.mono kk) .nil)
    · exact fun c o q => by
        rw [upd_ne (ne_of_none q hD)]
        exact e4 _ _ (h3 _ _ q)
    · have kk : Keep (D :: bs) H4 (upd H4 D (.lst (acc ++ [y]))) := (Keep.refl _ _).put (List.mem_cons_self ..)
      exact (h4.trans (same_hid e4)).trans kk
  · obtain ⟨acc, h1, h2, h3, h4⟩ := hP
    exact q D acc H' (fresh_back e1 hD) (e1.trans h3) h1 h2
theorem eq_lcR {j n : Nat} {vs : List Nat} (g : Nat → PyData) (l : Live bs H) (h : Ev tl σ H (.int (n : Int))) (hn : n ≤ 40000) (hw : ∀ x, wipe ((wipe σ vs).set j (some x)) vs = wipe σ vs)
    (he : ∀ (cs : List Addr) (k : Nat) (H1 : Hp), Same H H1 → (∀ y ∈ bs, y ∈ cs) → Live cs H1 → (∀ v d, Dq (hid bs H) v d → Dq (hid cs H1) v d) → k < n → EvQ cs te ((wipe σ vs).set j (some (.int (k : Nat)))) H1 (g k)) :
    EvQ bs (tLc (iRng1 (tCons tl tNil)) (gName j) tYes te vs) σ H (.list ((List.range n).map g)) := en_eq l (en_lcR g l h hn hw he)
/-- alike, asked of two readings of the same data -/
theorem ev_same {n : Nat} (ha : EvQ bs ta σ H d) (hb : EvQ bs tb σ H d) (hk : Okn n d) : Ev (tCall (spSame n) [] E0 (tCons ta (tCons tb tNil))) σ H (.bl true) := fun H1 e Q q =>
  ha H1 e _ fun v H2 e2 hv => hb H2 (e.trans e2) _ fun u H3 e3 hu => ⟨v, u, d, rfl, (dq_vis hv).mono e3, dq_vis hu, hk, fun H4 e4 => q H4 ((e2.trans e3).trans e4)⟩
theorem Live.cons {p : Addr} {o : HO} (l : Live bs H) (h : H p = some o) : Live (p :: bs) H := fun y hy => by
  rcases List.mem_cons.mp hy with rfl | hy
  · rw [h]; exact fun z => nomatch z
  · exact l y hy
end
end Cg

set_option Elab.async false
set_option linter.all false
set_option maxRecDepth 100000
set_option maxHeartbeats 1000000
namespace K02
open PySem PySem.Spec PyProof.Rows L2 Evl Cg
def topS (i : Nat) : Stmt := PySem.Challenge.pw_crossgrants_k02_asks_turned_left_out.main.body.getD i (.Pass ⟨0, 0, 0, 0⟩)
abbrev st_asks_of : Stmt := topS 1
theorem sc_asks_of : FnScope ["table", "inlet", "row", "outlet", "mark"] ["table"] (defScope st_asks_of) := ⟨rfl, rfl, rfl, by decide +kernel, rfl, by decide +kernel, by decide +kernel⟩
abbrev st_turned : Stmt := topS 2
theorem sc_turned : FnScope ["table", "column"] ["table"] (defScope st_turned) := ⟨rfl, rfl, rfl, by decide +kernel, rfl, by decide +kernel, by decide +kernel⟩
abbrev st_left_out : Stmt := topS 3
theorem sc_left_out : FnScope ["table", "inlets", "outlets", "inlet", "row", "outlet", "mark"] ["table", "inlets", "outlets"] (defScope st_left_out) := ⟨rfl, rfl, rfl, by decide +kernel, rfl, by decide +kernel, by decide +kernel⟩
/-! ### what the three tell -/
def isOne : PyData → Bool
  | .int i => decide (V.int i = V.int 1)
  | _ => false
def datR (M : Mat) : List (List PyData) := M.map fun r => r.map PyData.int
def askL (M : Mat) : List PyData := ((datR M).mapIdx fun k row => (row.mapIdx fun r d => if isOne d = true then [PyData.tuple [.int (k : Nat), .int (r : Nat)]] else []).flatten).flatten
theorem tab_eq (k1 k2 : Bool) (M : Mat) : tabD k1 k2 M = seqD k1 ((datR M).map (seqD k2)) := by
  unfold tabD datR
  rw [List.map_map]
  rfl
def turnM (m : Nat) (M : Mat) : Mat := (List.range m).map fun j => M.map fun r => r.getD j 0
def outB (I O : List Int) (i j : Nat) : Bool := inV (.int (i : Nat)) (I.map V.int) || inV (.int (j : Nat)) (O.map V.int)
def leftR (I O : List Int) (i : Nat) (r : List Int) : List Int := r.mapIdx fun j x => if outB I O i j = true then 0 else x
def leftM (I O : List Int) (M : Mat) : Mat := M.mapIdx (leftR I O)
def Small (M : Mat) : Prop := M.length ≤ 12 ∧ ∀ r ∈ M, r.length ≤ 12
theorem sum_small {M : Mat} (h : Small M) : ((datR M).map List.length).sum ≤ 40000 := by
  have go : ∀ M : Mat, (∀ r ∈ M, r.length ≤ 12) → ((datR M).map List.length).sum ≤ 12 * M.length := fun M => by
    induction M with
    | nil => intro _; exact Nat.le_refl _
    | cons r M ih =>
      intro h
      have h1 := ih fun s hs => h s (List.mem_cons_of_mem _ hs)
      have h2 := h r (List.mem_cons_self ..)
      show ((r.map PyData.int).length :: (datR M).map List.length).sum ≤ 12 * (M.length + 1)
      rw [List.sum_cons, List.length_map]
      omega
  have h1 := go M h.2
  have h2 := h.1
  omega
theorem rows_inv {H : Hp} {kd : Bool} : ∀ {xs : List V} {M : Mat}, DqAll H xs (M.map (rowD kd)) → ∃ rs : List (Addr × List V), xs = (rs.map fun r => V.ref r.1) ∧ rs.map (·.2) = M.map (fun r => r.map V.int) ∧ ∀ r ∈ rs, ∀ (K : PySem.W.Frag) (H' : Hp), Same H H' → SqK kd K H' r.1 r.2
  | _, [], .nil => ⟨[], rfl, rfl, fun _ z => nomatch z⟩
  | _, r :: M, .cons h t => by
    obtain ⟨rs, e1, e2, e3⟩ := rows_inv t
    obtain ⟨a, ys, e, hs, hy⟩ := Dq.seq_inv h
    refine ⟨(a, ys) :: rs, by rw [e, e1]; rfl, ?_, fun q hq K H' s => ?_⟩
    · rw [List.map_cons, List.map_cons, e2, ints_inv hy]
    · rcases List.mem_cons.mp hq with rfl | hq
      · exact hs s
      · exact e3 q hq K H' s
section
variable {P : Program} {w : World} {K : PySem.W.Frag} {mg : Str → Option Value} {base : Heap} {f f1 f2 f3 f4 : Addr} {fd fd1 fd2 fd3 fd4 : FuncData}
def spAsk : Sp := fun vs H Q _ => ∃ (bs : List Addr) (v : V) (k1 k2 : Bool) (M : Mat), vs = [v] ∧ Live bs H ∧ Dq (hid bs H) v (tabD k1 k2 M) ∧ Small M ∧ ∀ p xs H', H p = none → Same H H' → H' p = some (.lst xs) → DqAll (hid (p :: bs) H') xs (askL M) → Q (.ref p) H'
theorem ok_asks_of (F : Fun K "asks_of" "asks_of" st_asks_of f fd) (B : Bl mg) : FnOk P w K mg base CX0 1 f fd ["table"] spAsk := by
  refine F.ok sc_asks_of (fun vs H Q E h => ?_) (fun cdv A outer s H vs Q E hr h => ?_)
  · obtain ⟨bs, v, k1, k2, M, rfl, _⟩ := h
    rfl
  · obtain ⟨bs, v, k1, k2, M, rfl, l, hd, hM, q⟩ := h
    refine ⟨_, (pss_one (ps_ret (pe_lc2 (own := [("inlet", 1), ("row", 2), ("outlet", 3), ("mark", 4)]) (vs1 := [3, 4]) rfl sc_asks_of.nd (pi_enumS K (by rfl) B.enumerate (pa_cons (pv 0) pa_nil)) (blkOk_by (own := [("inlet", 1), ("row", 2), ("outlet", 3), ("mark", 4)]) (by kernel_rfl)) (by decide) (fun _ _ _ _ _ => (pg_tupK K (n := 2) rfl (pgs_cons (pg_name (i := 1) sc_asks_of.nd rfl (.inl rfl)) (pgs_cons (pg_name (i := 2) sc_asks_of.nd rfl (.inl rfl)) pgs_nil)))) (fun _ _ _ _ _ => pts_nil) (fun _ _ _ _ _ => (pi_enumS K (by rfl) B.enumerate (pa_cons (pv 2) pa_nil))) (fun _ _ _ _ _ => (pg_tupK K (n := 2) rfl (pgs_cons (pg_name (i := 3) sc_asks_of.nd rfl (.inl rfl)) (pgs_cons (pg_name (i := 4) sc_asks_of.nd rfl (.inl rfl)) pgs_nil)))) (fun _ _ _ _ _ => (pts_one (pt_cmpR op_eq (pv 4) pe_int (nomark _)))) (fun _ _ _ _ _ => (pe_tup (pa_cons (pv 1) (pa_cons (pv 3) pa_nil))))))), ?_⟩
    rw [tab_eq] at hd
    refine en_lc2E (K := K) (bs := bs) (k1 := k1) (k2 := k2) (rows := datR M) isOne (fun k r _ => PyData.tuple [.int (k : Nat), .int (r : Nat)]) l (eq_var rfl hd) (sum_small hM) (by unfold datR; rw [List.length_map]; have := hM.1; omega) (fun _ _ => rfl) (fun _ _ _ _ => rfl)
      (fun cs x k row H1 _ hx => eq_var rfl hx) (fun cs x y k r d H1 hm hy => ?_) (fun cs x y k r d H1 lc hc hy => ?_) H (Same.refl _) _ fun p xs H' np e hp hx => q p xs H' np e hp hx
    · obtain ⟨row, hr1, hr2⟩ := hm
      unfold datR at hr1
      obtain ⟨s, _, rfl⟩ := List.mem_map.mp hr1
      obtain ⟨i, _, rfl⟩ := List.mem_map.mp hr2
      rw [hy.int_inv]
      exact et_test (ev_op (ev_var rfl) ev_c (rv_eq rfl))
    · exact eq_tup lc (qa_cons (eq_int (ev_var rfl)) (qa_cons (eq_int (ev_var rfl)) qa_nil)) (by show 2 ≤ 1000000; omega)
def spTurn : Sp := fun vs H Q _ => ∃ (bs : List Addr) (v : V) (k1 k2 : Bool) (m : Nat) (M : Mat), vs = [v] ∧ Dq (hid bs H) v (tabD k1 k2 M) ∧ M ≠ [] ∧ M.length ≤ 12 ∧ m ≤ 12 ∧ (∀ r ∈ M, r.length = m) ∧ ∀ p as H', Same H H' → NewTab H H' p as (turnM m M) → Q (.ref p) H'
theorem getD_ints {r : List Int} {j : Nat} (h : j < r.length) : (r.map V.int).getD j .non = V.int (r.getD j 0) := by
  rw [List.getD_eq_getElem?_getD, List.getD_eq_getElem?_getD, List.getElem?_map, List.getElem?_eq_getElem h]
  rfl
theorem ok_turned (F : Fun K "turned" "turned" st_turned f fd) (B : Bl mg) : FnOk P w K mg base CX0 1 f fd ["table"] spTurn := by
  refine F.ok sc_turned (fun vs H Q E h => ?_) (fun cdv A outer s H vs Q E hr h => ?_)
  · obtain ⟨bs, v, k1, k2, m, M, rfl, _⟩ := h
    rfl
  · obtain ⟨bs, v, k1, k2, m, M, rfl, hd, hM0, hM, hm, hr0, q⟩ := h
    refine ⟨_, (pss_one (ps_ret (pe_lc (own := [("column", 1)]) rfl sc_turned.nd (pi_zipN K (by rfl) B.zip (pv 0)) (blkOk_by (own := [("column", 1)]) (by kernel_rfl)) (fun _ _ _ _ _ => (pg_name (i := 1) sc_turned.nd rfl (.inl rfl))) (fun _ _ _ _ _ => pts_nil) (fun _ _ _ _ _ => (pe_callTy (listK K) (by rfl) B.list (by decide +kernel) (pa_cons (pv 1) pa_nil)))))), ?_⟩
    obtain ⟨a, xs, rfl, hs, hx⟩ := Dq.seq_inv (show Dq (hid bs H) v (seqD k1 (M.map (rowD k2))) from hd)
    obtain ⟨rs, rfl, e2, e3⟩ := rows_inv hx
    have hlen : rs.length = M.length := by
      have := congrArg List.length e2
      rw [List.length_map, List.length_map] at this
      exact this
    have hmem : ∀ r ∈ rs, r.2.length = m := fun r h => by
      have h1 : r.2 ∈ rs.map (·.2) := List.mem_map.mpr ⟨r, h, rfl⟩
      rw [e2] at h1
      obtain ⟨s, h2, h3⟩ := List.mem_map.mp h1
      rw [← h3, List.length_map]
      exact hr0 s h2
    refine ⟨.ref a, rfl, a, k2, rs, rfl, ?_, ?_, by omega, fun r h => e3 r h K H hid_same, fun D hD => ?_⟩
    · have h1 : SqK k1 K H a _ := hs hid_same
      cases k1 with
      | true => exact .inr h1
      | false => exact .inl h1
    · intro z
      rw [z] at hlen
      exact hM0 (List.length_eq_zero_iff.mp hlen.symm)
    · refine lc_rows (J := ItZ K k2 rs) (n := m) (fun j => M.map fun (r : List Int) => r.getD j (0 : Int)) hD (by omega) (fun i H' hi sm r hr => ⟨e3 r hr K H' (hid_same.trans sm), by rw [hmem r hr]; exact hi⟩) (fun H' sm r hr => ⟨e3 r hr K H' (hid_same.trans sm), by rw [hmem r hr]; exact Nat.le_refl _⟩)
        (fun i x H' H2 Qk hi sm hy k => ?_) fun as H' sm T => q D as H' sm T
      obtain ⟨T, rfl, hT, rfl⟩ := hy
      have e4 : (rs.map fun r => r.2.getD i .non) = (M.map fun r => r.getD i 0).map V.int := by
        have : (rs.map fun r => r.2.getD i .non) = (rs.map (·.2)).map (fun r => r.getD i .non) := by rw [List.map_map]; rfl
        rw [this, e2, List.map_map, List.map_map]
        refine List.map_congr_left fun r hr => ?_
        exact getD_ints (by rw [hr0 r hr]; exact hi)
      rw [e4]
      refine ⟨rfl, .ref T, rfl, T, _, rfl, .inr (SqT.of upd_same), fun z nz => ?_⟩
      refine k z _ ?_ ((Ex.new hT).trans (Ex.new nz)) upd_same
      exact fresh_back (Ex.new hT) nz
def spLeft : Sp := fun vs H Q _ => ∃ (bs : List Addr) (v vi vo : V) (k1 k2 k3 k4 : Bool) (M : Mat) (I O : List Int), vs = [v, vi, vo] ∧ Live bs H ∧ Dq (hid bs H) v (tabD k1 k2 M) ∧ Dq (hid bs H) vi (rowD k3 I) ∧ Dq (hid bs H) vo (rowD k4 O) ∧ Small M ∧ ∀ p as H', Same H H' → NewTab H H' p as (leftM I O M) → Q (.ref p) H'
theorem ev_inQ {bs : List Addr} {σ : L2.St} {H : Hp} {ta tb : TE} {kd : Bool} {I : List Int} {i : Int} (neg : Bool) (ha : Ev ta σ H (.int i)) (hb : EvQ bs tb σ H (rowD kd I)) : Ev (tOp (rIn K neg) ta tb) σ H (.bl (if neg then !inV (.int i) (I.map V.int) else inV (.int i) (I.map V.int))) := fun H1 e Q q => ha H1 e _ fun H2 e2 => hb H2 (e.trans e2) _ fun v H3 e3 hd => by
  obtain ⟨p, xs, rfl, hs, hx⟩ := Dq.seq_inv (show Dq (hid bs H3) v (seqD kd (I.map PyData.int)) from hd)
  have e4 := ints_inv hx
  subst e4
  refine ⟨p, I.map V.int, rfl, ?_, rfl, ?_, q H3 (e2.trans e3)⟩
  · have h1 : SqK kd K H3 p _ := hs hid_same
    cases kd with
    | true => exact .inl h1
    | false => exact .inr h1
  · rw [List.all_map]
    exact List.all_eq_true.mpr fun _ _ => rfl
theorem range_idx {f : Nat → List Int → List Int} (M : Mat) : (List.range M.length).map (fun i => f i (M.getD i [])) = M.mapIdx f := by
  apply List.ext_getElem
  · simp
  · intro i h1 h2
    rw [List.length_map, List.length_range] at h1
    rw [List.getElem_map, List.getElem_range, List.getElem_mapIdx, List.getD_eq_getElem?_getD, List.getElem?_eq_getElem h1]
    rfl
theorem ok_left_out (F : Fun K "left_out" "left_out" st_left_out f fd) (B : Bl mg) : FnOk P w K mg base CX0 1 f fd ["table", "inlets", "outlets"] spLeft := by
  refine F.ok sc_left_out (fun vs H Q E h => ?_) (fun cdv A outer s H vs Q E hr h => ?_)
  · obtain ⟨bs, v, vi, vo, k1, k2, k3, k4, M, I, O, rfl, _⟩ := h
    rfl
  · obtain ⟨bs, v, vi, vo, k1, k2, k3, k4, M, I, O, rfl, l, hd, hi, ho, hM, q⟩ := h
    refine ⟨_, (pss_one (ps_ret (pe_lc (own := [("inlet", 3), ("row", 4)]) rfl sc_left_out.nd (pi_enumS K (by rfl) B.enumerate (pa_cons (pv 0) pa_nil)) (blkOk_by (own := [("inlet", 3), ("row", 4)]) (by kernel_rfl)) (fun _ _ _ _ _ => (pg_tupK K (n := 2) rfl (pgs_cons (pg_name (i := 3) sc_left_out.nd rfl (by first | exact Or.inl rfl | exact Or.inr rfl)) (pgs_cons (pg_name (i := 4) sc_left_out.nd rfl (by first | exact Or.inl rfl | exact Or.inr rfl)) pgs_nil)))) (fun _ _ _ _ _ => pts_nil) (fun _ _ _ _ _ => (pe_lc (own := [("outlet", 5), ("mark", 6)]) rfl sc_left_out.nd (pi_enumS K (by rfl) B.enumerate (pa_cons (pv 4) pa_nil)) (blkOk_by (own := [("outlet", 5), ("mark", 6)]) (by kernel_rfl)) (fun _ _ _ _ _ => (pg_tupK K (n := 2) rfl (pgs_cons (pg_name (i := 5) sc_left_out.nd rfl (.inl rfl)) (pgs_cons (pg_name (i := 6) sc_left_out.nd rfl (.inl rfl)) pgs_nil)))) (fun _ _ _ _ _ => pts_nil) (fun _ _ _ _ _ => (pe_ifExp (PW.pt (pw_or (pt_cmpR (inK K) (pv 3) (pv 1) (by with_unfolding_all rfl)) (pw_or1 (pt_cmpR (inK K) (pv 5) (pv 2) (by with_unfolding_all rfl))))) pe_int (pv 6)))))))), ?_⟩
    obtain ⟨a, xs, rfl, hs, hx⟩ := Dq.seq_inv (show Dq (hid bs H) v (seqD k1 (M.map (rowD k2))) from hd)
    have hlen : xs.length = M.length := by rw [hx.len, List.length_map]
    refine ⟨.ref a, rfl, k1, a, xs, rfl, hs hid_same, fun D hD => ?_⟩
    refine lc_rows (J := ItE K k1 a xs) (n := M.length) (fun i => leftR I O i (M.getD i [])) hD (by have := hM.1; omega) (fun i H' hi sm => ⟨hs (hid_same.trans sm), by omega⟩) (fun H' sm => ⟨hs (hid_same.trans sm), by omega⟩)
      (fun i x H' H2 Qk hi2 sm hy k => ?_) fun as H' sm T => by
        rw [range_idx] at T
        exact q D as H' sm T
    obtain ⟨T, rfl, hT, rfl⟩ := hy
    have hxk : xs[i]? = some (xs.getD i .non) := by rw [List.getD_eq_getElem?_getD, List.getElem?_eq_getElem (by omega)]; rfl
    obtain ⟨d, gd, dd⟩ := hx.get hxk
    rw [List.getElem?_map, Option.map_eq_some_iff] at gd
    obtain ⟨r, gr, rfl⟩ := gd
    have er : M.getD i [] = r := by rw [List.getD_eq_getElem?_getD, gr]; rfl
    have sT : Same H' (upd H' T (.tup [.int (i : Nat), xs.getD i .non])) := Ex.new hT
    have sH : Same H (upd H' T (.tup [.int (i : Nat), xs.getD i .non])) := sm.trans sT
    refine ⟨T, _, rfl, SqT.of upd_same, rfl, _, _, rfl, _, _, rfl, rfl, rfl, ?_⟩
    refine en_lcE (K := K) (bs := bs) (kd := k2) (ds := r.map PyData.int) (fun j d => if outB I O i j = true then .int 0 else d) (l.mono sH) (eq_var rfl (dd.mono (same_hid sH))) (by rw [List.length_map]; have := hM.2 r (List.mem_of_getElem? gr); omega) (fun _ _ => rfl)
      (fun cs x j d H1 s1 hc lc gd hd2 => ?_) _ (Same.refl _) Qk fun p ys H3 np e3 hp hy => ?_
    · have hi1 : Dq (hid bs H1) vi (rowD k3 I) := hi.mono (same_hid (sH.trans s1))
      have ho1 : Dq (hid bs H1) vo (rowD k4 O) := ho.mono (same_hid (sH.trans s1))
      refine eq_if (et_or (et_test (ev_inQ false (ev_var rfl) (eq_var rfl hi1))) fun _ => et_test (ev_inQ false (ev_var rfl) (eq_var rfl ho1))) (fun hb => ?_) fun hb => ?_
      · have hb' : outB I O i j = true := hb
        rw [if_pos hb']
        exact eq_int ev_c
      · have hb' : outB I O i j = false := hb
        rw [if_neg (by rw [hb']; exact Bool.false_ne_true)]
        exact eq_var rfl hd2
    · have e5 : ((r.map PyData.int).mapIdx fun j d => if outB I O i j = true then PyData.int 0 else d) = (leftR I O i r).map PyData.int := by
        apply List.ext_getElem
        · simp [leftR]
        · intro j h1 h2
          simp [leftR]
          split <;> rfl
      rw [e5] at hy
      have e6 := ints_inv hy
      subst e6
      refine k p H3 (fresh_back sT np) (sT.trans e3) ?_
      show _ = some (HO.lst ((leftR I O i (M.getD i [])).map V.int))
      rw [er]
      exact hp
end
end K02

set_option Elab.async false
set_option linter.all false
set_option maxRecDepth 100000
namespace K02
open PySem PySem.Spec PyProof.Rows L2 Evl Cg
abbrev st_law_take : Stmt := topS 6
theorem sc_law_take : FnScope ["_law_box_here", "_law_size", "_law_step", "_law_once", "_law_twice", "_law_found"] ["_law_box_here", "_law_size"] (defScope st_law_take) := ⟨rfl, rfl, rfl, by decide +kernel, rfl, by decide +kernel, by decide +kernel⟩
abbrev st_law_box : Stmt := topS 5
theorem sc_law_box : FnScope ["_law_script", "_law_k", "_law_cell"] ["_law_script", "_law_k"] (defScope st_law_box) := ⟨rfl, rfl, rfl, by decide +kernel, rfl, by decide +kernel, by decide +kernel⟩
abbrev st_law_folded : Stmt := topS 7
theorem sc_law_folded : FnScope ["_law_script", "_law_size", "_law_cells", "_law_k", "_law_cell"] ["_law_script", "_law_size"] (defScope st_law_folded) := ⟨rfl, rfl, rfl, by decide +kernel, rfl, by decide +kernel, by decide +kernel⟩
abbrev st_law_sizes : Stmt := topS 9
theorem sc_law_sizes : FnScope ["_law_box_here", "_law_most", "_law_some_here"] ["_law_box_here", "_law_most"] (defScope st_law_sizes) := ⟨rfl, rfl, rfl, by decide +kernel, rfl, by decide +kernel, by decide +kernel⟩
abbrev st_law_table : Stmt := topS 10
theorem sc_law_table : FnScope ["_law_box_here", "_law_n", "_law_m", "_law_mode", "_law_i", "_law_k", "_law_j"] ["_law_box_here", "_law_n", "_law_m"] (defScope st_law_table) := ⟨rfl, rfl, rfl, by decide +kernel, rfl, by decide +kernel, by decide +kernel⟩
section
variable {P : Program} {w : World} {K : PySem.W.Frag} {mg : Str → Option Value} {base : Heap} {f f1 f2 f3 f4 : Addr} {fd fd1 fd2 fd3 fd4 : FuncData}
theorem ok_law_take (F : Fun K "_law_take" "_law_take" st_law_take f fd) (B : Bl mg) : FnOk P w K mg base CX0 1 f fd ["_law_box_here", "_law_size"] spTake := by
  refine F.ok sc_law_take (fun vs H Q E h => ?_) (fun cdv A outer s H vs Q E hr h => ?_)
  · obtain ⟨b, m, n, rfl, _⟩ := h
    rfl
  · obtain ⟨b, m, n, rfl, hB, hn, hm1, hm2, q⟩ := h
    refine ⟨_, (pss_cons (ps_if (pt_cmpR op_gt (pe_ix (ixLK K) (pv 0) pe_int (fun _ _ => rfl)) pe_int (nomark _))
 (pss_cons (ps_asg (pe_callB call_divmod (by rfl) B.divmod (by decide +kernel) (pa_cons (pe_ix (ixLK K) (pv 0) pe_int (fun _ _ => rfl)) (pa_cons (pv 1) pa_nil))) (pg_tupK K (n := 2) rfl (pgs_cons (pg_sub (pv 0) pe_int set_list) (pgs_cons (pg_name (i := 5) sc_law_take.nd rfl (.inl rfl)) pgs_nil))))
 (pss_one (ps_ret (pv 5))))
 pss_nil)
 (pss_cons (ps_if (pt_cmpR op_gt (pv 1) (pe_op op_pow pe_int pe_int) (nomark _))
 (pss_one ps_never)
 pss_nil)
 (pss_cons (ps_asg (pe_op op_add (pe_ix (ixLK K) (pv 0) pe_int (fun _ _ => rfl)) pe_int) (pg_sub (pv 0) pe_int set_list))
 (pss_cons (ps_set (i := 2) sc_law_take.nd rfl (.inl rfl) (pe_op op_add pe_int (pe_op op_mul (pe_ix (ixLK K) (pv 0) pe_int (fun _ _ => rfl)) (pe_ix (ixLK K) (pv 0) pe_int (fun _ _ => rfl)))))
 (pss_cons (ps_set (i := 3) sc_law_take.nd rfl (.inl rfl) (pe_op op_mod (pe_op op_mul (pe_op op_add (pe_ix (ixLK K) (pv 0) pe_int (fun _ _ => rfl)) (pe_op op_mul pe_int (pe_ix (ixLK K) (pv 0) pe_int (fun _ _ => rfl)))) (pv 2)) pe_int))
 (pss_cons (ps_set (i := 4) sc_law_take.nd rfl (.inl rfl) (pe_op op_mod (pe_op op_add (pe_op op_mul (pv 3) (pe_op op_add (pe_op op_mod (pv 3) pe_int) pe_int)) (pe_ix (ixLK K) (pv 0) pe_int (fun _ _ => rfl))) pe_int))
 (pss_one (ps_ret (pe_op op_mod (pe_op op_fdiv (pe_op op_mod (pe_op op_mul (pv 4) (pe_op op_add (pe_op op_mod (pv 4) pe_int) pe_int)) pe_int) pe_int) (pv 1)))))))))), ?_⟩
    obtain ⟨r, sd, c, hb, hr0, hs0, hs1, hc0, hc1⟩ := hB
    have at0 : ∀ {σ : L2.St} {H : Hp} {x y z : V}, σ[0]? = some (some (.ref b)) → H b = some (.lst [x, y, z]) → Ev (tOp (rIxL K) (tVar 0) (tC (.int 0))) σ H x := fun hs hb => ev_op (ev_var hs) ev_c (rv_ixL (SqL.of hb) (atI_nat (j := 0) rfl))
    have at1 : ∀ {σ : L2.St} {H : Hp} {x y z : V}, σ[0]? = some (some (.ref b)) → H b = some (.lst [x, y, z]) → Ev (tOp (rIxL K) (tVar 0) (tC (.int 1))) σ H y := fun hs hb => ev_op (ev_var hs) ev_c (rv_ixL (SqL.of hb) (atI_nat (j := 1) rfl))
    have at2 : ∀ {σ : L2.St} {H : Hp} {x y z : V}, σ[0]? = some (some (.ref b)) → H b = some (.lst [x, y, z]) → Ev (tOp (rIxL K) (tVar 0) (tC (.int 2))) σ H z := fun hs hb => ev_op (ev_var hs) ev_c (rv_ixL (SqL.of hb) (atI_nat (j := 2) rfl))
    refine q_when (b := decide (0 < r)) (et_test (ev_op (at0 rfl hb) ev_c rv_I0)) (fun hp H1 e1 => ?_) fun hp H1 e1 => ?_
    · have hp' : 0 < r := of_decide_eq_true hp
      have hb1 := e1 _ _ hb
      refine at0 rfl hb1 H1 (Ex.refl _) _ fun H2 e2 => ?_
      have hb2 := e2 _ _ hb1
      refine ⟨.int m, rfl, r, m, rfl, ⟨by omega, by omega⟩, fun p np => ?_⟩
      have hpb : p ≠ b := (ne_of_none hb2 np).symm
      refine ⟨p, _, rfl, SqT.of upd_same, rfl, _, _, rfl, .ref b, rfl, b, _, 0, 0, rfl, rfl, by rw [upd_ne hpb.symm]; exact hb2, rfl, _, _, rfl, rfl, ?_⟩
      refine ⟨.int (r % m), rfl, ?_⟩
      have hq : 0 ≤ r / m := Int.ediv_nonneg hr0 (by omega)
      refine q (r % m) _ (Int.emod_nonneg _ (by omega)) (Int.emod_lt_of_pos _ (by omega)) ⟨r / m, sd, c, upd_same, hq, hs0, hs1, hc0, by omega⟩ ?_
      exact ((Keep.of (e1.trans e2)).new np).put (by simp)
    · have hb1 := e1 _ _ hb
      refine q_when (b := false) (et_is (et_test (ev_op (ev_var rfl) (ev_op ev_c ev_c (rv_I ⟨by decide, by decide, by decide⟩)) rv_I0)) (decide_eq_false (by show ¬ (10 : Int) ^ 7 < m; omega))) (fun z => by cases z) fun _ H2 e2 => ?_
      have hb2 := e2 _ _ hb1
      refine q_setL (j := 2) hb2 (ev_op (at2 rfl hb2) ev_c rv_I0) (ev_var rfl) ev_c (by show 2 < 3; decide) fun H3 e3 => ?_
      change tSeq _ _ _ _ (upd H3 b (.lst [.int r, .int sd, .int (c + 1)]))
      have k4 : Keep [b] H (upd H3 b (.lst [.int r, .int sd, .int (c + 1)])) := (Keep.of ((e1.trans e2).trans e3)).put (by simp)
      have hb4 : (upd H3 b (.lst [.int r, .int sd, .int (c + 1)])) b = some (.lst [.int r, .int sd, .int (c + 1)]) := upd_same
      generalize upd H3 b (.lst [.int r, .int sd, .int (c + 1)]) = H4 at k4 hb4
      have hcc : c + 1 ≤ 1000000001 := by omega
      refine q_asg (ev_op ev_c (ev_op (at2 rfl hb4) (at2 rfl hb4) (rv_I (.inl ⟨by omega, by omega⟩))) rv_I0) fun H5 e5 => ?_
      have hb5 := e5 _ _ hb4
      refine q_asg (ev_op (ev_op (ev_op (at1 rfl hb5) (ev_op ev_c (at2 rfl hb5) (rv_I (.inl ⟨by decide, by decide⟩))) rv_I0) (ev_var rfl) (rv_I (.inl ⟨by omega, by omega⟩))) ev_c (rv_I (by decide))) fun H6 e6 => ?_
      have hb6 := e6 _ _ hb5
      generalize ho : ((sd + 39373 * (c + 1)) * (69621 + (c + 1) * (c + 1))) % 2147483587 = once
      have ho1 : 0 ≤ once ∧ once < 2147483587 := by omega
      refine q_asg (ev_op (ev_op (ev_op (ev_var rfl) (ev_op (ev_op (ev_var rfl) ev_c (rv_I (by decide))) ev_c rv_I0) (rv_I (.inl ⟨by omega, by omega⟩))) (at2 rfl hb6) rv_I0) ev_c (rv_I (by decide))) fun H7 e7 => ?_
      generalize ht : (once * (once % 30011 + 5) + (c + 1)) % 2147483563 = twice
      have ht1 : 0 ≤ twice ∧ twice < 2147483563 := by omega
      refine s_ret (ev_op (ev_op (ev_op (ev_op (ev_var rfl) (ev_op (ev_op (ev_var rfl) ev_c (rv_I (by decide))) ev_c rv_I0) (rv_I (.inl ⟨by omega, by omega⟩))) ev_c (rv_I (by decide))) ev_c (rv_I ⟨by decide, by decide⟩)) (ev_var rfl) (rv_I (by show 0 < m; omega))) fun H8 e8 => ?_
      refine q _ H8 (Int.emod_nonneg _ (by omega)) (Int.emod_lt_of_pos _ (by omega)) ⟨r, sd, c + 1, ((e7.trans e8) _ _ (e6 _ _ hb5)), hr0, hs0, hs1, by omega, by omega⟩ (k4.ext (((e5.trans e6).trans e7).trans e8))
def spBox (K : PySem.W.Frag) : Sp := fun vs H Q _ => ∃ (a : Addr) (ns : List Int) (k : Nat), vs = [.ref a, .int (k : Int)] ∧ SqL K H a (ns.map V.int) ∧ k ≤ 1000 ∧ ∀ (b : Addr) (H' : Hp), Same H H' → H b = none → Box H' b 0 → Q (.ref b) H'
theorem ok_law_box (F : Fun K "_law_box" "_law_box" st_law_box f fd) (B : Bl mg) : FnOk P w K mg base CX0 1 f fd ["_law_script", "_law_k"] (spBox K) := by
  refine F.ok sc_law_box (fun vs H Q E h => ?_) (fun cdv A outer s H vs Q E hr h => ?_)
  · obtain ⟨a, ns, k, rfl, _⟩ := h
    rfl
  · obtain ⟨a, ns, k, rfl, hS, hk, q⟩ := h
    refine ⟨_, (pss_cons (ps_set (i := 2) sc_law_box.nd rfl (.inl rfl) (pe_ifExp (pt_cmpR op_lt (pv 1) (pe_callB (lenK K) (by rfl) B.len (by decide +kernel) (pa_cons (pv 0) pa_nil)) (nomark _)) (pe_ix (ixLK K) (pv 0) (pv 1) (fun _ _ => rfl)) pe_int))
 (pss_one (ps_ret (pe_lst (pa_cons (pe_op op_mul (pe_callB call_abs (by rfl) B.abs (by decide +kernel) (pa_cons (pv 2) pa_nil)) (pe_callTy call_int1 (by rfl) B.int (by decide +kernel) (pa_cons (pe_cmpR op_ge (pe_callB call_abs (by rfl) B.abs (by decide +kernel) (pa_cons (pv 2) pa_nil)) (pe_op op_pow pe_int pe_int) (nomark _)) pa_nil))) (pa_cons (pe_op op_mod (pe_op op_mul (pe_op op_add (pe_op op_add (pe_op op_mod (pv 2) pe_int) (pe_op op_mul pe_int (pv 1))) pe_int) pe_int) pe_int) (pa_cons pe_int pa_nil))))))), ?_⟩
    refine q_asg (v := .int (ns.getD k 0)) (ev_if (b := decide ((k : Int) < ((ns.map V.int).length : Int))) (et_test (ev_op (ev_var rfl) (ev_len (ev_var rfl) hS) rv_I0)) (fun hb => ?_) fun hb => ?_) fun H1 e1 => ?_
    · have hb' : (k : Int) < ((ns.map V.int).length : Int) := of_decide_eq_true hb
      have hk2 : k < ns.length := by rw [List.length_map] at hb'; omega
      refine ev_op (ev_var rfl) (ev_var rfl) (rv_ixL hS (atI_nat ?_))
      rw [List.getElem?_map, List.getElem?_eq_getElem hk2, List.getD_eq_getElem?_getD, List.getElem?_eq_getElem hk2] <;> rfl
    · have hb' : ¬ (k : Int) < ((ns.map V.int).length : Int) := of_decide_eq_false hb
      have hk2 : ns.length ≤ k := by rw [List.length_map] at hb'; omega
      rw [List.getD_eq_getElem?_getD, List.getElem?_eq_none hk2]
      exact ev_c
    · generalize ns.getD k 0 = c
      have hab : ∀ {σ : L2.St} {H : Hp}, σ[2]? = some (some (.int c)) → Ev (tCB (fun xs H Q => ∃ i, xs = [V.int i] ∧ Q (V.int (if i < 0 then -i else i)) H) (tCons (tVar 2) tNil)) σ H (.int (if c < 0 then -c else c)) := fun hs => ev_cb1 (ev_var hs) fun H1 Q q => ⟨c, rfl, q⟩
      have hnn : 0 ≤ (if c < 0 then -c else c) := by split <;> omega
      generalize (if c < 0 then -c else c) = ac at hab hnn
      have hbit : ∀ x : Bool, (0 : Int) ≤ (if x = true then 1 else 0) ∧ (if x = true then 1 else 0) ≤ (1 : Int) := fun x => by cases x <;> decide
      refine s_retL (el_lst (ea_cons (ev_op (hab rfl) (ev_cb1 (ev_op (hab rfl) (ev_op ev_c ev_c (rv_I ⟨by decide, by decide, by decide⟩)) rv_I0) fun H1 Q q => .inr ⟨_, rfl, q⟩) (rv_I (.inr ⟨by have := hbit (decide ((10 : Int) ^ (18 : Int).toNat ≤ ac)); omega, by have := hbit (decide ((10 : Int) ^ (18 : Int).toNat ≤ ac)); omega⟩)))
        (ea_cons (ev_op (ev_op (ev_op (ev_op (ev_op (ev_var rfl) ev_c (rv_I (by decide))) (ev_op ev_c (ev_var rfl) (rv_I (.inl ⟨by decide, by decide⟩))) rv_I0) ev_c rv_I0) ev_c (rv_I (.inr ⟨by decide, by decide⟩))) ev_c (rv_I (by decide))) (ea_cons ev_c ea_nil))) (by show 3 ≤ 100000; decide)) fun p H2 np e2 hp => ?_
      refine q p H2 (e1.trans e2) (fresh_back e1 np) ⟨_, _, _, hp, Int.mul_nonneg hnn (hbit _).1, ?_, ?_, Int.le_refl _, Int.le_refl _⟩
      · exact Int.emod_nonneg _ (by decide)
      · exact Int.emod_lt_of_pos _ (by decide)
theorem cut_hi (xs : List V) (n : Nat) : cutV xs none (some (n : Int)) = xs.take n := by
  unfold cutV
  rw [HT.sIx_none, HT.sIx_nat, Nat.sub_zero, List.drop_zero]
  by_cases h : n ≤ xs.length
  · rw [Nat.min_eq_left h]
  · rw [Nat.min_eq_right (by omega), List.take_of_length_le (Nat.le_refl _), List.take_of_length_le (by omega)]
theorem cut_both (xs : List V) (n m : Nat) : cutV xs (some (n : Int)) (some (m : Int)) = (xs.drop n).take (m - n) := by
  unfold cutV
  rw [HT.sIx_nat, HT.sIx_nat]
  by_cases h : n ≤ xs.length
  · rw [Nat.min_eq_left h]
    by_cases h2 : m ≤ xs.length
    · rw [Nat.min_eq_left h2]
    · rw [Nat.min_eq_right (by omega), List.take_of_length_le (by rw [List.length_drop]; omega), List.take_of_length_le (by rw [List.length_drop]; omega)]
  · rw [Nat.min_eq_right (show xs.length ≤ n by omega), List.drop_of_length_le (Nat.le_refl _), List.drop_of_length_le (show xs.length ≤ n by omega), List.take_nil, List.take_nil]
def spFold (K : PySem.W.Frag) : Sp := fun vs H Q _ => ∃ (a : Addr) (ns : List Int) (z : Nat), vs = [.ref a, .int (z : Int)] ∧ SqL K H a (ns.map V.int) ∧ 1 ≤ z ∧ z ≤ 1000 ∧ ns.length ≤ 1000 ∧
  ∀ (l : Addr) (ms : List Int) (H' : Hp), Same H H' → H l = none → H' l = some (.lst (ms.map V.int)) → ms.length = min z ns.length → Q (.ref l) H'
theorem ok_law_folded (F : Fun K "_law_folded" "_law_folded" st_law_folded f fd) (B : Bl mg) : FnOk P w K mg base CX0 1 f fd ["_law_script", "_law_size"] (spFold K) := by
  refine F.ok sc_law_folded (fun vs H Q E h => ?_) (fun cdv A outer s H vs Q E hr h => ?_)
  · obtain ⟨a, ns, z, rfl, _⟩ := h
    rfl
  · obtain ⟨a, ns, z, rfl, hS, hz1, hz2, hl, q⟩ := h
    refine ⟨_, (pss_cons (ps_set (i := 2) sc_law_folded.nd rfl (.inl rfl) (pe_callTy (listK K) (by rfl) B.list (by decide +kernel) (pa_cons (pe_slice (slLK K) (pv 0) po_none (po_some (pv 1))) pa_nil)))
 (pss_cons (ps_for PassesOwn.never rfl (pi_enumK K (by rfl) B.enumerate (pa_cons (pe_slice (slLK K) (pv 0) (po_some (pv 1)) (po_some pe_int)) pa_nil)) (pg_tupK K (n := 2) rfl (pgs_cons (pg_name (i := 3) sc_law_folded.nd rfl (.inl rfl)) (pgs_cons (pg_name (i := 4) sc_law_folded.nd rfl (.inl rfl)) pgs_nil)))
 (pss_one (ps_asg (pe_op op_add (pe_ix (ixLK K) (pv 2) (pe_op op_mod (pv 3) (pv 1)) (fun _ _ => rfl)) (pe_op op_mul (pv 4) (pe_op op_add (pv 3) pe_int))) (pg_sub (pv 2) (pe_op op_mod (pv 3) (pv 1)) set_list))))
 (pss_one (ps_ret (pv 2))))), ?_⟩
    refine el_sl (ev_var rfl) eo_none (eo_some (ev_var rfl)) hS H (Ex.refl _) _ fun p0 H1 np0 e1 hp0 => ⟨p0, _, rfl, .inl (SqL.of hp0), fun l nl => ?_⟩
    rw [cut_hi, ← List.map_take]
    have s1 : Same H (upd H1 l (.lst ((ns.take z).map V.int))) := e1.trans (Ex.new nl)
    have hl0 : H l = none := fresh_back e1 nl
    refine q_forE (el_sl (ev_var rfl) (eo_some (ev_var rfl)) (eo_some ev_c) (s1.seq hS)) (fun p k σ H' => ∃ (ms : List Int) (y3 y4 : Option V), σ = [some (.ref a), some (.int (z : Int)), some (.ref l), y3, y4] ∧ Same H H' ∧ H' l = some (.lst (ms.map V.int)) ∧ ms.length = min z ns.length ∧ H' p = some (.lst (cutV (ns.map V.int) (some (z : Int)) (some 63))) ∧ p ≠ l)
      (fun p H2 np e2 hp => ⟨ns.take z, none, none, rfl, s1.trans e2, e2 _ _ upd_same, by rw [List.length_take], hp, fun h => ?_⟩) (fun p k σ' H' _ hP => ?_) (fun p k x T σ' H' hx hP hT => ?_) (fun p σ' H' hP => ?_)
    · rw [h, upd_same] at np
      cases np
    · obtain ⟨_, _, _, _, _, _, _, hp, _⟩ := hP
      exact SqL.of hp
    · obtain ⟨ms, y3, y4, rfl, sm, hl', len, hp, hpl⟩ := hP
      have hx2 := hx
      rw [show (63 : Int) = ((63 : Nat) : Int) from rfl, cut_both, ← List.map_drop, ← List.map_take] at hx2
      rw [List.getElem?_map, Option.map_eq_some_iff] at hx2
      obtain ⟨n, hn, rfl⟩ := hx2
      have hzn : z < ns.length := by
        have := (List.getElem?_eq_some_iff.mp hn).1
        rw [List.length_take, List.length_drop] at this
        omega
      have hml : ms.length = z := by rw [len]; omega
      have hk63 : k < 1000 := by
        have := (List.getElem?_eq_some_iff.mp hn).1
        rw [List.length_take, List.length_drop] at this
        omega
      have nTl : l ≠ T := ne_of_none hl' hT
      have nTp : p ≠ T := ne_of_none hp hT
      have hj : k % z < (ms.map V.int).length := by rw [List.length_map, hml]; exact Nat.mod_lt _ (by omega)
      have hlT : (upd H' T (.tup [.int (k : Nat), .int n])) l = some (.lst (ms.map V.int)) := by rw [upd_ne nTl]; exact hl'
      have hix : ∀ {σ : L2.St} {H : Hp}, σ[1]? = some (some (.int (z : Int))) → σ[3]? = some (some (.int (k : Nat))) → Ev (tOp (rI (fun _ j => 0 < j) fun i j => .int (i % j)) (tVar 3) (tVar 1)) σ H (.int ((k % z : Nat) : Int)) := fun h1 h2 => ev_is (ev_op (ev_var h2) (ev_var h1) (rv_I (by show (0 : Int) < z; omega))) (by rw [Int.natCast_emod])
      refine s_setL (j := k % z) hlT (v := .int (ms[k % z]'(by rw [List.length_map] at hj; exact hj) + n * ((k : Nat) + 2))) (ev_op (ev_op (ev_var rfl) (hix rfl rfl) (rv_ixL (SqL.of hlT) (atI_nat ?_))) (ev_op (ev_var rfl) (ev_op (ev_var rfl) ev_c rv_I0) (rv_I (.inr ⟨by omega, by omega⟩))) rv_I0) (ev_var rfl) (hix rfl rfl) hj fun H2 e2 => ?_
      · rw [List.getElem?_map, List.getElem?_eq_getElem] <;> rfl
      · refine ⟨ms.set (k % z) (ms[k % z]'(by rw [List.length_map] at hj; exact hj) + n * ((k : Nat) + 2)), _, _, rfl, fun c o ho => ?_, ?_, ?_, ?_, hpl⟩
        · rw [upd_ne (ne_of_none ho hl0)]
          exact e2 _ _ (Ex.new hT _ _ (sm _ _ ho))
        · rw [upd_same, List.map_set]
        · rw [List.length_set]; exact len
        · rw [upd_ne hpl]
          exact e2 _ _ (by rw [upd_ne nTp]; exact hp)
    · obtain ⟨ms, y3, y4, rfl, sm, hl', len, _, _⟩ := hP
      exact s_ret (ev_var rfl) fun H2 e2 => q l ms H2 (sm.trans e2) hl0 (e2 _ _ hl') len
end
end K02

set_option Elab.async false
set_option linter.all false
set_option maxRecDepth 100000
namespace K02
open PySem PySem.Spec PyProof.Rows L2 Evl Cg
section
variable {P : Program} {w : World} {K : PySem.W.Frag} {mg : Str → Option Value} {base : Heap} {f f1 f2 f3 f4 : Addr} {fd fd1 fd2 fd3 fd4 : FuncData}
def spSizes : Sp := fun vs H Q _ => ∃ (b : Addr) (M N : Nat), vs = [.ref b, .int (M : Int)] ∧ Box H b N ∧ N ≤ 900000000 ∧ 1 ≤ M ∧ M ≤ 1000 ∧
  ∀ (t : Addr) (n m : Nat) (H' : Hp), 1 ≤ n → n ≤ M → 1 ≤ m → m ≤ M → H t = none → H' t = some (.tup [.int (n : Int), .int (m : Int)]) → Box H' b (N + 5) → Keep [b] H H' → Q (.ref t) H'
theorem ok_law_sizes (F : Fun K "_law_sizes" "_law_sizes" st_law_sizes f fd) (B : Bl mg) (d_law_take : Df P w K mg base 1 "_law_take" st_law_take ["_law_box_here", "_law_size"] f1 fd1 spTake) : FnOk P w K mg base CX0 2 f fd ["_law_box_here", "_law_most"] spSizes := by
  refine F.ok sc_law_sizes (fun vs H Q E h => ?_) (fun cdv A outer s H vs Q E hr h => ?_)
  · obtain ⟨b, M, N, rfl, _⟩ := h
    rfl
  · obtain ⟨b, M, N, rfl, hB, hN, hM1, hM2, q⟩ := h
    refine ⟨_, (pss_cons (ps_set (i := 2) sc_law_sizes.nd rfl (.inl rfl) (pe_lst (pa_cons (pe_tup (pa_cons (pe_op op_add pe_int (pe_call d_law_take.G (hr.mono (by omega)) (by rfl) d_law_take.g d_law_take.F.kp d_law_take.b .nil pass0 (pa_cons (pv 0) (pa_cons (pe_callB (call_min2 rfl) (by rfl) B.min (by decide +kernel) (pa_cons pe_int (pa_cons (pv 1) pa_nil))) pa_nil)))) (pa_cons (pe_op op_add pe_int (pe_call d_law_take.G (hr.mono (by omega)) (by rfl) d_law_take.g d_law_take.F.kp d_law_take.b .nil pass0 (pa_cons (pv 0) (pa_cons (pe_callB (call_min2 rfl) (by rfl) B.min (by decide +kernel) (pa_cons pe_int (pa_cons (pv 1) pa_nil))) pa_nil)))) pa_nil))) (pa_cons (pe_tup (pa_cons (pv 1) (pa_cons (pv 1) pa_nil))) pa_nil))))
 (pss_cons (ps_expr (pe_bm PySem.F.plainAttrs_list PySem.F.slot_list_append PySem.F.type_list_append mt_append (pv 2) (pa_cons (pe_tup (pa_cons (pe_op op_add pe_int (pe_call d_law_take.G (hr.mono (by omega)) (by rfl) d_law_take.g d_law_take.F.kp d_law_take.b .nil pass0 (pa_cons (pv 0) (pa_cons (pv 1) pa_nil)))) (pa_cons (pe_op op_add pe_int (pe_call d_law_take.G (hr.mono (by omega)) (by rfl) d_law_take.g d_law_take.F.kp d_law_take.b .nil pass0 (pa_cons (pv 0) (pa_cons (pv 1) pa_nil)))) pa_nil))) pa_nil)))
 (pss_one (ps_ret (pe_ix (ixLK K) (pv 2) (pe_ix (ixLK K) (pe_lst (pa_cons pe_int (pa_cons pe_int (pa_cons pe_int (pa_cons pe_int (pa_cons pe_int (pa_cons pe_int pa_nil))))))) (pe_call d_law_take.G (hr.mono (by omega)) (by rfl) d_law_take.g d_law_take.F.kp d_law_take.b .nil pass0 (pa_cons (pv 0) (pa_cons pe_int pa_nil))) (fun _ _ => rfl)) (fun _ _ => rfl)))))), ?_⟩
    have four : ∀ {σ : L2.St} {H : Hp}, σ[1]? = some (some (.int (M : Int))) → Ev (tCB (fun xs H Q => ∃ i j, xs = [V.int i, V.int j] ∧ Q (V.int (if j < i then j else i)) H) (tCons (tC (.int 4)) (tCons (tVar 1) tNil))) σ H (.int (if (M : Int) < 4 then M else 4)) := fun hs => ev_cb2 ev_c (ev_var hs) fun H1 Q q => ⟨4, M, rfl, q⟩
    have h4 : 1 ≤ (if (M : Int) < 4 then (M : Int) else 4) ∧ (if (M : Int) < 4 then (M : Int) else 4) ≤ M := by split <;> omega
    generalize (if (M : Int) < 4 then (M : Int) else 4) = m4 at four h4
    -- (1 + draw, 1 + draw)
    refine r_take rfl (four rfl) hB (by omega) (by omega) (by omega) fun x1 H1 a1 a2 B1 k1 => ⟨1, x1, rfl, rfl, ?_⟩
    refine r_take rfl (four rfl) B1 (by omega) (by omega) (by omega) fun x2 H2 a3 a4 B2 k2 => ⟨1, x2, rfl, rfl, by show 2 ≤ sizeLine; decide, fun t1 nt1 => ?_⟩
    have kA : Keep [b] H (upd H2 t1 (.tup [.int (1 + x1), .int (1 + x2)])) := (k1.trans k2).new nt1
    have BA : Box (upd H2 t1 (.tup [.int (1 + x1), .int (1 + x2)])) b (N + 2) := B2.upd nt1
    have hA : (upd H2 t1 (.tup [.int (1 + x1), .int (1 + x2)])) t1 = some (.tup [.int (1 + x1), .int (1 + x2)]) := upd_same
    have n1 : H t1 = none := by
      cases hh : H t1 with
      | none => rfl
      | some o =>
        have := (k1.trans k2).get (by simpa using (B2.ne nt1)) hh
        rw [nt1] at this
        cases this
    generalize upd H2 t1 (.tup [.int (1 + x1), .int (1 + x2)]) = HA at kA BA hA ⊢
    -- (most, most), the list
    refine ⟨.int M, rfl, .int M, rfl, by show 2 ≤ sizeLine; decide, fun t2 nt2 => ⟨by show 2 ≤ sizeLine; decide, fun l nl => ?_⟩⟩
    have kB : Keep [b] HA (upd (upd HA t2 (.tup [.int M, .int M])) l (.lst [.ref t1, .ref t2])) := ((Keep.refl _ _).new nt2).new nl
    have BB : Box (upd (upd HA t2 (.tup [.int M, .int M])) l (.lst [.ref t1, .ref t2])) b (N + 2) := (BA.upd nt2).upd nl
    have hlB : (upd (upd HA t2 (.tup [.int M, .int M])) l (.lst [.ref t1, .ref t2])) l = some (.lst [.ref t1, .ref t2]) := upd_same
    have ht2B : (upd (upd HA t2 (.tup [.int M, .int M])) l (.lst [.ref t1, .ref t2])) t2 = some (.tup [.int M, .int M]) := Ex.new nl _ _ upd_same
    have n2 : HA t2 = none := nt2
    have nlA : HA l = none := fresh_back (Ex.new nt2) nl
    generalize upd (upd HA t2 (.tup [.int M, .int M])) l (.lst [.ref t1, .ref t2]) = HB at kB BB hlB ht2B ⊢
    have hbn : ∀ {p : Addr}, HA p = none → p ∉ [b] := fun h => by simpa using BA.ne h
    have ht1B : HB t1 = some (.tup [.int (1 + x1), .int (1 + x2)]) := kB.get (by
      have := BA.ne (p := t1)
      intro z
      have z' : t1 = b := by simpa using z
      obtain ⟨r, s, c, g, _⟩ := BA
      rw [← z', hA] at g
      cases g) hA
    -- append
    refine ⟨.ref l, rfl, .inl ⟨rfl, _, SqL.of hlB⟩, ?_⟩
    refine r_take rfl (ev_var rfl) BB (by omega) (by omega) (by omega) fun x3 H3 a5 a6 B3 k3 => ⟨1, x3, rfl, rfl, ?_⟩
    refine r_take rfl (ev_var rfl) B3 (by omega) (by omega) (by omega) fun x4 H4 a7 a8 B4 k4 => ⟨1, x4, rfl, rfl, by show 2 ≤ sizeLine; decide, fun t3 nt3 => ?_⟩
    have k34 := k3.trans k4
    have hl4 : H4 l = some (.lst [.ref t1, .ref t2]) := k34.get (hbn nlA) hlB
    have nl3 : l ≠ t3 := ne_of_none hl4 nt3
    refine ⟨l, _, _, rfl, rfl, by rw [upd_ne nl3]; exact hl4, by show 2 < sizeLine; decide, ?_⟩
    generalize hHC : upd (upd H4 t3 _) l _ = HC
    have g1 : ∀ {p : Addr} {o : HO}, p ∉ [b] → p ≠ l → HB p = some o → HC p = some o := fun h1 h2 h3 => by
      rw [← hHC, upd_ne h2, upd_ne (ne_of_none (k34.get h1 h3) nt3)]
      exact k34.get h1 h3
    have hC1 := g1 (p := t1) (by
      intro z
      have z' : t1 = b := by simpa using z
      obtain ⟨r, s, c, g, _⟩ := BA
      rw [← z', hA] at g
      cases g) (ne_of_none hA nlA) ht1B
    have hC2 := g1 (p := t2) (hbn n2) (ne_of ht2B hlB (fun z => nomatch z)) ht2B
    have hC3 : HC t3 = some (.tup [.int (1 + x3), .int (1 + x4)]) := by
      rw [← hHC, upd_ne nl3.symm, upd_same]
    have BC : Box HC b (N + 4) := by
      obtain ⟨r, s, c, g, g'⟩ := B4.upd (o := .tup [.int (1 + x3), .int (1 + x4)]) nt3
      exact ⟨r, s, c, by rw [← hHC, upd_ne (BA.ne nlA).symm]; exact g, g'⟩
    have kC : Keep [b] H HC := fun p o hq => by
      obtain ⟨q1, q2⟩ := hid_some hq
      have hA' := kA.get q1 q2
      rw [hid_out q1]
      exact g1 q1 (ne_of_none hA' nlA) (kB.get q1 hA')
    have n3 : H t3 = none := by
      cases hh : H t3 with
      | none => rfl
      | some o =>
        have := (kA.trans (kB.trans k34)).get (by simpa using (B4.ne nt3)) hh
        rw [nt3] at this
        cases this
    have n2' : H t2 = none := by
      cases hh : H t2 with
      | none => rfl
      | some o =>
        have := kA.get (hbn n2) hh
        rw [n2] at this
        cases this
    have hlC : HC l = some (.lst [.ref t1, .ref t2, .ref t3]) := by
      rw [← hHC]
      exact upd_same
    have hlb : l ∉ [b] := hbn nlA
    -- which of the three
    refine ⟨.ref l, rfl, by show 6 ≤ sizeLine; decide, fun l2 nl2 => ?_⟩
    refine r_take rfl ev_c (BC.upd nl2) (by omega) (by decide) (by decide) fun x5 H5 a9 a10 B5 k5 => ?_
    have hl2 : (upd HC l2 (.lst [.int 0, .int 0, .int 0, .int 2, .int 2, .int 1])) l2 = some (.lst [.int 0, .int 0, .int 0, .int 2, .int 2, .int 1]) := upd_same
    have hl5 := k5.get (by simpa using BC.ne nl2) hl2
    have get5 : ∀ {p : Addr} {o : HO}, p ∉ [b] → HC p = some o → H5 p = some o := fun h1 h2 => k5.get h1 (Ex.new nl2 _ _ h2)
    have hlst := get5 hlb hlC
    have kF : Keep [b] H H5 := (kC.new nl2).trans k5
    obtain ⟨j, hj, rfl⟩ : ∃ j : Nat, j < 6 ∧ x5 = (j : Int) := ⟨x5.toNat, by omega, by omega⟩
    have e1 : (1 + x1 : Int) = (((1 + x1).toNat : Nat) : Int) := by omega
    have e2 : (1 + x2 : Int) = (((1 + x2).toNat : Nat) : Int) := by omega
    have e3 : (1 + x3 : Int) = (((1 + x3).toNat : Nat) : Int) := by omega
    have e4 : (1 + x4 : Int) = (((1 + x4).toNat : Nat) : Int) := by omega
    have tb1 : t1 ∉ [b] := by
      intro z
      have z' : t1 = b := by simpa using z
      obtain ⟨r, s, c, g, _⟩ := BC
      rw [← z', hC1] at g
      cases g
    have w0 : Q (.ref t1) H5 := q t1 (1 + x1).toNat (1 + x2).toNat H5 (by omega) (by omega) (by omega) (by omega) n1 (by rw [← e1, ← e2]; exact get5 tb1 hC1) B5 kF
    have w1 : Q (.ref t2) H5 := q t2 M M H5 hM1 (Nat.le_refl _) hM1 (Nat.le_refl _) n2' (get5 (hbn n2) hC2) B5 kF
    have tb3 : t3 ∉ [b] := by
      intro z
      have z' : t3 = b := by simpa using z
      obtain ⟨r, s, c, g, _⟩ := BC
      rw [← z', hC3] at g
      cases g
    have w2 : Q (.ref t3) H5 := q t3 (1 + x3).toNat (1 + x4).toNat H5 (by omega) (by omega) (by omega) (by omega) n3 (by rw [← e3, ← e4]; exact get5 tb3 hC3) B5 kF
    have pick : ∀ (i : Nat) (v : V), [V.int 0, .int 0, .int 0, .int 2, .int 2, .int 1][j]? = some (.int (i : Int)) → [V.ref t1, .ref t2, .ref t3][i]? = some v → Q v H5 →
        rIxL K (.ref l2) (.int (j : Int)) H5 (fun y H' => rIxL K (.ref l) y H' Q) := fun i v h1 h2 h3 => ⟨l2, _, _, _, rfl, rfl, SqL.of hl5, atI_nat h1, l, _, _, _, rfl, rfl, SqL.of hlst, atI_nat h2, h3⟩
    match j, hj with
    | 0, _ => exact (pick 0 _ rfl rfl w0)
    | 1, _ => exact (pick 0 _ rfl rfl w0)
    | 2, _ => exact (pick 0 _ rfl rfl w0)
    | 3, _ => exact (pick 2 _ rfl rfl w2)
    | 4, _ => exact (pick 2 _ rfl rfl w2)
    | 5, _ => exact (pick 1 _ rfl rfl w1)
end
end K02

set_option Elab.async false
set_option linter.all false
set_option maxRecDepth 100000
namespace K02
open PySem PySem.Spec PyProof.Rows L2 Evl Cg
section
variable {P : Program} {w : World} {K : PySem.W.Frag} {mg : Str → Option Value} {base : Heap} {f f1 f2 f3 f4 : Addr} {fd fd1 fd2 fd3 fd4 : FuncData}
def spTable : Sp := fun vs H Q _ => ∃ (b : Addr) (n m N : Nat) (bs : List Addr), vs = [.ref b, .int (n : Int), .int (m : Int)] ∧ Box H b N ∧ N ≤ 900000000 ∧ n ≤ 100 ∧ m ≤ 100 ∧ b ∈ bs ∧ (∀ x ∈ bs, H x ≠ none) ∧
  ∀ (T : Addr) (d : PyData) (H' : Hp), TblD n m d → H T = none → Dq (hid bs H') (.ref T) d → Box H' b (N + 1 + m * n) → Keep [b] H H' → Q (.ref T) H'
theorem flat_rep (n : Nat) (x : V) : (List.replicate n [x]).flatten = List.replicate n x := by
  induction n with
  | zero => rfl
  | succ n ih => rw [List.replicate_succ, List.flatten_cons, ih]; rfl
theorem ok_law_table (F : Fun K "_law_table" "_law_table" st_law_table f fd) (B : Bl mg) (d_law_take : Df P w K mg base 1 "_law_take" st_law_take ["_law_box_here", "_law_size"] f1 fd1 spTake) : FnOk P w K mg base CX0 2 f fd ["_law_box_here", "_law_n", "_law_m"] spTable := by
  refine F.ok sc_law_table (fun vs H Q E h => ?_) (fun cdv A outer s H vs Q E hr h => ?_)
  · obtain ⟨b, n, m, N, bs, rfl, _⟩ := h
    rfl
  · obtain ⟨b, n, m, N, bs, rfl, hB, hN, hn, hm, hb, hbs, q⟩ := h
    refine ⟨_, (pss_cons (ps_set (i := 3) sc_law_table.nd rfl (.inr rfl) (pe_call d_law_take.G (hr.mono (by omega)) (by rfl) d_law_take.g d_law_take.F.kp d_law_take.b .nil pass0 (pa_cons (pv 0) (pa_cons pe_int pa_nil))))
 (pss_cons (ps_if (pt_cmpR op_lt (pv 3) pe_int (nomark _))
 (pss_one (ps_ret (pe_lc (own := [("_law_k", 5)]) rfl sc_law_table.nd (pi_range1 (by rfl) B.range (pa_cons (pv 1) pa_nil)) (blkOk_by (own := [("_law_k", 5)]) (by kernel_rfl)) (fun _ _ _ _ _ => (pg_name (i := 5) sc_law_table.nd rfl (.inl rfl))) (fun _ _ _ _ _ => pts_nil) (fun _ _ _ _ _ => (pe_op op_rep (pe_lst (pa_cons (pv 3) pa_nil)) (pv 2))))))
 pss_nil)
 (pss_one (ps_ret (pe_lc (own := [("_law_i", 4)]) rfl sc_law_table.nd (pi_range1 (by rfl) B.range (pa_cons (pv 1) pa_nil)) (blkOk_by (own := [("_law_i", 4)]) (by kernel_rfl)) (fun _ _ _ _ _ => (pg_name (i := 4) sc_law_table.nd rfl (.inl rfl))) (fun _ _ _ _ _ => pts_nil) (fun _ _ _ _ _ => (pe_lc (own := [("_law_j", 6)]) rfl sc_law_table.nd (pi_range1 (by rfl) B.range (pa_cons (pv 2) pa_nil)) (blkOk_by (own := [("_law_j", 6)]) (by kernel_rfl)) (fun _ _ _ _ _ => (pg_name (i := 6) sc_law_table.nd rfl (.inl rfl))) (fun _ _ _ _ _ => pts_nil) (fun _ _ _ _ _ => (pe_callTy call_int1 (by rfl) B.int (by decide +kernel) (pa_cons (pe_cmpR op_lt (pe_call d_law_take.G (hr.mono (by omega)) (by rfl) d_law_take.g d_law_take.F.kp d_law_take.b .nil pass0 (pa_cons (pv 0) (pa_cons pe_int pa_nil))) (pe_ix (ixLK K) (pe_lst (pa_cons pe_int (pa_cons pe_int (pa_cons pe_int pa_nil)))) (pe_op op_mod (pv 3) pe_int) (fun _ _ => rfl)) (nomark _)) pa_nil)))))))))), ?_⟩
    have hmn : m * n ≤ 100 * 100 := Nat.mul_le_mul hm hn
    refine r_take rfl ev_c hB (by omega) (by decide) (by decide) fun mode H1 a1 a2 B1 k1 => ?_
    have live1 : ∀ x ∈ bs, H1 x ≠ none := fun x hx => k1.live B1 (hbs x hx)
    refine q_when (b := decide (mode < 2)) (et_test (ev_op (ev_var rfl) ev_c rv_I0)) (fun hmo H2 e2 => ?_) fun hmo H2 e2 => ?_
    · have hmo' : mode < 2 := of_decide_eq_true hmo
      have B2 := B1.mono e2
      have live2 : ∀ x ∈ bs, H2 x ≠ none := fun x hx => (Keep.of e2).live B2 (live1 x hx)
      refine r_lcB (c := m) (N := N + 1) (fun d => ∃ xs : List PyData, d = .list xs ∧ xs.length = m ∧ ∀ x ∈ xs, x = .int 0 ∨ x = .int 1) hb live2 B2 (ea_cons (ev_var rfl) ea_nil) (by omega) (fun _ => rfl) (fun i H' cs Q' hi hc lc Bi ki k => ?_) fun D ds H' nD BD kD dD len all => ?_
      · refine ⟨.int mode, rfl, by show 1 ≤ sizeLine; decide, fun l nl => ⟨.int m, rfl, l, m, [.int mode], rfl, rfl, upd_same, by omega, by omega, ?_, fun p np => ?_⟩⟩
        · have e : [V.int mode].length * ((m : Int)).toNat = m := by simp
          rw [e]
          exact Nat.le_trans hm (by decide)
        · have e : ((m : Int)).toNat = m := by simp
          rw [e, flat_rep]
          have kk : Keep [b] H' (upd (upd H' l (.lst [.int mode])) p (.lst (List.replicate m (.int mode)))) := ((Keep.refl _ _).new nl).new np
          have np' : H' p = none := fresh_back (Ex.new nl) np
          refine k (.ref p) (.list (List.replicate m (.int mode))) _ ((((Bi.upd nl).upd np).le (by rw [Nat.mul_succ]; omega))) kk (.lst (by rw [hid_out (new_out np' lc), upd_same]) (DqAll.rep (.int mode) m)) ⟨_, rfl, List.length_replicate, fun x hx => ?_⟩
          have ex := List.eq_of_mem_replicate hx
          subst ex
          have hm01 : mode = 0 ∨ mode = 1 := by omega
          rcases hm01 with h | h
          · exact .inl (by rw [h])
          · exact .inr (by rw [h])
      · exact q D (.list ds) H' ⟨ds, rfl, len, all⟩ (k1.free B1 (fresh_back e2 nD)) dD BD ((k1.ext e2).trans kD)
    · have B2 := B1.mono e2
      have live2 : ∀ x ∈ bs, H2 x ≠ none := fun x hx => (Keep.of e2).live B2 (live1 x hx)
      refine r_lcB (c := m) (N := N + 1) (fun d => ∃ xs : List PyData, d = .list xs ∧ xs.length = m ∧ ∀ x ∈ xs, x = .int 0 ∨ x = .int 1) hb live2 B2 (ea_cons (ev_var rfl) ea_nil) (by omega) (fun _ => rfl) (fun i H' cs Q' hi hc lc Bi ki k => ?_) fun D ds H' nD BD kD dD len all => ?_
      · have hmi : m * i ≤ m * n := Nat.mul_le_mul_left m (by omega)
        refine r_lcB (c := 1) (N := N + 1 + m * i) (fun d => d = .int 0 ∨ d = .int 1) (hc b hb) lc Bi (ea_cons (ev_var rfl) ea_nil) (by omega) (fun _ => rfl) (fun j H'' cs' Q'' hj hc' lc' Bj kj k' => ?_) fun D ds H'' nD BD kD dD len all => ?_
        · refine r_take rfl ev_c Bj (by omega) (by decide) (by decide) fun x H3 a3 a4 B3 k3 => ⟨by show 3 ≤ sizeLine; decide, fun l nl => ⟨.int mode, rfl, mode, 3, rfl, rfl, by show (0 : Int) < 3; decide, ?_⟩⟩
          obtain ⟨t, ht⟩ : ∃ t : Int, atI [V.int 1, .int 3, .int 5] (mode % 3) = some (.int t) := by
            have h3 : mode % 3 = 0 ∨ mode % 3 = 1 ∨ mode % 3 = 2 := by omega
            rcases h3 with h | h | h
            · rw [h]; exact ⟨1, rfl⟩
            · rw [h]; exact ⟨3, rfl⟩
            · rw [h]; exact ⟨5, rfl⟩
          refine ⟨l, _, _, .int t, rfl, rfl, SqL.of upd_same, ht, x, t, rfl, rfl, .inr ⟨_, rfl, ?_⟩⟩
          refine k' _ (.int (if decide (x < t) = true then 1 else 0)) _ (((B3.upd nl).le (by omega))) (k3.new nl) (.int _) ?_
          cases decide (x < t)
          · exact .inl rfl
          · exact .inr rfl
        · exact k (.ref D) (.list ds) H'' (BD.le (by rw [Nat.mul_succ]; omega)) kD dD ⟨ds, rfl, len, all⟩
      · exact q D (.list ds) H' ⟨ds, rfl, len, all⟩ (k1.free B1 (fresh_back e2 nD)) dD BD ((k1.ext e2).trans kD)
end
end K02

set_option Elab.async false
set_option linter.all false
set_option maxRecDepth 100000
set_option maxHeartbeats 1000000
namespace K02
open PySem PySem.Spec PyProof.Rows L2 Evl Cg
abbrev st_law_same : Stmt := topS 8
theorem sc_law_same : FnScope ["_law_found", "_law_due", "_law_one", "_law_other"] ["_law_found", "_law_due"] (defScope st_law_same) := ⟨rfl, rfl, rfl, by decide +kernel, rfl, by decide +kernel, by decide +kernel⟩
section
variable {P : Program} {w : World} {K : PySem.W.Frag} {mg : Str → Option Value} {base : Heap} {f f1 f2 f3 f4 : Addr} {fd fd1 fd2 fd3 fd4 : FuncData}
theorem ev_lenSq {σ : L2.St} {H : Hp} {ta : TE} {v : V} {kd : Bool} {ds : List PyData} (ha : Ev ta σ H v) (hd : Dq H v (seqD kd ds)) : Ev (tCB (rLenS K) (tCons ta tNil)) σ H (.int (ds.length : Int)) := fun H1 e Q q => ha H1 e _ fun H2 e2 => by
  obtain ⟨p, xs, rfl, hs, hx⟩ := (hd.mono (e.trans e2)).seq_inv
  have h1 : SqK kd K H2 p xs := hs (Same.refl _)
  refine ⟨p, xs, rfl, ?_, ?_⟩
  · cases kd with
    | true => exact .inl h1
    | false => exact .inr h1
  · rw [hx.len]
    exact q H2 e2
theorem ne_self {b : Bool} : (!decide (V.bl b = V.bl b)) = false := by rw [decide_eq_true rfl]; rfl
theorem ok_law_same (F : Fun K "_law_same" "_law_same" st_law_same f fd) (B : Bl mg) (g : mg "_law_same" = some (.ref f)) (b : Binds K fd ["_law_found", "_law_due"] []) : ∀ n : Nat, FnOk P w K mg base CX0 (n + 1) f fd ["_law_found", "_law_due"] (spSame n)
  | 0 => by
    refine F.ok sc_law_same (fun vs H Q E h => ?_) (fun cdv A outer s H vs Q E hr h => ?_)
    · obtain ⟨v, u, d, rfl, _⟩ := h
      rfl
    · obtain ⟨_, _, _, _, _, _, z, _⟩ := h
      exact z.elim
  | n + 1 => by
    have d_law_same : Df P w K mg base (n + 1) "_law_same" st_law_same ["_law_found", "_law_due"] f fd (spSame n) := ⟨F, g, b, ok_law_same F B g b n⟩
    refine F.ok sc_law_same (fun vs H Q E h => ?_) (fun cdv A outer s H vs Q E hr h => ?_)
    · obtain ⟨v, u, d, rfl, _⟩ := h
      rfl
    · obtain ⟨v, u, d, rfl, hv, hu, hk, q⟩ := h
      refine ⟨_, (pss_cons (ps_if (pt_val (pe_callB (isiTK K) (by rfl) B.isinstance (by decide +kernel) (pa_cons (pv 1) (pa_cons (pe_tup (pa_cons (pe_bltn (v := .ty "list") (by rfl) B.list (by decide +kernel) rfl) (pa_cons (pe_bltn (v := .ty "tuple") (by rfl) B.tuple (by decide +kernel) rfl) pa_nil))) pa_nil))))
 (pss_cons (ps_if (PW.pt (pw_or (pt_cmpR op_ne (pe_callB (isiK K) (by rfl) B.isinstance (by decide +kernel) (pa_cons (pv 0) (pa_cons (pe_bltn (v := .ty "list") (by rfl) B.list (by decide +kernel) rfl) pa_nil))) (pe_callB (isiK K) (by rfl) B.isinstance (by decide +kernel) (pa_cons (pv 1) (pa_cons (pe_bltn (v := .ty "list") (by rfl) B.list (by decide +kernel) rfl) pa_nil))) (nomark _)) (pw_or1 (pt_cmpR op_ne (pe_callB (isiK K) (by rfl) B.isinstance (by decide +kernel) (pa_cons (pv 0) (pa_cons (pe_bltn (v := .ty "tuple") (by rfl) B.tuple (by decide +kernel) rfl) pa_nil))) (pe_callB (isiK K) (by rfl) B.isinstance (by decide +kernel) (pa_cons (pv 1) (pa_cons (pe_bltn (v := .ty "tuple") (by rfl) B.tuple (by decide +kernel) rfl) pa_nil))) (nomark _)))))
 (pss_one (ps_ret pe_bl))
 pss_nil)
 (pss_one (ps_ret (pe_and (pe_cmpR op_eq (pe_callB (lenK K) (by rfl) B.len (by decide +kernel) (pa_cons (pv 0) pa_nil)) (pe_callB (lenK K) (by rfl) B.len (by decide +kernel) (pa_cons (pv 1) pa_nil)) (nomark _)) (pe_one (pe_callB (allK K) (by rfl) B.all (by decide +kernel) (pa_cons (pe_lc (own := [("_law_one", 2), ("_law_other", 3)]) rfl sc_law_same.nd (pi_zipS K (by rfl) B.zip (pa_cons (pv 0) (pa_cons (pv 1) pa_nil))) (blkOk_by (own := [("_law_one", 2), ("_law_other", 3)]) (by kernel_rfl)) (fun _ _ _ _ _ => (pg_tupK K (n := 2) rfl (pgs_cons (pg_name (i := 2) sc_law_same.nd rfl (.inl rfl)) (pgs_cons (pg_name (i := 3) sc_law_same.nd rfl (.inl rfl)) pgs_nil)))) (fun _ _ _ _ _ => pts_nil) (fun _ _ _ _ _ => (pe_call d_law_same.G (hr.mono (by omega)) (by rfl) d_law_same.g d_law_same.F.kp d_law_same.b .nil pass0 (pa_cons (pv 2) (pa_cons (pv 3) pa_nil))))) pa_nil)))))))
 pss_nil)
 (pss_cons (ps_if (PW.pt (pw_or (pt_cmpR op_isN (pv 1) pe_non (nomark _)) (pw_or1 (pt_val (pe_callB (isiK K) (by rfl) B.isinstance (by decide +kernel) (pa_cons (pv 1) (pa_cons (pe_bltn (v := .ty "str") (by rfl) B.str (by decide +kernel) rfl) pa_nil)))))))
 (pss_one (ps_ret (pe_and (pe_cmpR op_eq (pv 0) (pv 1) (nomark _)) (pe_one (pe_cmpR op_eq (pe_callB (isiK K) (by rfl) B.isinstance (by decide +kernel) (pa_cons (pv 0) (pa_cons (pe_bltn (v := .ty "str") (by rfl) B.str (by decide +kernel) rfl) pa_nil))) (pe_callB (isiK K) (by rfl) B.isinstance (by decide +kernel) (pa_cons (pv 1) (pa_cons (pe_bltn (v := .ty "str") (by rfl) B.str (by decide +kernel) rfl) pa_nil))) (nomark _))))))
 pss_nil)
 (pss_one (ps_ret (pe_and (pe_callB (isiK K) (by rfl) B.isinstance (by decide +kernel) (pa_cons (pv 0) (pa_cons (pe_bltn (v := .ty "int") (by rfl) B.int (by decide +kernel) rfl) pa_nil))) (pe_and (pe_cmpR op_eq (pe_callB (isiK K) (by rfl) B.isinstance (by decide +kernel) (pa_cons (pv 0) (pa_cons (pe_bltn (v := .ty "bool") (by rfl) B.bool (by decide +kernel) rfl) pa_nil))) (pe_callB (isiK K) (by rfl) B.isinstance (by decide +kernel) (pa_cons (pv 1) (pa_cons (pe_bltn (v := .ty "bool") (by rfl) B.bool (by decide +kernel) rfl) pa_nil))) (nomark _)) (pe_one (pe_cmpR op_eq (pv 0) (pv 1) (nomark _))))))))), ?_⟩
      have cs : ((isList d || isTuple d) = false ∧ (decide (u = .non) || isStr d) = false ∧ v = u ∧ scal v u = true ∧ isInt d = true) ∨ ((isList d || isTuple d) = false ∧ (decide (u = .non) || isStr d) = true ∧ v = u ∧ scal v u = true) ∨
          (∃ (kd : Bool) (ds : List PyData), d = seqD kd ds ∧ ds.length ≤ 40000 ∧ (∀ x ∈ ds, Okn n x) ∧ (isList d || isTuple d) = true) := by
        cases d with
        | none => cases hv; cases hu; exact .inr (.inl ⟨rfl, rfl, rfl, rfl⟩)
        | str x => cases hv; cases hu; exact .inr (.inl ⟨rfl, by show (_ || true) = true; rw [Bool.or_true], rfl, rfl⟩)
        | bool x => cases hv; cases hu; exact .inl ⟨rfl, rfl, rfl, rfl, rfl⟩
        | int x => cases hv; cases hu; exact .inl ⟨rfl, rfl, rfl, rfl, rfl⟩
        | list xs => exact .inr (.inr ⟨true, xs, rfl, hk.1, hk.2, rfl⟩)
        | tuple xs => exact .inr (.inr ⟨false, xs, rfl, hk.1, hk.2, rfl⟩)
        | dict _ => exact hk.elim
      rcases cs with ⟨h1, h2, h3, h4, h5⟩ | ⟨h1, h2, h3, h4⟩ | ⟨kd, ds, e, hz, hi, ht⟩
      · refine q_when (b := false) (et_is (et_B (ev_isi2 (ev_var rfl) hu)) h1) (fun z => nomatch z) fun _ H1 e1 => ?_
        refine q_when (b := false) (et_is (et_or (et_test (ev_op (ev_var rfl) ev_c fun H2 _ Q q => ⟨rfl, q H2 (Ex.refl _)⟩)) fun _ => et_B (ev_isi (ev_var rfl) (hu.mono e1) (kit_str d))) h2) (fun z => nomatch z) fun _ H2 e2 => ?_
        have hv2 := hv.mono (e1.trans e2)
        have hu2 := hu.mono (e1.trans e2)
        refine s_ret (ev_is (ev_andV (ev_isi (ev_var rfl) hv2 (kit_int d)) fun _ => ev_andV (ev_op (ev_isi (ev_var rfl) hv2 (kit_bool d)) (ev_isi (ev_var rfl) hu2 (kit_bool d)) (rv_eq rfl)) fun _ => ev_op (ev_var rfl) (ev_var rfl) (rv_eq h4)) (w := .bl true) ?_) fun H3 e3 => q H3 ((e1.trans e2).trans e3)
        rw [h5, h3, decide_eq_true rfl, decide_eq_true rfl]
        rfl
      · refine q_when (b := false) (et_is (et_B (ev_isi2 (ev_var rfl) hu)) h1) (fun z => nomatch z) fun _ H1 e1 => ?_
        refine q_when (b := true) (et_is (et_or (et_test (ev_op (ev_var rfl) ev_c fun H2 _ Q q => ⟨rfl, q H2 (Ex.refl _)⟩)) fun _ => et_B (ev_isi (ev_var rfl) (hu.mono e1) (kit_str d))) h2) (fun _ H2 e2 => ?_) fun z => nomatch z
        have hv2 := hv.mono (e1.trans e2)
        have hu2 := hu.mono (e1.trans e2)
        refine s_ret (ev_is (ev_andV (ev_op (ev_var rfl) (ev_var rfl) (rv_eq h4)) fun _ => ev_op (ev_isi (ev_var rfl) hv2 (kit_str d)) (ev_isi (ev_var rfl) hu2 (kit_str d)) (rv_eq rfl)) (w := .bl true) ?_) fun H3 e3 => q H3 ((e1.trans e2).trans e3)
        rw [h3, decide_eq_true rfl, decide_eq_true rfl]
        rfl
      · refine q_when (b := true) (et_is (et_B (ev_isi2 (ev_var rfl) hu)) ht) (fun _ H1 e1 => ?_) fun z => nomatch z
        have hv1 := hv.mono e1
        have hu1 := hu.mono e1
        refine q_when (b := false) (et_is (et_or (et_test (ev_op (ev_isi (ev_var rfl) hv1 (kit_list d)) (ev_isi (ev_var rfl) hu1 (kit_list d)) (rv_ne rfl))) fun _ => et_test (ev_op (ev_isi (ev_var rfl) hv1 (kit_tuple d)) (ev_isi (ev_var rfl) hu1 (kit_tuple d)) (rv_ne rfl))) (by rw [ne_self, ne_self]; rfl)) (fun z => nomatch z) fun _ H2 e2 => ?_
        have hv2 := hv1.mono e2
        have hu2 := hu1.mono e2
        subst e
        refine s_ret (ev_is (ev_andV (ev_op (ev_lenSq (ev_var rfl) hv2) (ev_lenSq (ev_var rfl) hu2) (rv_eq rfl)) fun _ => ev_allZ (ev_var rfl) (ev_var rfl) hv2 hu2 hz (fun _ _ => rfl) fun x y d H3 hm hx hy => ev_call (ea_cons (ev_var rfl) (ea_cons (ev_var rfl) ea_nil)) (spv_same hx hy (hi d hm))) (w := .bl true) ?_) fun H3 e3 => q H3 ((e1.trans e2).trans e3)
        rw [decide_eq_true rfl]
        rfl
end
end K02

set_option Elab.async false
set_option linter.all false
set_option maxRecDepth 100000
set_option maxHeartbeats 1000000
namespace K02
open PySem PySem.Spec PyProof.Rows L2 Evl Cg
abbrev st_law_handed : Stmt := topS 11
theorem sc_law_handed : FnScope ["_law_box_here", "_law_table_here", "_law_mode", "_law_rows", "_law_row"] ["_law_box_here", "_law_table_here"] (defScope st_law_handed) := ⟨rfl, rfl, rfl, by decide +kernel, rfl, by decide +kernel, by decide +kernel⟩
abbrev st_law_some : Stmt := topS 12
theorem sc_law_some : FnScope ["_law_box_here", "_law_size", "_law_turn", "_law_left", "_law_found"] ["_law_box_here", "_law_size"] (defScope st_law_some) := ⟨rfl, rfl, rfl, by decide +kernel, rfl, by decide +kernel, by decide +kernel⟩
abbrev st_law_asks : Stmt := topS 13
theorem sc_law_asks : FnScope ["_law_table_here", "_law_found", "_law_i", "_law_row", "_law_j", "_law_bit"] ["_law_table_here"] (defScope st_law_asks) := ⟨rfl, rfl, rfl, by decide +kernel, rfl, by decide +kernel, by decide +kernel⟩
def rowAs (j : Nat) : PyData → PyData
  | .list xs => if decide (V.int (j : Int) = V.int 2) = true then .tuple xs else .list xs
  | d => d
theorem rows_as (j : Nat) (M : Mat) : (M.map (rowD true)).map (rowAs j) = M.map (rowD (!decide (V.int (j : Int) = V.int 2))) := by
  rw [List.map_map]
  refine List.map_congr_left fun r _ => ?_
  show (if decide (V.int (j : Int) = V.int 2) = true then PyData.tuple _ else PyData.list _) = _
  cases decide (V.int (j : Int) = V.int 2) <;> rfl
section
variable {P : Program} {w : World} {K : PySem.W.Frag} {mg : Str → Option Value} {base : Heap} {f f1 f2 f3 f4 : Addr} {fd fd1 fd2 fd3 fd4 : FuncData}
def spHand : Sp := fun vs H Q _ => ∃ (b : Addr) (bs : List Addr) (N : Nat) (v : V) (M : Mat), vs = [.ref b, v] ∧ Box H b N ∧ N ≤ 900000000 ∧ b ∈ bs ∧ Live bs H ∧ Dq (hid bs H) v (tabD true true M) ∧ Small M ∧
  ∀ (v' : V) (k1 k2 : Bool) (H' : Hp), Dq (hid bs H') v' (tabD k1 k2 M) → Box H' b (N + 1) → Keep [b] H H' → Q v' H'
theorem ok_law_handed (F : Fun K "_law_handed" "_law_handed" st_law_handed f fd) (B : Bl mg) (d_law_take : Df P w K mg base 1 "_law_take" st_law_take ["_law_box_here", "_law_size"] f1 fd1 spTake) : FnOk P w K mg base CX0 2 f fd ["_law_box_here", "_law_table_here"] spHand := by
  refine F.ok sc_law_handed (fun vs H Q E h => ?_) (fun cdv A outer s H vs Q E hr h => ?_)
  · obtain ⟨b, bs, N, v, M, rfl, _⟩ := h
    rfl
  · obtain ⟨b, bs, N, v, M, rfl, hB, hN, hb, l, hd, hM, q⟩ := h
    refine ⟨_, (pss_cons (ps_set (i := 2) sc_law_handed.nd rfl (.inr rfl) (pe_call d_law_take.G (hr.mono (by omega)) (by rfl) d_law_take.g d_law_take.F.kp d_law_take.b .nil pass0 (pa_cons (pv 0) (pa_cons pe_int pa_nil))))
 (pss_cons (ps_setLc (i := 3) (own := [("_law_row", 4)]) rfl sc_law_handed.nd rfl rfl (sw_true rfl rfl rfl (by decide +kernel)) (pi_listK K (pv 1)) (blkOk_by (own := [("_law_row", 4)]) (by kernel_rfl)) (fun _ _ _ _ _ => (pg_name (i := 4) sc_law_handed.nd rfl (.inl rfl))) (fun _ _ _ _ _ => pts_nil) (fun _ _ _ _ _ => (pe_ifExp (pt_cmpR op_eq (pv 2) pe_int (nomark _)) (pe_callTy (tupK K) (by rfl) B.tuple (by decide +kernel) (pa_cons (pv 4) pa_nil)) (pe_callTy (listK K) (by rfl) B.list (by decide +kernel) (pa_cons (pv 4) pa_nil)))))
 (pss_one (ps_ret (pe_ifExp (pt_cmpR op_gt (pv 2) pe_int (nomark _)) (pe_callTy (tupK K) (by rfl) B.tuple (by decide +kernel) (pa_cons (pv 3) pa_nil)) (pv 3)))))), ?_⟩
    refine q_take rfl ev_c hB (by omega) (by decide) (by decide) fun j H1 hj B1 k1 => ?_
    have l1 : Live bs H1 := l.keep k1 B1
    have hd1 : Dq (hid bs H1) v (.list (M.map (rowD true))) := (keep_up hb k1).dq hd
    refine q_asgQ (bs := bs) (d := .list (M.map (rowD (!decide (V.int (j : Int) = V.int 2))))) ?_ fun v3 H2 e2 d3 => ?_
    · rw [← rows_as]
      refine eq_lc (K := K) (rowAs j) l1 (eq_var rfl hd1) (by rw [List.length_map]; have := hM.1; omega) (fun _ => rfl) fun cs x d H3 e3 hc l3 hm hx => ?_
      obtain ⟨r, _, rfl⟩ := List.mem_map.mp hm
      refine eq_if (c := decide (V.int (j : Int) = V.int 2)) (et_test (ev_op (ev_var rfl) ev_c (rv_eq rfl))) (fun h => ?_) fun h => ?_
      · show EvQ cs _ _ _ (if decide (V.int (j : Int) = V.int 2) = true then PyData.tuple _ else PyData.list _)
        rw [if_pos h]
        exact eq_tupleL l3 (eq_var rfl hx)
      · show EvQ cs _ _ _ (if decide (V.int (j : Int) = V.int 2) = true then PyData.tuple _ else PyData.list _)
        rw [if_neg (by rw [h]; exact Bool.false_ne_true)]
        exact eq_listL l3 (eq_var rfl hx)
    · have l2 := l1.mono e2
      refine s_retQ (bs := bs) (d := tabD (!decide ((0 : Int) < (j : Int))) (!decide (V.int (j : Int) = V.int 2)) M) (eq_if (c := decide ((0 : Int) < (j : Int))) (et_test (ev_op (ev_var rfl) ev_c rv_I0)) (fun h => ?_) fun h => ?_) fun v4 H3 e3 d4 => q v4 _ _ H3 d4 ((B1.mono (e2.trans e3))) (k1.ext (e2.trans e3))
      · rw [h]
        exact eq_tupleL l2 (eq_var rfl d3)
      · rw [h]
        exact eq_var rfl d3
def askR (k : Nat) (row : List PyData) : List PyData := (row.mapIdx fun r d => if isOne d = true then [PyData.tuple [.int (k : Nat), .int (r : Nat)]] else []).flatten
def Bits (M : Mat) : Prop := ∀ r ∈ M, ∀ x ∈ r, x = 0 ∨ x = 1
def spLAsk : Sp := fun vs H Q _ => ∃ (bs : List Addr) (v : V) (M : Mat), vs = [v] ∧ Live bs H ∧ Dq (hid bs H) v (tabD true true M) ∧ Small M ∧ Bits M ∧ ∀ v' H', Same H H' → Dq (hid bs H') v' (.list (askL M)) → Q v' H'
theorem ok_law_asks (F : Fun K "_law_asks" "_law_asks" st_law_asks f fd) (B : Bl mg) : FnOk P w K mg base CX0 1 f fd ["_law_table_here"] spLAsk := by
  refine F.ok sc_law_asks (fun vs H Q E h => ?_) (fun cdv A outer s H vs Q E hr h => ?_)
  · obtain ⟨bs, v, M, rfl, _⟩ := h
    rfl
  · obtain ⟨bs, v, M, rfl, l, hd, hM, hbit, q⟩ := h
    refine ⟨_, (pss_cons (ps_set (i := 1) sc_law_asks.nd rfl (.inl rfl) (pe_lst pa_nil))
 (pss_cons (ps_for PassesOwn.never rfl (pi_enumS K (by rfl) B.enumerate (pa_cons (pv 0) pa_nil)) (pg_tupK K (n := 2) rfl (pgs_cons (pg_name (i := 2) sc_law_asks.nd rfl (.inl rfl)) (pgs_cons (pg_name (i := 3) sc_law_asks.nd rfl (.inl rfl)) pgs_nil)))
 (pss_one (ps_for PassesOwn.never rfl (pi_enumS K (by rfl) B.enumerate (pa_cons (pv 3) pa_nil)) (pg_tupK K (n := 2) rfl (pgs_cons (pg_name (i := 4) sc_law_asks.nd rfl (.inl rfl)) (pgs_cons (pg_name (i := 5) sc_law_asks.nd rfl (.inl rfl)) pgs_nil)))
 (pss_one (ps_set (i := 1) sc_law_asks.nd rfl (.inl rfl) (pe_op op_cat (pv 1) (pe_op op_rep (pe_lst (pa_cons (pe_tup (pa_cons (pv 2) (pa_cons (pv 4) pa_nil))) pa_nil)) (pv 5))))))))
 (pss_one (ps_ret (pv 1))))), ?_⟩
    refine q_asgQ (bs := bs) (eq_lst l qa_nil (Nat.zero_le _)) fun v0 H1 e1 d0 => ?_
    obtain ⟨a, xs, rfl, hs, hx⟩ := Dq.seq_inv (show Dq (hid bs H) v (seqD true (M.map (rowD true))) from hd)
    have hlen : xs.length = M.length := by rw [hx.len, List.length_map]
    refine q_forK (K := K) (kd := true) (a := a) (xs := xs) (ev_var rfl) (fun H2 e2 => hs (hid_same.trans (e1.trans e2))) (fun k σ' H' => ∃ (vf : V) (y2 y3 y4 y5 : Option V) (ds : List PyData), σ' = [some (.ref a), some vf, y2, y3, y4, y5] ∧ Same H H' ∧ Dq (hid bs H') vf (.list ds) ∧ ds = (((datR M).take k).mapIdx askR).flatten ∧ ds.length ≤ 12 * k)
      (fun H2 e2 => ⟨v0, none, none, none, none, [], rfl, e1.trans e2, d0.mono (same_hid e2), rfl, Nat.zero_le _⟩) (fun k σ' H' _ hP => ?_) (fun k x T σ' H' hxk hP hT => ?_) (fun σ' H' hP => ?_)
    · obtain ⟨vf, y2, y3, y4, y5, ds, rfl, sm, _⟩ := hP
      exact hs (hid_same.trans sm)
    · obtain ⟨vf, y2, y3, y4, y5, ds, rfl, sm, df, eds, hdl⟩ := hP
      obtain ⟨d, gd, dd⟩ := hx.get hxk
      rw [List.getElem?_map, Option.map_eq_some_iff] at gd
      obtain ⟨r, gr, rfl⟩ := gd
      have hrm := List.mem_of_getElem? gr
      have hkM := (List.getElem?_eq_some_iff.mp gr).1
      have hM1 := hM.1
      have hrl := hM.2 r hrm
      have grD : (datR M)[k]? = some (r.map PyData.int) := by unfold datR; rw [List.getElem?_map, gr]; rfl
      have sT : Same H (upd H' T (.tup [.int (k : Nat), x])) := sm.trans (Ex.new hT)
      obtain ⟨a2, ys, rfl, hs2, hy⟩ := Dq.seq_inv (show Dq (hid bs H) x (seqD true (r.map PyData.int)) from dd)
      have hyl : ys.length = r.length := by rw [hy.len, List.length_map]
      refine s_forK (K := K) (kd := true) (a := a2) (xs := ys) (ev_var rfl) (fun H2 e2 => hs2 (hid_same.trans (sT.trans e2))) (fun j σ' H'' => ∃ (vf : V) (y4 y5 : Option V) (es : List PyData), σ' = [some (.ref a), some vf, some (.int (k : Nat)), some (.ref a2), y4, y5] ∧ Same H H'' ∧ Dq (hid bs H'') vf (.list es) ∧ es = ds ++ askR k ((r.map PyData.int).take j) ∧ es.length ≤ 12 * k + j)
        (fun H2 e2 => ⟨vf, y4, y5, ds, rfl, sT.trans e2, df.mono (same_hid ((Ex.new hT).trans e2)), by show ds = ds ++ []; rw [List.append_nil], by omega⟩) (fun j σ' H'' _ hP => ?_) (fun j y T2 σ' H'' hyj hP hT2 => ?_) (fun σ' H'' hP => ?_)
      · obtain ⟨vf, y4, y5, es, rfl, sm2, _⟩ := hP
        exact hs2 (hid_same.trans sm2)
      · obtain ⟨vf, y4, y5, es, rfl, sm2, df2, ees, hel⟩ := hP
        obtain ⟨d2, gd2, dd2⟩ := hy.get hyj
        have gd3 := gd2
        rw [List.getElem?_map, Option.map_eq_some_iff] at gd2
        obtain ⟨z, gz, rfl⟩ := gd2
        have hjr := (List.getElem?_eq_some_iff.mp gz).1
        have hz := hbit r hrm z (List.mem_of_getElem? gz)
        rw [dd2.int_inv]
        have sT2 : Same H'' (upd H'' T2 (.tup [.int (j : Nat), .int z])) := Ex.new hT2
        have l2 : Live bs (upd H'' T2 (.tup [.int (j : Nat), .int z])) := l.mono (sm2.trans sT2)
        have hzn : ∃ n : Nat, z = (n : Int) ∧ n ≤ 1 ∧ (List.replicate n [PyData.tuple [.int (k : Nat), .int (j : Nat)]]).flatten = (if isOne (.int z) = true then [PyData.tuple [.int (k : Nat), .int (j : Nat)]] else []) := by
          rcases hz with rfl | rfl
          · exact ⟨0, rfl, by decide, rfl⟩
          · exact ⟨1, rfl, by decide, rfl⟩
        obtain ⟨n, en, hn1, hrep⟩ := hzn
        have hl1 : (List.replicate n [PyData.tuple [.int (k : Nat), .int (j : Nat)]]).flatten.length ≤ 1 := by
          rw [rep_one, List.length_replicate]
          exact hn1
        refine s_asgQ (bs := bs) (d := .list (es ++ (List.replicate n [PyData.tuple [.int (k : Nat), .int (j : Nat)]]).flatten)) (eq_cat l2 (eq_var rfl (df2.mono (same_hid sT2))) (eq_rep l2 (eq_lst l2 (qa_cons (eq_tup l2 (qa_cons (eq_int (ev_var rfl)) (qa_cons (eq_int (ev_var rfl)) qa_nil)) (by show 2 ≤ _; decide)) qa_nil) (by show 1 ≤ _; decide)) (by rw [← en]; exact ev_var rfl) (by omega) (by show 1 * n ≤ _; omega)) (by omega)) fun v5 H5 e5 d5 => ?_
        refine ⟨v5, _, _, _, rfl, (sm2.trans sT2).trans e5, d5, ?_, by rw [List.length_append]; omega⟩
        rw [ees, hrep, List.append_assoc]
        congr 1
        unfold askR
        rw [take_idx (fun r d => if isOne d = true then [PyData.tuple [.int (k : Nat), .int (r : Nat)]] else []) gd3, List.flatten_append]
        congr 1
        show _ = (_ ++ [])
        rw [List.append_nil]
      · obtain ⟨vf, y4, y5, es, rfl, sm2, df2, ees, hel⟩ := hP
        refine ⟨vf, _, _, _, _, es, rfl, sm2, df2, ?_, by omega⟩
        have e9 : (r.map PyData.int).take ys.length = r.map PyData.int := List.take_of_length_le (by rw [List.length_map]; omega)
        rw [e9] at ees
        rw [ees, eds, take_idx askR grD, List.flatten_append]
        congr 1
        show _ = (_ ++ [])
        rw [List.append_nil]
    · obtain ⟨vf, y2, y3, y4, y5, ds, rfl, sm, df, eds, hdl⟩ := hP
      refine s_retQ (bs := bs) (eq_var rfl df) fun v6 H6 e6 d6 => q v6 H6 (sm.trans e6) ?_
      have : ds = askL M := by
        rw [eds, List.take_of_length_le (by unfold datR; rw [List.length_map]; omega)]
        rfl
      rw [← this]
      exact d6
end
end K02

set_option Elab.async false
set_option linter.all false
set_option maxRecDepth 100000
set_option maxHeartbeats 1000000
namespace K02
open PySem PySem.Spec PyProof.Rows L2 Evl Cg
section
variable {P : Program} {w : World} {K : PySem.W.Frag} {mg : Str → Option Value} {base : Heap} {f f1 f2 f3 f4 : Addr} {fd fd1 fd2 fd3 fd4 : FuncData}
def Few (ns : List Int) : Prop := ∀ x ∈ ns, 0 ≤ x ∧ x < 12
def spSome : Sp := fun vs H Q _ => ∃ (b : Addr) (N sz : Nat), vs = [.ref b, .int (sz : Int)] ∧ Box H b N ∧ N ≤ 900000000 ∧ 1 ≤ sz ∧ sz ≤ 12 ∧
  ∀ (p : Addr) (ns : List Int) (H' : Hp), H p = none → H' p = some (.lst (ns.map V.int)) → ns.length ≤ 24 → Few ns → Box H' b (N + 16) → Keep [b] H H' → Q (.ref p) H'
theorem dqI {H : Hp} {L : Addr} {ls : List Int} (h : H L = some (.lst (ls.map V.int))) : Dq (hid [] H) (.ref L) (.list (ls.map PyData.int)) := .lst (by rw [hid_out (List.not_mem_nil)]; exact h) (DqAll.ints ls)
theorem ok_small {x : Int} (h : 0 ≤ x ∧ x < 12) : okD (.int x) = true := by
  obtain ⟨n, rfl⟩ : ∃ n : Nat, x = (n : Int) := ⟨x.toNat, by omega⟩
  have hn : n < 12 := by omega
  have go : ∀ n : Nat, n < 12 → okD (.int (n : Int)) = true := by decide +kernel
  exact go n hn
theorem shaped_ints {ls : List Int} (h : Few ls) : SeqAt.shaped (.list (ls.map PyData.int)) = true := by
  refine shaped_ok (okAll_iff.mpr fun x hx => ?_) ?_
  · obtain ⟨i, hi, rfl⟩ := List.mem_map.mp hx
    exact ok_small (h i hi)
  · have : PyData.depthAll (ls.map PyData.int) ≤ 0 := depthAll_iff.mpr fun x hx => by
      obtain ⟨i, _, rfl⟩ := List.mem_map.mp hx
      exact Nat.le_refl _
    show PyData.depthAll (ls.map PyData.int) + 1 ≤ 64
    omega
theorem erase_map {α β : Type} (f : α → β) : ∀ (xs : List α) (i : Nat), (xs.map f).eraseIdx i = (xs.eraseIdx i).map f
  | [], _ => rfl
  | _ :: _, 0 => rfl
  | x :: xs, i + 1 => by
    show f x :: (xs.map f).eraseIdx i = f x :: (xs.eraseIdx i).map f
    rw [erase_map f xs i]
theorem seqIx {j n : Nat} (h : j < n) : seqIndex? (j : Int) n = some j := by
  unfold seqIndex?
  have h1 : ¬ (j : Int) < 0 := by omega
  simp only [h1, if_false]
  rw [if_pos (by simp; omega)]
  simp
theorem ok_law_some (F : Fun K "_law_some" "_law_some" st_law_some f fd) (B : Bl mg) (d_law_take : Df P w K mg base 1 "_law_take" st_law_take ["_law_box_here", "_law_size"] f1 fd1 spTake) : FnOk P w K mg base CX0 2 f fd ["_law_box_here", "_law_size"] spSome := by
  refine F.ok sc_law_some (fun vs H Q E h => ?_) (fun cdv A outer s H vs Q E hr h => ?_)
  · obtain ⟨b, N, sz, rfl, _⟩ := h
    rfl
  · obtain ⟨b, N, sz, rfl, hB, hN, hz1, hz2, q⟩ := h
    refine ⟨_, (pss_cons (ps_par (i := 3) (j := 4) (by rfl) sc_law_some.nd rfl rfl (by decide) rfl rfl (pa_cons (pe_listRg rfl (by rfl) B.list (prg_1 (by rfl) B.range (pv 1))) (pa_cons (pe_lst pa_nil) pa_nil)) (by rfl))
 (pss_cons (ps_for PassesOwn.never rfl (pi_range1 (by rfl) B.range (pa_cons (pe_ix (ixLK K) (pe_lst (pa_cons pe_int (pa_cons (pe_call d_law_take.G (hr.mono (by omega)) (by rfl) d_law_take.g d_law_take.F.kp d_law_take.b .nil pass0 (pa_cons (pv 0) (pa_cons (pe_op op_add (pv 1) pe_int) pa_nil))) (pa_cons (pe_call d_law_take.G (hr.mono (by omega)) (by rfl) d_law_take.g d_law_take.F.kp d_law_take.b .nil pass0 (pa_cons (pv 0) (pa_cons pe_int pa_nil))) (pa_cons (pv 1) pa_nil))))) (pe_call d_law_take.G (hr.mono (by omega)) (by rfl) d_law_take.g d_law_take.F.kp d_law_take.b .nil pass0 (pa_cons (pv 0) (pa_cons pe_int pa_nil))) (fun _ _ => rfl)) pa_nil)) (pg_name (i := 2) sc_law_some.nd rfl (.inl rfl))
 (pss_one (ps_if (pt_cmpR (neDK K hr.units) (pv 3) (pe_lst pa_nil) (nomark _))
 (pss_one (ps_expr (pe_bm PySem.F.plainAttrs_list PySem.F.slot_list_append PySem.F.type_list_append mt_append (pv 4) (pa_cons (pe_bm PySem.F.plainAttrs_list PySem.F.slot_list_pop PySem.F.type_list_pop mt_popAt (pv 3) (pa_cons (pe_call d_law_take.G (hr.mono (by omega)) (by rfl) d_law_take.g d_law_take.F.kp d_law_take.b .nil pass0 (pa_cons (pv 0) (pa_cons (pe_callB (lenK K) (by rfl) B.len (by decide +kernel) (pa_cons (pv 3) pa_nil)) pa_nil))) pa_nil)) pa_nil))))
 pss_nil)))
 (pss_one (ps_ret (pe_op op_cat (pv 4) (pe_slice (slLK K) (pv 4) po_none (po_some (pe_op op_fdiv (pe_call d_law_take.G (hr.mono (by omega)) (by rfl) d_law_take.g d_law_take.F.kp d_law_take.b .nil pass0 (pa_cons (pv 0) (pa_cons pe_int pa_nil))) pe_int)))))))), ?_⟩
    refine ⟨.int sz, rfl, sz, rfl, RgOk.of_le (by decide) (by omega) (by decide) (by omega), fun L nL => ⟨Nat.zero_le _, fun Fa nF => ⟨_, _, rfl, ?_⟩⟩⟩
    have hrg : rgV 0 (sz : Int) = ((List.range sz).map fun i : Nat => (i : Int)).map V.int := by
      unfold rgV
      rw [List.map_map, show ((sz : Int) - 0).toNat = sz by omega]
      exact List.map_congr_left fun i _ => by show V.int (0 + (i : Int)) = V.int (i : Int); rw [Int.zero_add]
    rw [hrg] at nF ⊢
    have few0 : Few ((List.range sz).map fun i : Nat => (i : Int)) := fun x hx => by
      obtain ⟨i, hi, rfl⟩ := List.mem_map.mp hx
      have := List.mem_range.mp hi
      omega
    have len0 : ((List.range sz).map fun i : Nat => (i : Int)).length = sz := by rw [List.length_map, List.length_range]
    generalize ((List.range sz).map fun i : Nat => (i : Int)) = ls0 at few0 len0 nF ⊢
    have hFL : Fa ≠ L := fun z => by rw [z, upd_same] at nF; cases nF
    have nFH : H Fa = none := fresh_back (Ex.new nL) nF
    have hL0 : (upd (upd H L (.lst (ls0.map V.int))) Fa (.lst [])) L = some (.lst (ls0.map V.int)) := by rw [upd_ne hFL.symm, upd_same]
    have hF0 : (upd (upd H L (.lst (ls0.map V.int))) Fa (.lst [])) Fa = some (.lst ([].map V.int)) := upd_same
    have B0 : Box (upd (upd H L (.lst (ls0.map V.int))) Fa (.lst [])) b N := (hB.upd nL).upd nF
    have k0 : Keep [b] H (upd (upd H L (.lst (ls0.map V.int))) Fa (.lst [])) := ((Keep.refl _ _).new nL).new nF
    generalize upd (upd H L (.lst (ls0.map V.int))) Fa (.lst []) = H0 at hL0 hF0 B0 k0
    have hLb : L ∉ [b] := hB.out nL
    have hFb : Fa ∉ [b] := hB.out nFH
    -- how many
    refine r_take rfl (ev_op (ev_var rfl) ev_c rv_I0) B0 (by omega) (by omega) (by omega) fun x1 H1 a1 a2 B1 k1 => ?_
    refine r_take rfl ev_c B1 (by omega) (by decide) (by decide) fun x2 H2 a3 a4 B2 k2 => ⟨.int sz, rfl, by show 4 ≤ sizeLine; decide, fun p np => ?_⟩
    refine r_take rfl ev_c (B2.upd np) (by omega) (by decide) (by decide) fun x3 H3 a5 a6 B3 k3 => ?_
    have hp3 : H3 p = some (.lst [.int 0, .int x1, .int x2, .int sz]) := k3.get (B2.out np) upd_same
    have kk : Keep [b] H0 H3 := ((k1.trans k2).new np).trans k3
    have hx : ∃ n : Nat, atI [V.int 0, .int x1, .int x2, .int sz] x3 = some (.int (n : Int)) ∧ n ≤ 12 := by
      have e : x3 = 0 ∨ x3 = 1 ∨ x3 = 2 ∨ x3 = 3 := by omega
      rcases e with rfl | rfl | rfl | rfl
      · exact ⟨0, atI_nat (j := 0) rfl, by omega⟩
      · exact ⟨x1.toNat, by rw [show ((x1.toNat : Nat) : Int) = x1 by omega]; exact atI_nat (j := 1) rfl, by omega⟩
      · exact ⟨x2.toNat, by rw [show ((x2.toNat : Nat) : Int) = x2 by omega]; exact atI_nat (j := 2) rfl, by omega⟩
      · exact ⟨sz, atI_nat (j := 3) rfl, by omega⟩
    obtain ⟨n, hn, hn2⟩ := hx
    refine ⟨p, _, x3, .int (n : Int), rfl, rfl, SqL.of hp3, hn, n, rfl, by omega, by omega, ?_⟩
    rw [show ((n : Int)).toNat = n by omega]
    have B3' : Box H3 b (N + 3) := B3
    have k03 := k0.trans kk
    refine for_range (lo := 0) (n := n) (fun i σ' H' => ∃ (y2 : Option V) (ls fs : List Int), σ' = [some (.ref b), some (.int sz), y2, some (.ref L), some (.ref Fa)] ∧ H' L = some (.lst (ls.map V.int)) ∧ H' Fa = some (.lst (fs.map V.int)) ∧ Few ls ∧ Few fs ∧ fs.length + ls.length = sz ∧ Box H' b (N + 3 + i) ∧ Keep [b] H H')
      ⟨none, ls0, [], rfl, kk.get hLb hL0, kk.get hFb hF0, few0, (fun _ z => nomatch z), by rw [len0]; exact Nat.zero_add _, B3', k03⟩ (fun i σ' H' hi hP => ?_) (fun σ' H' hP => ?_)
    · obtain ⟨y2, ls, fs, rfl, hL, hF, fl, ff, hlen, hB', k'⟩ := hP
      refine s_if (b := !(ls.map PyData.int).isEmpty) (et_is (et_test (ev_neQ (bs := []) (eq_var rfl (dqI hL)) (eq_lst (fun _ z => nomatch z) qa_nil (Nat.zero_le _)) (shaped_ints fl) (by rfl))) (by rw [eqv_nil])) (fun hne H1 e1 => ?_) fun hne H1 e1 => ?_
      · have hpos : 1 ≤ ls.length := by
          cases ls with
          | nil => cases hne
          | cons _ _ => exact Nat.succ_le_succ (Nat.zero_le _)
        have hL1 := e1 _ _ hL
        have hF1 := e1 _ _ hF
        refine ⟨.ref Fa, rfl, .inl ⟨rfl, _, SqL.of hF1⟩, .ref L, rfl, .inl ⟨rfl, _, SqL.of hL1⟩, ?_⟩
        refine r_take rfl (ev_len (ev_var rfl) (SqL.of hL1)) (hB'.mono e1) (by omega) (by rw [List.length_map]; omega) (by rw [List.length_map]; omega) fun x H2 c1 c2 B2 k2 => ?_
        rw [List.length_map] at c2
        have hxl : x.toNat < ls.length := by omega
        have hL2 := k2.get hLb hL1
        have hF2 := k2.get hFb hF1
        refine ⟨L, ls.map V.int, x, x.toNat, .int ls[x.toNat], rfl, rfl, hL2, by omega, by omega, ?_, ?_, ?_⟩
        · have := seqIx (n := (ls.map V.int).length) (by rw [List.length_map]; exact hxl)
          rw [show ((x.toNat : Nat) : Int) = x by omega] at this
          exact this
        · rw [List.getElem?_map, List.getElem?_eq_getElem hxl]; rfl
        · refine ⟨Fa, fs.map V.int, _, rfl, rfl, by rw [upd_ne hFL]; exact hF2, ?_, _, ls.eraseIdx x.toNat, fs ++ [ls[x.toNat]], rfl, ?_, ?_, ?_, ?_, ?_, ?_, ?_⟩
          · rw [List.length_map]
            exact Nat.lt_of_le_of_lt (show fs.length ≤ 12 by omega) (by decide)
          · rw [upd_ne hFL.symm, upd_same]
            rw [erase_map]
          · rw [upd_same, List.map_append]; rfl
          · exact fun y hy => fl y (List.mem_of_mem_eraseIdx hy)
          · intro y hy
            rcases List.mem_append.mp hy with hy | hy
            · exact ff y hy
            · rw [List.mem_singleton.mp hy]
              exact fl _ (List.getElem_mem hxl)
          · rw [List.length_append, List.length_eraseIdx_of_lt hxl]
            show fs.length + 1 + _ = sz
            omega
          · exact (B2.put (by simpa using hLb)).put (by simpa using hFb)
          · exact (((k'.ext e1).trans k2).putNew nL).putNew nFH
      · exact ⟨_, ls, fs, rfl, e1 _ _ hL, e1 _ _ hF, fl, ff, hlen, (hB'.mono e1).le (by omega), k'.ext e1⟩
    · obtain ⟨y2, ls, fs, rfl, hL, hF, fl, ff, hlen, hB', k'⟩ := hP
      refine ⟨.ref Fa, rfl, .ref Fa, rfl, ?_⟩
      refine r_take rfl ev_c hB' (by omega) (by decide) (by decide) fun x H1 c1 c2 B1 k1 => ?_
      have hF1 := k1.get hFb hF
      have hx3 : x / 3 = ((x / 3).toNat : Int) := by omega
      refine ⟨x, 3, rfl, rfl, ⟨by decide, by decide⟩, x / 3, rfl, Fa, fs.map V.int, rfl, SqL.of hF1, fun z nz => ?_⟩
      rw [hx3, cut_hi, ← List.map_take]
      have hFz : Fa ≠ z := ne_of_none hF1 nz
      refine ⟨Fa, z, fs.map V.int, (fs.take (x / 3).toNat).map V.int, rfl, rfl, by rw [upd_ne hFz]; exact hF1, upd_same, ?_, fun r nr => ?_⟩
      · rw [List.length_map, List.length_map, List.length_take]
        exact Nat.le_trans (show _ ≤ 24 by omega) (by decide)
      · have kz := ((k'.trans k1).new nz (o := .lst ((fs.take (x / 3).toNat).map V.int)))
        have Bz := B1.upd nz (o := .lst ((fs.take (x / 3).toNat).map V.int))
        refine q r (fs ++ fs.take (x / 3).toNat) _ (kz.free Bz nr) (by rw [upd_same, List.map_append]) ?_ ?_ ((Bz.upd nr).le (by omega)) (kz.new nr)
        · rw [List.length_append, List.length_take]; omega
        · intro y hy
          rcases List.mem_append.mp hy with hy | hy
          · exact ff y hy
          · exact ff y (List.mem_of_mem_take hy)
end
end K02

set_option Elab.async false
set_option linter.all false
set_option maxRecDepth 100000
set_option maxHeartbeats 1000000
namespace K02
open PySem PySem.Spec PyProof.Rows L2 Evl Cg
/-- n rows of m numbers 0 or 1 -/
structure Tab (n m : Nat) (M : Mat) : Prop where
  len : M.length = n
  row : ∀ r ∈ M, r.length = m
  bit : Bits M
theorem tab_of {n m : Nat} {d : PyData} (h : TblD n m d) : ∃ M, d = tabD true true M ∧ Tab n m M := by
  obtain ⟨rows, rfl, hn, hr⟩ := h
  have row : ∀ xs : List PyData, (∀ x ∈ xs, x = .int 0 ∨ x = .int 1) → ∃ r : List Int, xs = r.map PyData.int ∧ ∀ x ∈ r, x = 0 ∨ x = 1 := fun xs => by
    induction xs with
    | nil => exact fun _ => ⟨[], rfl, fun _ z => nomatch z⟩
    | cons x xs ih =>
      intro h
      obtain ⟨r, e, hb⟩ := ih fun y hy => h y (List.mem_cons_of_mem _ hy)
      rcases h x (List.mem_cons_self ..) with hx | hx
      · exact ⟨0 :: r, by rw [hx, e]; rfl, fun y hy => (List.mem_cons.mp hy).elim (fun z => .inl z) (hb y)⟩
      · exact ⟨1 :: r, by rw [hx, e]; rfl, fun y hy => (List.mem_cons.mp hy).elim (fun z => .inr z) (hb y)⟩
  have all : ∀ rows : List PyData, (∀ r ∈ rows, ∃ xs : List PyData, r = .list xs ∧ xs.length = m ∧ ∀ x ∈ xs, x = .int 0 ∨ x = .int 1) → ∃ M : Mat, rows = M.map (rowD true) ∧ (∀ r ∈ M, r.length = m) ∧ Bits M := fun rows => by
    induction rows with
    | nil => exact fun _ => ⟨[], rfl, (fun _ z => nomatch z), fun _ z => nomatch z⟩
    | cons r rows ih =>
      intro h
      obtain ⟨M, e, h1, h2⟩ := ih fun y hy => h y (List.mem_cons_of_mem _ hy)
      obtain ⟨xs, rfl, hm, hx⟩ := h r (List.mem_cons_self ..)
      obtain ⟨s, rfl, hs⟩ := row xs hx
      rw [List.length_map] at hm
      refine ⟨s :: M, by rw [e]; rfl, fun y hy => ?_, fun y hy => ?_⟩
      · rcases List.mem_cons.mp hy with rfl | hy
        · exact hm
        · exact h1 y hy
      · rcases List.mem_cons.mp hy with rfl | hy
        · exact hs
        · exact h2 y hy
  obtain ⟨M, e, h1, h2⟩ := all rows hr
  refine ⟨M, by rw [e]; rfl, ?_, h1, h2⟩
  rw [← hn, e, List.length_map]
section
variable {n m : Nat} {M : Mat}
theorem Tab.small (t : Tab n m M) (hn : n ≤ 12) (hm : m ≤ 12) : Small M := ⟨by rw [t.len]; exact hn, fun r hr => by rw [t.row r hr]; exact hm⟩
theorem Tab.ne (t : Tab n m M) (hn : 1 ≤ n) : M ≠ [] := fun z => by
  have := t.len
  rw [z] at this
  simp at this
  omega
theorem map_range {β : Type} (f : List Int → β) (M : Mat) : M.map f = (List.range M.length).map fun i => f (M.getD i []) := by
  apply List.ext_getElem
  · simp
  · intro i h1 h2
    rw [List.length_map] at h1
    rw [List.getElem_map, List.getElem_map, List.getElem_range, List.getD_eq_getElem?_getD, List.getElem?_eq_getElem h1]
    rfl
theorem row_range (r : List Int) : (List.range r.length).map (fun j => r.getD j 0) = r := by
  apply List.ext_getElem
  · simp
  · intro i h1 h2
    rw [List.getElem_map, List.getElem_range, List.getD_eq_getElem?_getD, List.getElem?_eq_getElem h2]
    rfl
theorem getD_map {α β : Type} (f : α → β) (xs : List α) (i : Nat) (a : α) (b : β) (h : i < xs.length) : (xs.map f).getD i b = f (xs.getD i a) := by
  rw [List.getD_eq_getElem?_getD, List.getD_eq_getElem?_getD, List.getElem?_map, List.getElem?_eq_getElem h]
  rfl
theorem Tab.turn_row (t : Tab n m M) : ∀ r ∈ turnM m M, r.length = n := fun r hr => by
  obtain ⟨j, _, rfl⟩ := List.mem_map.mp hr
  rw [List.length_map, t.len]
theorem turn_len : (turnM m M).length = m := by unfold turnM; rw [List.length_map, List.length_range]
theorem Tab.twice (t : Tab n m M) : turnM n (turnM m M) = M := by
  have e := map_range (fun r : List Int => r) M
  rw [List.map_id'] at e
  conv => rhs; rw [e]
  unfold turnM
  rw [t.len]
  refine List.map_congr_left fun i hi => ?_
  have hi' := List.mem_range.mp hi
  rw [List.map_map]
  have hr : (M.getD i []).length = m := by
    rw [List.getD_eq_getElem?_getD, List.getElem?_eq_getElem (by rw [t.len]; exact hi')]
    exact t.row _ (List.getElem_mem _)
  rw [← row_range (M.getD i []), hr]
  refine List.map_congr_left fun j _ => ?_
  show (M.map fun r => r.getD j 0).getD i 0 = _
  exact getD_map (fun r : List Int => r.getD j 0) M i [] 0 (by rw [t.len]; exact hi')
theorem Tab.turn_data (t : Tab n m M) : (List.range m).map (fun j => PyData.list ((List.range n).map fun i => PyData.int ((M.getD i []).getD j 0))) = (turnM m M).map (rowD true) := by
  unfold turnM
  rw [List.map_map]
  refine List.map_congr_left fun j _ => ?_
  show _ = PyData.list ((M.map fun r => r.getD j 0).map PyData.int)
  rw [List.map_map, map_range, t.len]
  rfl
theorem left_nil : leftM [] [] M = M := by
  unfold leftM
  have e : ∀ (i : Nat) (r : List Int), leftR [] [] i r = r := fun i r => by
    unfold leftR
    apply List.ext_getElem
    · simp
    · intro j h1 h2
      rw [List.getElem_mapIdx]
      rfl
  apply List.ext_getElem
  · simp
  · intro j h1 h2
    rw [List.getElem_mapIdx, e]
theorem okn_row (kd : Bool) {r : List Int} (h : r.length ≤ 40000) (n : Nat) : Okn (n + 2) (rowD kd r) := by
  have h1 : (r.map PyData.int).length ≤ 40000 ∧ ∀ x ∈ r.map PyData.int, Okn (n + 1) x := ⟨by rw [List.length_map]; exact h, fun x hx => by
    obtain ⟨i, _, rfl⟩ := List.mem_map.mp hx
    exact True.intro⟩
  cases kd <;> exact h1
theorem okn_tab (k1 k2 : Bool) (h1 : M.length ≤ 40000) (h2 : ∀ r ∈ M, r.length ≤ 40000) : Okn 3 (tabD k1 k2 M) := by
  have h : (M.map (rowD k2)).length ≤ 40000 ∧ ∀ x ∈ M.map (rowD k2), Okn 2 x := ⟨by rw [List.length_map]; exact h1, fun x hx => by
    obtain ⟨r, hr, rfl⟩ := List.mem_map.mp hx
    exact okn_row k2 (h2 r hr) 0⟩
  cases k1 <;> exact h
theorem ask_len (M : Mat) : (askL M).length ≤ ((datR M).map List.length).sum := by
  unfold askL
  have one : ∀ (k : Nat) (row : List PyData), (askR k row).length ≤ row.length := fun k row => by
    have go : ∀ (row : List PyData) (r0 : Nat), ((row.mapIdx fun r d => if isOne d = true then [PyData.tuple [.int (k : Nat), .int ((r + r0 : Nat) : Int)]] else []).flatten).length ≤ row.length := fun row => by
      induction row with
      | nil => exact fun _ => Nat.le_refl _
      | cons d row ih =>
        intro r0
        rw [List.mapIdx_cons, List.flatten_cons, List.length_append, List.length_cons]
        have h1 := ih (r0 + 1)
        have e : (row.mapIdx fun r d => if isOne d = true then [PyData.tuple [.int (k : Nat), .int ((r + 1 + r0 : Nat) : Int)]] else []) = (row.mapIdx fun r d => if isOne d = true then [PyData.tuple [.int (k : Nat), .int ((r + (r0 + 1) : Nat) : Int)]] else []) := by
          congr 1
          funext r d
          rw [show r + 1 + r0 = r + (r0 + 1) by omega]
        rw [e]
        have h3 : (if isOne d = true then [PyData.tuple [.int (k : Nat), .int ((0 + r0 : Nat) : Int)]] else []).length ≤ 1 := by split <;> simp
        omega
    exact go row 0
  have go : ∀ (rows : List (List PyData)) (k0 : Nat), ((rows.mapIdx fun k row => askR (k + k0) row).flatten).length ≤ (rows.map List.length).sum := fun rows => by
    induction rows with
    | nil => exact fun _ => Nat.le_refl _
    | cons row rows ih =>
      intro k0
      rw [List.mapIdx_cons, List.flatten_cons, List.length_append, List.map_cons, List.sum_cons]
      have h1 := ih (k0 + 1)
      have e : (rows.mapIdx fun k row => askR (k + 1 + k0) row) = (rows.mapIdx fun k row => askR (k + (k0 + 1)) row) := by
        congr 1
        funext r d
        rw [show r + 1 + k0 = r + (k0 + 1) by omega]
      rw [e]
      have h3 := one (0 + k0) row
      omega
  exact go (datR M) 0
theorem okn_ask (h : Small M) : Okn 3 (.list (askL M)) := by
  refine ⟨Nat.le_trans (ask_len M) (sum_small h), fun x hx => ?_⟩
  unfold askL at hx
  obtain ⟨l, hl, hx⟩ := List.mem_flatten.mp hx
  obtain ⟨k, hk, rfl⟩ := List.mem_mapIdx.mp hl
  obtain ⟨l2, hl2, hx⟩ := List.mem_flatten.mp hx
  obtain ⟨j, hj, rfl⟩ := List.mem_mapIdx.mp hl2
  split at hx
  · rw [List.mem_singleton.mp hx]
    refine ⟨by show 2 ≤ _; decide, fun y hy => ?_⟩
    rcases List.mem_cons.mp hy with rfl | hy
    · exact True.intro
    · rw [List.mem_singleton.mp hy]
      exact True.intro
  · cases hx
theorem wz_small {x : Int} (h : 0 ≤ x ∧ x < 12) : wz (.int x) ≤ 5 := by
  obtain ⟨n, rfl⟩ : ∃ n : Nat, x = (n : Int) := ⟨x.toNat, by omega⟩
  have hn : n < 12 := by omega
  have go : ∀ n : Nat, n < 12 → wz (.int (n : Int)) ≤ 5 := by decide +kernel
  exact go n hn
/-- data that repr may be asked of -/
def Shn (R : Nat) (k : Nat) (d : PyData) : Prop := okD d = true ∧ d.depth ≤ k ∧ wz d ≤ R
theorem shn_seq {kd : Bool} {ds : List PyData} {R k L : Nat} (h : ∀ d ∈ ds, Shn R k d) (hl : ds.length ≤ L) : Shn ((R + 2) * L + 3) (k + 1) (seqD kd ds) := by
  have h1 : okAll ds = true := okAll_iff.mpr fun d hd => (h d hd).1
  have h2 : PyData.depthAll ds ≤ k := depthAll_iff.mpr fun d hd => (h d hd).2.1
  have h3 := wzAll_le fun d hd => (h d hd).2.2
  have h4 : (R + 2) * ds.length ≤ (R + 2) * L := Nat.mul_le_mul (Nat.le_refl _) hl
  have h5 : wzAll ds + 3 ≤ (R + 2) * L + 3 := by omega
  cases kd
  · exact ⟨h1, Nat.succ_le_succ h2, h5⟩
  · exact ⟨h1, Nat.succ_le_succ h2, h5⟩
theorem shn_row {kd : Bool} {r : List Int} {L : Nat} (h : Few r) (hl : r.length ≤ L) : Shn (7 * L + 3) 1 (rowD kd r) := shn_seq (R := 5) (k := 0) (fun d hd => by
  obtain ⟨x, hx, rfl⟩ := List.mem_map.mp hd
  exact ⟨ok_small (h x hx), Nat.le_refl _, wz_small (h x hx)⟩) (by rw [List.length_map]; exact hl)
theorem few_bits {r : List Int} (h : ∀ x ∈ r, x = 0 ∨ x = 1) : Few r := fun x hx => by rcases h x hx with rfl | rfl <;> omega
theorem shn_tab {k1 k2 : Bool} (h : Bits M) (hs : Small M) : Shn 1100 2 (tabD k1 k2 M) := by
  have := shn_seq (kd := k1) (ds := M.map (rowD k2)) (R := 87) (k := 1) (L := 12) (fun d hd => by
    obtain ⟨r, hr, rfl⟩ := List.mem_map.mp hd
    exact shn_row (L := 12) (few_bits (h r hr)) (hs.2 r hr)) (by rw [List.length_map]; exact hs.1)
  exact ⟨this.1, this.2.1, Nat.le_trans this.2.2 (by decide)⟩
end
section
variable {bs : List Addr} {K : PySem.W.Frag} {σ : L2.St} {H : Hp} {ta tb tc : TE} {M : Mat}
theorem eq_lask (l : Live bs H) (h : EvQ bs ta σ H (tabD true true M)) (hs : Small M) (hb : Bits M) : EvQ bs (tCall spLAsk [] E0 (tCons ta tNil)) σ H (.list (askL M)) := fun H1 e Q q =>
  h H1 e _ fun v H2 e2 hv => ⟨bs, v, M, rfl, l.mono (e.trans e2), hv, hs, hb, fun u H3 e3 hu => q u H3 (e2.trans e3) hu⟩
theorem eq_asks {k1 k2 : Bool} (l : Live bs H) (h : EvQ bs ta σ H (tabD k1 k2 M)) (hs : Small M) : EvQ bs (tCall spAsk [] E0 (tCons ta tNil)) σ H (.list (askL M)) := fun H1 e Q q =>
  h H1 e _ fun v H2 e2 hv => ⟨bs, v, k1, k2, M, rfl, l.mono (e.trans e2), hv, hs, fun p xs H3 np e3 hp hx => q _ H3 (e2.trans e3) (.lst (by rw [hid_out ((l.mono (e.trans e2)).out np)]; exact hp) (hx.mono (hid_less fun y hy => List.mem_cons_of_mem _ hy)))⟩
theorem eq_turn {k1 k2 : Bool} {m : Nat} (l : Live bs H) (h : EvQ bs ta σ H (tabD k1 k2 M)) (hne : M ≠ []) (h1 : M.length ≤ 12) (h2 : m ≤ 12) (h3 : ∀ r ∈ M, r.length = m) : EvQ bs (tCall spTurn [] E0 (tCons ta tNil)) σ H (tabD true true (turnM m M)) := fun H1 e Q q =>
  h H1 e _ fun v H2 e2 hv => ⟨bs, v, k1, k2, m, M, rfl, hv, hne, h1, h2, h3, fun p as H3 e3 T => q _ H3 (e2.trans e3) (T.dq (l.mono (e.trans e2)))⟩
theorem eq_left {k1 k2 k3 k4 : Bool} {I O : List Int} (l : Live bs H) (h : EvQ bs ta σ H (tabD k1 k2 M)) (hi : EvQ bs tb σ H (rowD k3 I)) (ho : EvQ bs tc σ H (rowD k4 O)) (hs : Small M) : EvQ bs (tCall spLeft [] E0 (tCons ta (tCons tb (tCons tc tNil)))) σ H (tabD true true (leftM I O M)) := fun H1 e Q q =>
  h H1 e _ fun v H2 e2 hv => hi H2 (e.trans e2) _ fun vi H3 e3 hi' => ho H3 ((e.trans e2).trans e3) _ fun vo H4 e4 ho' => ⟨bs, v, vi, vo, k1, k2, k3, k4, M, I, O, rfl, l.mono (((e.trans e2).trans e3).trans e4), hv.mono (same_hid (e3.trans e4)), hi'.mono (same_hid e4), ho', hs,
    fun p as H5 e5 T => q _ H5 (((e2.trans e3).trans e4).trans e5) (T.dq (l.mono (((e.trans e2).trans e3).trans e4)))⟩
end
end K02

set_option Elab.async false
set_option linter.all false
set_option maxRecDepth 100000
set_option maxHeartbeats 2000000
namespace K02
open PySem PySem.Spec PyProof.Rows L2 Evl Cg
abbrev st_law_right : Stmt := topS 14
theorem sc_law_right : FnScope ["_law_box_here", "_law_table_here", "_law_turn", "_law_very", "_law_n", "_law_m", "_law_handed_here", "_law_due", "_law_row", "_law_inlets", "_law_outlets", "_law_kept", "_law_first", "_law_found", "_law_other", "_law_i", "_law_j", "_law_bit"] ["_law_box_here"] (defScope st_law_right) := ⟨rfl, rfl, rfl, by decide +kernel, rfl, by decide +kernel, by decide +kernel⟩
theorem int_at {r : List Int} {j : Nat} (h : j < r.length) : (r.map PyData.int)[j]? = some (.int (r.getD j 0)) := by
  rw [List.getElem?_map, List.getD_eq_getElem?_getD, List.getElem?_eq_getElem h]
  rfl
def dueD (c : Bool) : PyData → PyData
  | .int x => .int (if c = true then 0 else x)
  | d => d
theorem due_row (I O : List Int) (k : Nat) (r : List Int) : ((r.map PyData.int).mapIdx fun j d => dueD (outB I O k j) d) = (leftR I O k r).map PyData.int := by
  apply List.ext_getElem
  · simp [leftR]
  · intro j h1 h2
    simp [leftR, dueD]
theorem not_and (a c : Bool) (x : Int) : x * (if (!a && !c) = true then 1 else 0) = if (a || c) = true then 0 else x := by
  cases a <;> cases c <;> simp
theorem eq_turn2 {bs : List Addr} {σ : L2.St} {H : Hp} {ta : TE} {k1 k2 : Bool} {n m : Nat} {M : Mat} (t : Tab n m M) (n1 : 1 ≤ n) (n2 : n ≤ 12) (m1 : 1 ≤ m) (m2 : m ≤ 12) (l : Live bs H) (h : EvQ bs ta σ H (tabD k1 k2 (turnM m M))) : EvQ bs (tCall spTurn [] E0 (tCons ta tNil)) σ H (tabD true true M) := by
  have h1 := eq_turn (m := n) l h (fun z => by
    have h2 := congrArg List.length z
    rw [turn_len] at h2
    simp at h2
    omega) (by rw [turn_len]; exact m2) n2 t.turn_row
  rw [t.twice] at h1
  exact h1
theorem eq_left0 {bs : List Addr} {σ : L2.St} {H : Hp} {ta : TE} {k1 k2 : Bool} {M : Mat} (l : Live bs H) (h : EvQ bs ta σ H (tabD k1 k2 M)) (hs : Small M) : EvQ bs (tCall spLeft [] E0 (tCons ta (tCons (tLst tNil) (tCons (tTup tNil) tNil)))) σ H (tabD true true M) := by
  have h1 := eq_left (k3 := true) (k4 := false) (I := []) (O := []) l h (eq_lst l qa_nil (Nat.zero_le _)) (eq_tup l qa_nil (Nat.zero_le _)) hs
  rw [left_nil] at h1
  exact h1
theorem last_at {α : Type} {xs : List α} {x : α} (h : xs[xs.length - 1]? = some x) : atI xs (-1) = some x := by
  have hp : 0 < xs.length := by
    have := (List.getElem?_eq_some_iff.mp h).1
    omega
  have e : ixN xs.length (-1) = some (xs.length - 1) := by
    unfold ixN
    rw [if_neg (by decide), if_pos (by omega)]
    congr 1
    omega
  unfold atI
  rw [e]
  exact h
/-- one number of one row set -/
theorem new_put {H H1 H2 : Hp} {p : Addr} {as : List Addr} {M : Mat} (t : NewTab H H1 p as M) (s : Same H1 H2) {k : Nat} {a : Addr} {r : List Int} (ha : as[k]? = some a) (hr : M[k]? = some r) (x : Int) : NewTab H (upd H2 a (.lst ((r.map V.int).set 0 (.int x)))) p as (M.set k (r.set 0 x)) := by
  have hk := (List.getElem?_eq_some_iff.mp hr).1
  obtain ⟨q1, q2, q3⟩ := t.row k a r ha hr
  refine ⟨t.np, by rw [upd_ne q1.symm]; exact s _ _ t.hp, by rw [List.length_set]; exact t.len, t.nd, fun j c u hc hu => ?_⟩
  by_cases hj : k = j
  · subst hj
    have e : c = a := Option.some.inj (hc.symm.trans ha)
    subst e
    rw [List.getElem?_set_self hk] at hu
    have e2 : r.set 0 x = u := Option.some.inj hu
    rw [← e2, List.map_set]
    exact ⟨q1, q2, upd_same⟩
  · rw [List.getElem?_set_ne hj] at hu
    obtain ⟨z1, z2, z3⟩ := t.row j c u hc hu
    have hne : c ≠ a := fun z => by
      have h1 := (List.getElem?_eq_some_iff.mp ha)
      have h2 := (List.getElem?_eq_some_iff.mp hc)
      obtain ⟨h1, h1'⟩ := h1
      obtain ⟨h2, h2'⟩ := h2
      have pw := List.pairwise_iff_getElem.mp t.nd
      rcases Nat.lt_or_gt_of_ne hj with h | h
      · exact pw k j h1 h2 h (by rw [h1', h2', z])
      · exact pw j k h2 h1 h (by rw [h1', h2', z])
    exact ⟨z1, z2, by rw [upd_ne hne]; exact s _ _ z3⟩
theorem Tab.put {n m : Nat} {M : Mat} (t : Tab n m M) {k : Nat} {r : List Int} (hr : M[k]? = some r) {x : Int} (hx : x = 0 ∨ x = 1) : Tab n m (M.set k (r.set 0 x)) := by
  have hm := List.mem_of_getElem? hr
  refine ⟨by rw [List.length_set]; exact t.len, fun u hu => ?_, fun u hu => ?_⟩
  · rcases List.mem_or_eq_of_mem_set hu with hu | rfl
    · exact t.row u hu
    · rw [List.length_set]; exact t.row r hm
  · rcases List.mem_or_eq_of_mem_set hu with hu | rfl
    · exact t.bit u hu
    · intro y hy
      rcases List.mem_or_eq_of_mem_set hy with hy | rfl
      · exact t.bit r hm y hy
      · exact hx
/-- x = [list(row) for row in table] -/
theorem q_copy {bs : List Addr} {K : PySem.W.Frag} {σ : L2.St} {H : Hp} {tl : TE} {i j : Nat} {vs : List Nat} {T : Addr} {M : Mat} {tz : TS} {D : Ends} (h : Ev tl σ H (.ref T)) (hd : Dq (hid bs H) (.ref T) (tabD true true M)) (hM : Small M) (hw : ∀ x, wipe ((wipe σ vs).set j (some x)) vs = wipe σ vs)
    (hj : ∀ x, ((wipe σ vs).set j (some x))[j]? = some (some x)) (k : ∀ p as H', Same H H' → NewTab H H' p as M → tz D (σ.set i (some (.ref p))) H') : tSeq (tAsg (tLc (iList K tl) (gName j) tYes (tCB (rListS K) (tCons (tVar j) tNil)) vs) (gName i)) tz D σ H := by
  have go : ∀ Q : VK, (∀ p as H', Same H H' → NewTab H H' p as M → Q (.ref p) H') → tLc (iList K tl) (gName j) tYes (tCB (rListS K) (tCons (tVar j) tNil)) vs σ H Q := fun Q kq => by
    refine h H (Ex.refl _) _ fun H1 e1 => ?_
    obtain ⟨aT, xT, eT, hsT, hxT⟩ := Dq.seq_inv (show Dq (hid bs H1) (.ref T) (seqD true (M.map (rowD true))) from hd.mono (same_hid e1))
    have eT' : T = aT := V.ref.inj eT
    subst eT'
    have lenT : xT.length = M.length := by rw [hxT.len, List.length_map]
    refine ⟨T, rfl, ⟨xT, hsT hid_same⟩, fun pv npv => ?_⟩
    refine lc_rows (J := Itl K T) (n := M.length) (fun i => M.getD i []) npv (by have := hM.1; omega) (fun i H2 hi s1 => ⟨xT, xT[i]'(by omega), hsT (hid_same.trans s1), List.getElem?_eq_getElem _⟩) (fun H2 s1 => ⟨xT, hsT (hid_same.trans s1), by omega⟩) (fun i x H2 H3 Qk hi s1 hy k => ?_) fun asv H3 e3 TV => ?_
    · obtain ⟨rfl, hx⟩ := hy
      obtain ⟨d, gd, dd⟩ := hxT.get (hx xT (hsT (hid_same.trans s1)))
      rw [List.getElem?_map, Option.map_eq_some_iff] at gd
      obtain ⟨r, gr, rfl⟩ := gd
      have er : M.getD i [] = r := by rw [List.getD_eq_getElem?_getD, gr]; rfl
      obtain ⟨a, ys, rfl, hs2, hy2⟩ := Dq.seq_inv (show Dq (hid bs H1) x (seqD true (r.map PyData.int)) from dd)
      have ey := ints_inv hy2
      subst ey
      have hs3 : SqL K H3 a (r.map V.int) := hs2 (hid_same.trans s1)
      refine ⟨hw _, .ref a, hj _, a, _, rfl, .inl hs3, fun z nz => k z _ nz (Ex.new nz) ?_⟩
      rw [upd_same, er]
    · have eM : (List.range M.length).map (fun i => M.getD i []) = M := by
        have h1 := map_range (fun r : List Int => r) M
        rw [List.map_id'] at h1
        exact h1.symm
      rw [eM] at TV
      exact kq pv asv H3 (e1.trans e3) (TV.old e1 (Same.refl _))
  exact go (fun v H1 => tz D (σ.set i (some v)) H1) k
section
variable {P : Program} {w : World} {K : PySem.W.Frag} {mg : Str → Option Value} {base : Heap} {f f1 f2 f3 f4 f5 f6 f7 f8 f9 : Addr} {fd fd1 fd2 fd3 fd4 fd5 fd6 fd7 fd8 fd9 : FuncData}
def spRight : Sp := fun vs H Q _ => ∃ b : Addr, vs = [.ref b] ∧ Box H b 0 ∧ ∀ H' : Hp, Keep [b] H H' → Q (.bl true) H'
theorem ok_law_right (F : Fun K "_law_right" "_law_right" st_law_right f fd) (B : Bl mg) (d_law_sizes : Df P w K mg base 2 "_law_sizes" st_law_sizes ["_law_box_here", "_law_most"] f1 fd1 spSizes)
    (d_law_table : Df P w K mg base 2 "_law_table" st_law_table ["_law_box_here", "_law_n", "_law_m"] f2 fd2 spTable) (d_law_handed : Df P w K mg base 2 "_law_handed" st_law_handed ["_law_box_here", "_law_table_here"] f3 fd3 spHand) (d_law_some : Df P w K mg base 2 "_law_some" st_law_some ["_law_box_here", "_law_size"] f4 fd4 spSome)
    (d_law_asks : Df P w K mg base 1 "_law_asks" st_law_asks ["_law_table_here"] f5 fd5 spLAsk) (d_law_same : Df P w K mg base 4 "_law_same" st_law_same ["_law_found", "_law_due"] f6 fd6 (spSame 3)) (d_asks_of : Df P w K mg base 1 "asks_of" st_asks_of ["table"] f7 fd7 spAsk)
    (d_turned : Df P w K mg base 1 "turned" st_turned ["table"] f8 fd8 spTurn) (d_left_out : Df P w K mg base 1 "left_out" st_left_out ["table", "inlets", "outlets"] f9 fd9 spLeft) : FnG P w K mg base 5 f fd ["_law_box_here"] spRight := by
  refine fnG F sc_law_right (fun vs H Q E h => ?_) (fun cv A outer s H vs Q E hg hr h => ?_)
  · obtain ⟨b, rfl, _⟩ := h
    rfl
  · obtain ⟨b, rfl, hB, q⟩ := h
    refine ⟨_, (pss_cons (ps_asg (pe_call d_law_sizes.G (hr.mono (by omega)) (by rfl) d_law_sizes.g d_law_sizes.F.kp d_law_sizes.b .nil pass0 (pa_cons (pv 0) (pa_cons pe_int pa_nil))) (pg_tupK K (n := 2) rfl (pgs_cons (pg_name (i := 4) sc_law_right.nd rfl (.inr rfl)) (pgs_cons (pg_name (i := 5) sc_law_right.nd rfl (.inl rfl)) pgs_nil))))
 (pss_cons (ps_set (i := 1) sc_law_right.nd rfl (.inr rfl) (pe_call d_law_table.G (hr.mono (by omega)) (by rfl) d_law_table.g d_law_table.F.kp d_law_table.b .nil pass0 (pa_cons (pv 0) (pa_cons (pv 4) (pa_cons (pv 5) pa_nil)))))
 (pss_cons (ps_for PassesOwn.never rfl (pi_range1 (by rfl) B.range (pa_cons pe_int pa_nil)) (pg_name (i := 2) sc_law_right.nd rfl (.inl rfl))
 (pss_cons (ps_set (i := 6) sc_law_right.nd rfl (.inl rfl) (pe_call d_law_handed.G (hr.mono (by omega)) (by rfl) d_law_handed.g d_law_handed.F.kp d_law_handed.b .nil pass0 (pa_cons (pv 0) (pa_cons (pv 1) pa_nil))))
 (pss_cons (ps_asg (pe_tup (pa_cons (pe_call d_law_some.G (hr.mono (by omega)) (by rfl) d_law_some.g d_law_some.F.kp d_law_some.b .nil pass0 (pa_cons (pv 0) (pa_cons (pv 4) pa_nil))) (pa_cons (pe_call d_law_some.G (hr.mono (by omega)) (by rfl) d_law_some.g d_law_some.F.kp d_law_some.b .nil pass0 (pa_cons (pv 0) (pa_cons (pv 5) pa_nil))) pa_nil))) (pg_tupK K (n := 2) rfl (pgs_cons (pg_name (i := 9) sc_law_right.nd rfl (.inr rfl)) (pgs_cons (pg_name (i := 10) sc_law_right.nd rfl (.inr rfl)) pgs_nil))))
 (pss_cons (ps_par (i := 11) (j := 12) (by rfl) sc_law_right.nd rfl rfl (by decide) rfl rfl (pa_cons (pe_callB (reprK K hg hr.units) (by rfl) B.repr (by decide +kernel) (pa_cons (pe_lst (pa_cons (pv 6) (pa_cons (pv 9) (pa_cons (pv 10) pa_nil)))) pa_nil)) (pa_cons (pe_call d_asks_of.G (hr.mono (by omega)) (by rfl) d_asks_of.g d_asks_of.F.kp d_asks_of.b .nil pass0 (pa_cons (pv 6) pa_nil)) pa_nil)) (by rfl))
 (pss_cons (ps_if (pt_not (pt_val (pe_call d_law_same.G (hr.mono (by omega)) (by rfl) d_law_same.g d_law_same.F.kp d_law_same.b .nil pass0 (pa_cons (pv 12) (pa_cons (pe_call d_law_asks.G (hr.mono (by omega)) (by rfl) d_law_asks.g d_law_asks.F.kp d_law_asks.b .nil pass0 (pa_cons (pv 1) pa_nil)) pa_nil)))))
 (pss_one (ps_ret pe_bl))
 pss_nil)
 (pss_cons (ps_par (i := 13) (j := 14) (by rfl) sc_law_right.nd rfl rfl (by decide) rfl rfl (pa_cons (pe_call d_turned.G (hr.mono (by omega)) (by rfl) d_turned.g d_turned.F.kp d_turned.b .nil pass0 (pa_cons (pv 6) pa_nil)) (pa_cons (pe_call d_left_out.G (hr.mono (by omega)) (by rfl) d_left_out.g d_left_out.F.kp d_left_out.b .nil pass0 (pa_cons (pv 6) (pa_cons (pe_ifExp (pt_cmpR op_eq (pv 2) pe_int (nomark _)) (pe_callTy (tupK K) (by rfl) B.tuple (by decide +kernel) (pa_cons (pv 9) pa_nil)) (pv 9)) (pa_cons (pv 10) pa_nil)))) pa_nil)) (by rfl))
 (pss_cons (ps_if (pt_not (pt_val (pe_call d_law_same.G (hr.mono (by omega)) (by rfl) d_law_same.g d_law_same.F.kp d_law_same.b .nil pass0 (pa_cons (pv 13) (pa_cons (pe_lc (own := [("_law_j", 16)]) rfl sc_law_right.nd (pi_range1 (by rfl) B.range (pa_cons (pv 5) pa_nil)) (blkOk_by (own := [("_law_j", 16)]) (by kernel_rfl)) (fun _ _ _ _ _ => (pg_name (i := 16) sc_law_right.nd rfl (by first | exact Or.inl rfl | exact Or.inr rfl))) (fun _ _ _ _ _ => pts_nil) (fun _ _ _ _ _ => (pe_lc (own := [("_law_i", 15)]) rfl sc_law_right.nd (pi_range1 (by rfl) B.range (pa_cons (pv 4) pa_nil)) (blkOk_by (own := [("_law_i", 15)]) (by kernel_rfl)) (fun _ _ _ _ _ => (pg_name (i := 15) sc_law_right.nd rfl (.inl rfl))) (fun _ _ _ _ _ => pts_nil) (fun _ _ _ _ _ => (pe_ix (ixLK K) (pe_ix (ixLK K) (pv 1) (pv 15) (fun _ _ => rfl)) (pv 16) (fun _ _ => rfl)))))) pa_nil)))))
 (pss_one (ps_ret pe_bl))
 pss_nil)
 (pss_cons (ps_set (i := 7) sc_law_right.nd rfl (.inl rfl) (pe_lst pa_nil))
 (pss_cons (ps_for PassesOwn.never rfl (pi_enumS K (by rfl) B.enumerate (pa_cons (pv 1) pa_nil)) (pg_tupK K (n := 2) rfl (pgs_cons (pg_name (i := 15) sc_law_right.nd rfl (.inr rfl)) (pgs_cons (pg_name (i := 8) sc_law_right.nd rfl (.inl rfl)) pgs_nil)))
 (pss_one (ps_expr (pe_bm PySem.F.plainAttrs_list PySem.F.slot_list_append PySem.F.type_list_append mt_append (pv 7) (pa_cons (pe_lc (own := [("_law_j", 16), ("_law_bit", 17)]) rfl sc_law_right.nd (pi_enumS K (by rfl) B.enumerate (pa_cons (pv 8) pa_nil)) (blkOk_by (own := [("_law_j", 16), ("_law_bit", 17)]) (by kernel_rfl)) (fun _ _ _ _ _ => (pg_tupK K (n := 2) rfl (pgs_cons (pg_name (i := 16) sc_law_right.nd rfl (.inl rfl)) (pgs_cons (pg_name (i := 17) sc_law_right.nd rfl (.inl rfl)) pgs_nil)))) (fun _ _ _ _ _ => pts_nil) (fun _ _ _ _ _ => (pe_op op_mul (pv 17) (pe_callTy call_int1 (by rfl) B.int (by decide +kernel) (pa_cons (pe_and (pe_cmpR (notInK K) (pv 15) (pv 9) (by with_unfolding_all rfl)) (pe_one (pe_cmpR (notInK K) (pv 16) (pv 10) (by with_unfolding_all rfl)))) pa_nil))))) pa_nil)))))
 (pss_cons (ps_if (PW.pt (pw_or (pt_not (pt_val (pe_call d_law_same.G (hr.mono (by omega)) (by rfl) d_law_same.g d_law_same.F.kp d_law_same.b .nil pass0 (pa_cons (pv 14) (pa_cons (pv 7) pa_nil))))) (pw_or1 (pt_not (pt_val (pe_call d_law_same.G (hr.mono (by omega)) (by rfl) d_law_same.g d_law_same.F.kp d_law_same.b .nil pass0 (pa_cons (pe_call d_turned.G (hr.mono (by omega)) (by rfl) d_turned.g d_turned.F.kp d_turned.b .nil pass0 (pa_cons (pv 13) pa_nil)) (pa_cons (pv 1) pa_nil))))))))
 (pss_one (ps_ret pe_bl))
 pss_nil)
 (pss_cons (ps_expr (pe_bm PySem.F.plainAttrs_list PySem.F.slot_list_append PySem.F.type_list_append mt_append (pv 12) (pa_cons (pe_tup (pa_cons pe_int (pa_cons pe_int pa_nil))) pa_nil)))
 (pss_cons (ps_for PassesOwn.never rfl (pi_listK K (pe_op op_cat (pv 13) (pv 14))) (pg_name (i := 8) sc_law_right.nd rfl (.inl rfl))
 (pss_one (ps_expr (pe_bm PySem.F.plainAttrs_list PySem.F.slot_list_append PySem.F.type_list_append mt_append (pv 8) (pa_cons pe_int pa_nil)))))
 (pss_cons (ps_expr (pe_bm0 PySem.F.plainAttrs_list PySem.F.slot_list_reverse PySem.F.type_list_reverse mt_reverse (pv 13)))
 (pss_cons (ps_expr (pe_bm0 PySem.F.plainAttrs_list PySem.F.slot_list_clear PySem.F.type_list_clear mt_clear (pv 14)))
 (pss_cons (ps_if (PW.pt (pw_or (pt_cmpR op_ne (pe_callB (reprK K hg hr.units) (by rfl) B.repr (by decide +kernel) (pa_cons (pe_lst (pa_cons (pv 6) (pa_cons (pv 9) (pa_cons (pv 10) pa_nil)))) pa_nil)) (pv 11) (nomark _)) (pw_or1 (pt_not (pt_val (pe_call d_law_same.G (hr.mono (by omega)) (by rfl) d_law_same.g d_law_same.F.kp d_law_same.b .nil pass0 (pa_cons (pe_call d_asks_of.G (hr.mono (by omega)) (by rfl) d_asks_of.g d_asks_of.F.kp d_asks_of.b .nil pass0 (pa_cons (pv 6) pa_nil)) (pa_cons (pe_call d_law_asks.G (hr.mono (by omega)) (by rfl) d_law_asks.g d_law_asks.F.kp d_law_asks.b .nil pass0 (pa_cons (pv 1) pa_nil)) pa_nil))))))))
 (pss_one (ps_ret pe_bl))
 pss_nil)
 (pss_one (ps_if (PW.pt (pw_or (pt_not (pt_val (pe_call d_law_same.G (hr.mono (by omega)) (by rfl) d_law_same.g d_law_same.F.kp d_law_same.b .nil pass0 (pa_cons (pe_call d_left_out.G (hr.mono (by omega)) (by rfl) d_left_out.g d_left_out.F.kp d_left_out.b .nil pass0 (pa_cons (pv 6) (pa_cons (pv 9) (pa_cons (pv 10) pa_nil)))) (pa_cons (pv 7) pa_nil))))) (pw_or1 (pt_not (pt_val (pe_call d_law_same.G (hr.mono (by omega)) (by rfl) d_law_same.g d_law_same.F.kp d_law_same.b .nil pass0 (pa_cons (pe_call d_left_out.G (hr.mono (by omega)) (by rfl) d_left_out.g d_left_out.F.kp d_left_out.b .nil pass0 (pa_cons (pv 6) (pa_cons (pe_lst pa_nil) (pa_cons (pe_tup pa_nil) pa_nil)))) (pa_cons (pv 1) pa_nil))))))))
 (pss_one (ps_ret pe_bl))
 pss_nil)))))))))))))))))
 (pss_cons (ps_setLc (i := 3) (own := [("_law_row", 8)]) rfl sc_law_right.nd rfl rfl (sw_true rfl rfl rfl (by decide +kernel)) (pi_listK K (pv 1)) (blkOk_by (own := [("_law_row", 8)]) (by kernel_rfl)) (fun _ _ _ _ _ => (pg_name (i := 8) sc_law_right.nd rfl (.inl rfl))) (fun _ _ _ _ _ => pts_nil) (fun _ _ _ _ _ => (pe_callTy (listK K) (by rfl) B.list (by decide +kernel) (pa_cons (pv 8) pa_nil))))
 (pss_cons (ps_asg (pe_op op_sub pe_int (pe_ix (ixLK K) (pe_ix (ixLK K) (pv 3) (pe_un un_neg pe_int) (fun _ _ => rfl)) pe_int (fun _ _ => rfl))) (pg_sub (pe_ix (ixLK K) (pv 3) (pe_un un_neg pe_int) (fun _ _ => rfl)) pe_int set_list))
 (pss_one (ps_ret (pe_and (pe_call d_law_same.G (hr.mono (by omega)) (by rfl) d_law_same.g d_law_same.F.kp d_law_same.b .nil pass0 (pa_cons (pe_call d_asks_of.G (hr.mono (by omega)) (by rfl) d_asks_of.g d_asks_of.F.kp d_asks_of.b .nil pass0 (pa_cons (pv 3) pa_nil)) (pa_cons (pe_call d_law_asks.G (hr.mono (by omega)) (by rfl) d_law_asks.g d_law_asks.F.kp d_law_asks.b .nil pass0 (pa_cons (pv 3) pa_nil)) pa_nil))) (pe_one (pe_call d_law_same.G (hr.mono (by omega)) (by rfl) d_law_same.g d_law_same.F.kp d_law_same.b .nil pass0 (pa_cons (pe_call d_turned.G (hr.mono (by omega)) (by rfl) d_turned.g d_turned.F.kp d_turned.b .nil pass0 (pa_cons (pe_call d_turned.G (hr.mono (by omega)) (by rfl) d_turned.g d_turned.F.kp d_turned.b .nil pass0 (pa_cons (pv 3) pa_nil)) pa_nil)) (pa_cons (pv 3) pa_nil)))))))))))), ?_⟩
    -- sizes, the table
    refine ⟨.ref b, rfl, b, 12, 0, rfl, hB, by decide, by decide, by decide, fun t n m H1 n1 n2 m1 m2 nt ht B1 k1 => ?_⟩
    refine ⟨t, _, rfl, SqT.of ht, rfl, _, _, rfl, _, _, rfl, rfl, ?_⟩
    refine ⟨.ref b, rfl, .int n, rfl, .int m, rfl, b, n, m, 5, [b], rfl, B1, by decide, by omega, by omega, List.mem_singleton.mpr rfl, (fun x hx => by rw [List.mem_singleton.mp hx]; exact B1.is), fun T d H2 hd nT dT B2 k2 => ?_⟩
    have hmn : m * n ≤ 12 * 12 := Nat.mul_le_mul m2 n2
    have B2 : Box H2 b 200 := B2.le (by omega)
    have k02 := k1.trans k2
    obtain ⟨M, rfl, tM⟩ := tab_of hd
    have sM := tM.small n2 m2
    have hne := tM.ne n1
    have lvB : ∀ {H : Hp} {N : Nat}, Box H b N → Live [b] H := fun hB x hx => by rw [List.mem_singleton.mp hx]; exact hB.is
    have hbb : b ∈ [b] := List.mem_singleton.mpr rfl
    refine q_forR1 (ea_cons ev_c ea_nil) ⟨by decide, by decide⟩ (fun i σ' H' => ∃ y2 y6 y7 y8 y9 y10 y11 y12 y13 y14 y15 : Option V, σ' = [some (.ref b), some (.ref T), y2, none, some (.int (n : Int)), some (.int (m : Int)), y6, y7, y8, y9, y10, y11, y12, y13, y14, y15, none, none] ∧ Box H' b (200 + 100 * i) ∧ Keep [b] H H' ∧ Dq (hid [b] H') (.ref T) (tabD true true M))
      (fun H3 e3 => ⟨none, none, none, none, none, none, none, none, none, none, none, rfl, B2.mono e3, k02.ext e3, dT.mono (same_hid e3)⟩) (fun i σ' H' hi hP => ?_) (fun σ' H' hP => ?_)
    · obtain ⟨y2, y6, y7, y8, y9, y10, y11, y12, y13, y14, y15, rfl, B', k', dT'⟩ := hP
      -- handed, inlets, outlets
      refine ⟨.ref b, rfl, .ref T, rfl, b, [b], 200 + 100 * i, .ref T, M, rfl, B', by omega, hbb, lvB B', dT', sM, fun vh kd1 kd2 H3 dh3 B3 k3 => ?_⟩
      refine ⟨.ref b, rfl, .int n, rfl, b, _, n, rfl, B3, by omega, n1, n2, fun pI I H4 npI hI lenI fI B4 k4 => ⟨.ref b, rfl, .int m, rfl, b, _, m, rfl, B4, by omega, m1, m2, fun pO O H5 npO hO lenO fO B5 k5 => ⟨by show 2 ≤ sizeLine; decide, fun t nt => ?_⟩⟩⟩
      refine ⟨t, _, rfl, SqT.of upd_same, rfl, _, _, rfl, _, _, rfl, rfl, ?_⟩
      have B6 : Box (upd H5 t (.tup [.ref pI, .ref pO])) b (200 + 100 * i + 33) := (B5.upd nt).le (by omega)
      have s56 : Same H5 (upd H5 t (.tup [.ref pI, .ref pO])) := Ex.new nt
      have k36 : Keep [b] H3 (upd H5 t (.tup [.ref pI, .ref pO])) := (k4.trans k5).ext s56
      have dT6 := (k3.trans k36).dq dT'
      have dh6 := k36.dq dh3
      have dI6 : Dq (hid [b] (upd H5 t (.tup [.ref pI, .ref pO]))) (.ref pI) (rowD true I) := .lst (by rw [hid_out (B3.out npI)]; exact s56 _ _ (k5.get (B3.out npI) hI)) (DqAll.ints I)
      have dO6 : Dq (hid [b] (upd H5 t (.tup [.ref pI, .ref pO]))) (.ref pO) (rowD true O) := .lst (by rw [hid_out (B4.out npO)]; exact s56 _ _ hO) (DqAll.ints O)
      have k06 : Keep [b] H (upd H5 t (.tup [.ref pI, .ref pO])) := k'.trans (k3.trans k36)
      generalize upd H5 t (.tup [.ref pI, .ref pO]) = H6 at B6 dT6 dh6 dI6 dO6 k06 ⊢
      clear dT' dh3 hI hO npI npO k3 k4 k5 s56 k36 nt B3 B4 B5
      -- kept, first
      have shn : Shn 4000 3 (.list [tabD kd1 kd2 M, rowD true I, rowD true O]) := by
        have h1 : Shn 1100 2 (tabD kd1 kd2 M) := shn_tab tM.bit sM
        have h2 : ∀ {r : List Int}, r.length ≤ 24 → Few r → Shn 1100 2 (rowD true r) := fun hl hf => by
          have := shn_row (kd := true) (L := 24) hf hl
          exact ⟨this.1, Nat.le_trans this.2.1 (by decide), Nat.le_trans this.2.2 (by decide)⟩
        have h3 := shn_seq (kd := true) (ds := [tabD kd1 kd2 M, rowD true I, rowD true O]) (R := 1100) (k := 2) (L := 3) (fun d hd => by
          rcases List.mem_cons.mp hd with rfl | hd
          · exact h1
          · rcases List.mem_cons.mp hd with rfl | hd
            · exact h2 lenI fI
            · rw [List.mem_singleton.mp hd]; exact h2 lenO fO) (by show 3 ≤ 3; decide)
        exact ⟨h3.1, h3.2.1, Nat.le_trans h3.2.2 (by decide)⟩
      have rep : ∀ {σ : L2.St} {H : Hp}, σ[6]? = some (some vh) → σ[9]? = some (some (.ref pI)) → σ[10]? = some (some (.ref pO)) → Live [b] H → Dq (hid [b] H) vh (tabD kd1 kd2 M) → Dq (hid [b] H) (.ref pI) (rowD true I) → Dq (hid [b] H) (.ref pO) (rowD true O) →
          Ev (tCB (rReprD K) (tCons (tLst (tCons (tVar 6) (tCons (tVar 9) (tCons (tVar 10) tNil)))) tNil)) σ H (.str (PyData.list [tabD kd1 kd2 M, rowD true I, rowD true O]).shown) := fun s6 s9 s10 l d1 d2 d3 =>
        ev_reprQ (bs := [b]) (eq_lst l (qa_cons (eq_var s6 d1) (qa_cons (eq_var s9 d2) (qa_cons (eq_var s10 d3) qa_nil))) (by show 3 ≤ _; decide)) shn.1 (Nat.le_trans shn.2.1 (by decide)) (Nat.le_trans shn.2.2 (by decide))
      generalize (PyData.list [tabD kd1 kd2 M, rowD true I, rowD true O]).shown = shown at rep
      refine rep rfl rfl rfl (lvB B6) dh6 dI6 dO6 H6 (Ex.refl _) _ fun H7 e7 => ⟨vh, rfl, [b], vh, kd1, kd2, M, rfl, (lvB B6).mono e7, dh6.mono (same_hid e7), sM, fun p1 xs1 H8 np1 e8 hp1 dx1 => ⟨_, _, rfl, ?_⟩⟩
      have B7 := B6.mono e7
      have B8 := B7.mono e8
      have dF8 : Dq (hid [b] H8) (.ref p1) (.list (askL M)) := .lst (by rw [hid_out (B7.out np1)]; exact hp1) (dx1.mono (hid_less fun y hy => List.mem_cons_of_mem _ hy))
      have s68 := e7.trans e8
      refine q_when (b := false) (et_is (et_not (et_B (ev_same (bs := [b]) (eq_var rfl dF8) (eq_lask (lvB B8) (eq_var rfl (dT6.mono (same_hid s68))) sM tM.bit) (okn_ask sM)))) rfl) (fun z => nomatch z) fun _ H9 e9 => ?_
      have B9 := B8.mono e9
      have s79 := e8.trans e9
      have s69 := e7.trans s79
      -- what was here ahead of first is apart from it
      have g1 : Same (hid [b] H7) (hid ([p1] ++ [b]) H9) := hid_grow (fun a ha => by rw [List.mem_singleton.mp ha]; exact np1) s79
      have dT9 := (dT6.mono (same_hid e7)).mono g1
      have dh9 := (dh6.mono (same_hid e7)).mono g1
      have dI9 := (dI6.mono (same_hid e7)).mono g1
      have dO9 := (dO6.mono (same_hid e7)).mono g1
      have hp9 := e9 _ _ hp1
      have k07 : Keep [b] H H7 := k06.ext e7
      have f1 : H p1 = none := k07.free B7 np1
      have k09 : Keep [b] H H9 := k06.ext s69
      -- turned, left out
      refine ⟨vh, rfl, [p1] ++ [b], vh, kd1, kd2, m, M, rfl, dh9, hne, by rw [tM.len]; exact n2, m2, tM.row, fun pf asf H10 e10 TF => ?_⟩
      have lv9 : Live ([p1] ++ [b]) H9 := (lvB B9).cons hp9
      have fF : ∀ a ∈ pf :: asf, H9 a = none := fun a ha => by
        rcases List.mem_cons.mp ha with rfl | ha
        · exact TF.np
        · exact (TF.get ha).2.1
      have g2 : Same (hid ([p1] ++ [b]) H9) (hid ((pf :: asf) ++ ([p1] ++ [b])) H10) := hid_grow fF e10
      have lv10 : Live ((pf :: asf) ++ ([p1] ++ [b])) H10 := fun y hy => by
        rcases List.mem_append.mp hy with hy | hy
        · rcases List.mem_cons.mp hy with rfl | hy
          · rw [TF.hp]; exact fun z => nomatch z
          · obtain ⟨_, _, r, _, h9⟩ := TF.get hy
            rw [h9]; exact fun z => nomatch z
        · exact (lv9.mono e10) y hy
      have dT10 := dT9.mono g2
      have dh10 := dh9.mono g2
      have dI10 := dI9.mono g2
      have dO10 := dO9.mono g2
      generalize hbs : (pf :: asf) ++ ([p1] ++ [b]) = bs2 at lv10 dT10 dh10 dI10 dO10
      have hbs2 : ∀ y ∈ [b], y ∈ bs2 := fun y hy => by rw [← hbs]; exact List.mem_append_right _ (List.mem_append_right _ hy)
      refine ⟨vh, rfl, ?_⟩
      refine eq_if (bs := bs2) (d := rowD (!decide (V.int (i : Int) = V.int 1)) I) (c := decide (V.int (i : Int) = V.int 1)) (et_test (ev_op (ev_var rfl) ev_c (rv_eq rfl))) (fun h => ?_) (fun h => ?_) H10 (Same.refl _) _ fun vi H11 e11 dvi => ⟨.ref pO, rfl, bs2, vh, vi, .ref pO, kd1, kd2, _, true, M, I, O, rfl, lv10.mono e11, dh10.mono (same_hid e11), dvi, dO10.mono (same_hid e11), sM, fun po aso H12 e12 TO => ⟨_, _, rfl, ?_⟩⟩
      · rw [h]
        exact eq_tupleL lv10 (eq_var rfl dI10)
      · rw [h]
        exact eq_var rfl dI10
      have s1012 := e11.trans e12
      have B12 := B9.mono (e10.trans s1012)
      have fO' : ∀ a ∈ po :: aso, H11 a = none := fun a ha => by
        rcases List.mem_cons.mp ha with rfl | ha
        · exact TO.np
        · exact (TO.get ha).2.1
      have g3 : Same (hid bs2 H11) (hid ((po :: aso) ++ bs2) H12) := hid_grow fO' e12
      have lv12 : Live ((po :: aso) ++ bs2) H12 := fun y hy => by
        rcases List.mem_append.mp hy with hy | hy
        · rcases List.mem_cons.mp hy with rfl | hy
          · rw [TO.hp]; exact fun z => nomatch z
          · obtain ⟨_, _, r, _, h9⟩ := TO.get hy
            rw [h9]; exact fun z => nomatch z
        · exact (lv10.mono s1012) y hy
      have dT12 := (dT10.mono (same_hid e11)).mono g3
      have dh12 := (dh10.mono (same_hid e11)).mono g3
      have dI12 := (dI10.mono (same_hid e11)).mono g3
      have dO12 := (dO10.mono (same_hid e11)).mono g3
      generalize hbs3 : (po :: aso) ++ bs2 = bs3 at lv12 dT12 dh12 dI12 dO12
      have up3 : ∀ y ∈ [b], y ∈ bs3 := fun y hy => by rw [← hbs3]; exact List.mem_append_right _ (hbs2 y hy)
      have low : ∀ {H : Hp} {v : V} {d : PyData}, Dq (hid bs3 H) v d → Dq (hid [b] H) v d := fun h => h.mono (hid_less up3)
      have k012 : Keep [b] H H12 := k09.ext (e10.trans s1012)
      have dFo : Dq (hid [b] H12) (.ref pf) (tabD true true (turnM m M)) := (TF.dq (lvB B9)).mono (same_hid s1012)
      have dOt : Dq (hid [b] H12) (.ref po) (tabD true true (leftM I O M)) := (TO.dq (lvB (B9.mono (e10.trans e11))))
      have lenL : (leftM I O M).length = n := by unfold leftM; rw [List.length_mapIdx, tM.len]
      have rowL : ∀ r ∈ leftM I O M, r.length ≤ 12 := fun r hr => by
        unfold leftM at hr
        obtain ⟨k, hk, rfl⟩ := List.mem_mapIdx.mp hr
        unfold leftR
        rw [List.length_mapIdx]
        exact sM.2 _ (List.getElem_mem hk)
      -- found is the table's other way
      refine q_when (b := false) (et_is (et_not (et_B (ev_same (bs := [b]) (eq_var rfl dFo) ?look (okn_tab _ _ (by rw [turn_len]; omega) fun r hr => by rw [tM.turn_row r hr]; omega)))) rfl) (fun z => nomatch z) fun _ H13 e13 => ?_
      case look =>
        show EvQ [b] _ _ _ (.list ((turnM m M).map (rowD true)))
        rw [← tM.turn_data]
        refine eq_lcR (fun j => PyData.list ((List.range n).map fun i => PyData.int ((M.getD i []).getD j 0))) (lvB B12) (ev_var rfl) (by omega) (fun _ => rfl) fun cs j H1 s1 hc lc up hj => ?_
        refine eq_lcR (fun i => PyData.int ((M.getD i []).getD j 0)) lc (ev_var rfl) (by omega) (fun _ => rfl) fun cs2 i H2 s2 hc2 lc2 up2 hi => ?_
        have hi' : i < M.length := by rw [tM.len]; exact hi
        have er : M.getD i [] = M[i] := by rw [List.getD_eq_getElem?_getD, List.getElem?_eq_getElem hi']; rfl
        have hj' : j < (M.getD i []).length := by rw [er, tM.row _ (List.getElem_mem hi')]; exact hj
        refine eq_ix (ds := (M.getD i []).map PyData.int) (eq_ix (ds := M.map (rowD true)) (d := rowD true (M.getD i [])) (eq_var rfl (up2 _ _ (up _ _ (low dT12)))) (ev_var rfl) (atI_nat ?_)) (ev_var rfl) (atI_nat ?_)
        · rw [List.getElem?_map, List.getElem?_eq_getElem hi', er]; rfl
        · exact int_at hj'
      have lv13 := lv12.mono e13
      have dT13 : Dq (hid bs3 H13) (.ref T) (seqD true (M.map (rowD true))) := dT12.mono (same_hid e13)
      have dI13 := dI12.mono (same_hid (bs := bs3) e13)
      have dO13 := dO12.mono (same_hid (bs := bs3) e13)
      obtain ⟨aT, xT, eT, hsT, hxT⟩ := dT13.seq_inv
      have eT' : T = aT := V.ref.inj eT
      subst eT'
      have lenT : xT.length = M.length := by rw [hxT.len, List.length_map]
      -- due
      refine q_asgN (bs := bs3) (en_lst qa_nil (Nat.zero_le _)) fun pd xd H14 npd e14 hpd dxd => ?_
      cases dxd
      have lstM : ∀ {k : Nat} {r : List Int}, M[k]? = some r → (leftM I O M)[k]? = some (leftR I O k r) := fun h => by unfold leftM; rw [List.getElem?_mapIdx, h]; rfl
      refine q_forK (K := K) (kd := true) (a := T) (xs := xT) (ev_var rfl) (fun H15 e15 => hsT (hid_same.trans (e14.trans e15))) (fun k σ' H' => ∃ (y8 y15 : Option V) (xs : List V), σ' = [some (.ref b), some (.ref T), some (.int (i : Int)), none, some (.int (n : Int)), some (.int (m : Int)), some vh, some (.ref pd), y8, some (.ref pI), some (.ref pO), some (.str shown), some (.ref p1), some (.ref pf), some (.ref po), y15, none, none] ∧ Same H13 H' ∧ H' pd = some (.lst xs) ∧ DqAll (hid (pd :: bs3) H') xs (((leftM I O M).take k).map (rowD true)))
        (fun H15 e15 => ⟨_, _, [], rfl, e14.trans e15, e15 _ _ hpd, .nil⟩) (fun k σ' H' _ hP => ?_) (fun k x T2 σ' H' hxk hP hT2 => ?_) (fun σ' H17 hP => ?_)
      · obtain ⟨_, _, _, _, sm, _⟩ := hP
        exact hsT (hid_same.trans sm)
      · obtain ⟨y8', y15', xs, rfl, sm, hpd', dxs⟩ := hP
        obtain ⟨d, gd, dd⟩ := hxT.get hxk
        rw [List.getElem?_map, Option.map_eq_some_iff] at gd
        obtain ⟨r, gr, rfl⟩ := gd
        have sT2 : Same H' (upd H' T2 (.tup [.int (k : Nat), x])) := Ex.new hT2
        have sm2 := sm.trans sT2
        have hpd2 := sT2 _ _ hpd'
        have gg : Same (hid bs3 H13) (hid (pd :: bs3) (upd H' T2 (.tup [.int (k : Nat), x]))) := hid_grow (cs := [pd]) (fun a ha => by rw [List.mem_singleton.mp ha]; exact npd) sm2
        have lvp : Live (pd :: bs3) (upd H' T2 (.tup [.int (k : Nat), x])) := (lv13.mono sm2).cons hpd2
        have dxs2 := dxs.mono (same_hid (bs := pd :: bs3) sT2)
        generalize upd H' T2 (.tup [.int (k : Nat), x]) = H15 at sm2 hpd2 gg lvp dxs2
        have ddk : Dq (hid (pd :: bs3) H15) x (seqD true (r.map PyData.int)) := dd.mono gg
        refine ⟨.ref pd, rfl, .inl ⟨rfl, _, SqL.of hpd2⟩, ?_⟩
        refine en_lcE (K := K) (bs := pd :: bs3) (kd := true) (ds := r.map PyData.int) (fun j d => dueD (outB I O k j) d) lvp (eq_var rfl ddk) (by rw [List.length_map]; have := sM.2 r (List.mem_of_getElem? gr); omega) (fun _ _ => rfl) (fun cs x j d H1 s1 hc lc gd hd2 => ?_) _ (Same.refl _) _ fun q2 ys H16 nq e16 hq hy => ?_
        · rw [List.getElem?_map, Option.map_eq_some_iff] at gd
          obtain ⟨z, _, rfl⟩ := gd
          rw [hd2.int_inv]
          refine eq_int (ev_is (ev_op (ev_var rfl) (ev_cb1 (ev_andV (ev_inQ (bs := bs3) true (ev_var rfl) (eq_var rfl (dI13.mono (same_hid (sm2.trans s1))))) fun _ => ev_inQ (bs := bs3) true (ev_var rfl) (eq_var rfl (dO13.mono (same_hid (sm2.trans s1))))) fun H1 Q q => .inr ⟨_, rfl, q⟩) (rv_I (.inr ?_))) (congrArg V.int (not_and (inV (.int (k : Nat)) (I.map V.int)) (inV (.int (j : Nat)) (O.map V.int)) z)))
          have hbit : ∀ x : Bool, (-2 ^ 64 : Int) < (if x = true then 1 else 0) ∧ (if x = true then 1 else 0) < (2 ^ 64 : Int) := fun x => by cases x <;> decide
          exact hbit _
        · rw [due_row] at hy
          have e6 := ints_inv hy
          subst e6
          have hpd16 := e16 _ _ hpd2
          have nqp : q2 ≠ pd := fun z => by rw [z, hpd2] at nq; cases nq
          have kk : Keep (pd :: bs3) H16 (upd H16 pd (.lst (xs ++ [.ref q2]))) := (Keep.refl _ _).put (List.mem_cons_self ..)
          refine ⟨pd, xs, .ref q2, rfl, rfl, hpd16, ?_, _, _, xs ++ [.ref q2], rfl, fun c o z => ?_, upd_same, ?_⟩
          · have := dxs.len
            rw [List.length_map, List.length_take] at this
            exact Nat.lt_of_le_of_lt (show xs.length ≤ 40000 by have := sM.1; omega) (by decide)
          · rw [upd_ne (ne_of_none z npd)]
            exact e16 _ _ (sm2 _ _ z)
          · rw [List.take_add_one, lstM gr, List.map_append]
            refine ((dxs2.mono (same_hid e16)).mono kk).append (.cons ?_ .nil)
            exact .lst (by rw [hid_out (lvp.out nq), upd_ne nqp]; exact hq) (DqAll.ints _)
      obtain ⟨y8', y15', xsd, rfl, sm, hpd', dxs⟩ := hP
      rw [List.take_of_length_le (by rw [lenL, lenT, tM.len]; exact Nat.le_refl _)] at dxs
      have dDu : Dq (hid bs3 H17) (.ref pd) (tabD true true (leftM I O M)) := .lst (by rw [hid_out (lv13.out npd)]; exact hpd') (dxs.mono (hid_less fun y hy => List.mem_cons_of_mem _ hy))
      have s1217 := e13.trans sm
      have B17 := B12.mono s1217
      have dT17 : Dq (hid bs3 H17) (.ref T) (tabD true true M) := dT12.mono (same_hid s1217)
      have oknL : Okn 3 (tabD true true (leftM I O M)) := okn_tab _ _ (by rw [lenL]; omega) fun r hr => by have := rowL r hr; omega
      have oknM : Okn 3 (tabD true true M) := okn_tab _ _ (by have := sM.1; omega) fun r hr => by have := sM.2 r hr; omega
      refine q_when (b := false) (et_is (et_or (et_not (et_B (ev_same (bs := [b]) (eq_var rfl (dOt.mono (same_hid s1217))) (eq_var rfl (low dDu)) oknL))) fun _ => et_not (et_B (ev_same (bs := [b]) (eq_turn2 tM n1 n2 m1 m2 (lvB B17) (eq_var rfl (dFo.mono (same_hid s1217)))) (eq_var rfl (low dT17)) oknM))) rfl) (fun z => nomatch z) fun _ H18 e18 => ?_
      have s1218 := s1217.trans e18
      have s918 := (e10.trans s1012).trans s1218
      have B18 := B12.mono s1218
      have k018 : Keep [b] H H18 := k012.ext s1218
      have hp18 := s918 _ _ hp9
      have hf18 : H18 pf = some (.lst (asf.map V.ref)) := (s1012.trans s1218) _ _ TF.hp
      have ho18 : H18 po = some (.lst (aso.map V.ref)) := s1218 _ _ TO.hp
      have in1 : p1 ∈ bs3 := by rw [← hbs3, ← hbs]; exact List.mem_append_right _ (List.mem_append_right _ (List.mem_append_left _ (List.mem_singleton.mpr rfl)))
      have inF : ∀ a ∈ pf :: asf, a ∈ bs3 := fun a ha => by rw [← hbs3, ← hbs]; exact List.mem_append_right _ (List.mem_append_left _ ha)
      have inO : ∀ a ∈ po :: aso, a ∈ bs3 := fun a ha => by rw [← hbs3]; exact List.mem_append_left _ ha
      have B11 := B9.mono (e10.trans e11)
      have hf11 := e11 _ _ TF.hp
      have frF : ∀ a ∈ pf :: asf, H a = none := fun a ha => k09.free B9 (fF a ha)
      have frO : ∀ a ∈ po :: aso, H a = none := fun a ha => (k09.ext (e10.trans e11)).free B11 (fO' a ha)
      have pfp : pf ≠ p1 := fun z => by have := fF pf (List.mem_cons_self ..); rw [z, hp9] at this; cases this
      have pop : po ≠ p1 := fun z => by have := fO' po (List.mem_cons_self ..); rw [z, (e10.trans e11) _ _ hp9] at this; cases this
      have pof : po ≠ pf := fun z => by have := fO' po (List.mem_cons_self ..); rw [z, hf11] at this; cases this
      have p1b : p1 ≠ b := B7.ne np1
      have pfb : pf ≠ b := B9.ne (fF pf (List.mem_cons_self ..))
      have pob : po ≠ b := B11.ne (fO' po (List.mem_cons_self ..))
      have rows : ∀ a ∈ asf ++ aso, a ≠ p1 ∧ a ≠ pf ∧ a ≠ po ∧ a ≠ b ∧ a ∈ bs3 ∧ H a = none ∧ ∃ xs, H18 a = some (.lst xs) ∧ xs.length ≤ 12 := fun a ha => by
        rcases List.mem_append.mp ha with ha | ha
        · have ha' := List.mem_cons_of_mem pf ha
          obtain ⟨q1, q2, r, hr, q3⟩ := TF.get ha
          refine ⟨fun z => ?_, q1, fun z => ?_, B9.ne q2, inF a ha', frF a ha', _, (s1012.trans s1218) _ _ q3, ?_⟩
          · rw [z, hp9] at q2; cases q2
          · have := fO' po (List.mem_cons_self ..)
            rw [← z, e11 _ _ q3] at this; cases this
          · rw [List.length_map, tM.turn_row r hr]; exact n2
        · have ha' := List.mem_cons_of_mem po ha
          obtain ⟨q1, q2, r, hr, q3⟩ := TO.get ha
          refine ⟨fun z => ?_, fun z => ?_, q1, B11.ne q2, inO a ha', frO a ha', _, s1218 _ _ q3, ?_⟩
          · rw [z, (e10.trans e11) _ _ hp9] at q2; cases q2
          · rw [z, hf11] at q2; cases q2
          · rw [List.length_map]; exact rowL r hr
      have lens : (asf ++ aso).length ≤ 24 := by
        rw [List.length_append, TF.len, TO.len, turn_len, lenL]
        omega
      -- first, found and other are changed
      refine q_appU (l := p1) (xs := xs1) hp18 (ev_var rfl) (eu_tup (ea_cons ev_c (ea_cons ev_c ea_nil)) (by show 2 ≤ _; decide)) (by have h1 := dx1.len; have h2 := (okn_ask sM).1; omega) fun pt H19 npt e19 hpt => ?_
      have kA : Keep bs3 H18 (upd H19 p1 (.lst (xs1 ++ [.ref pt]))) := (Keep.of e19).put in1
      have BA : Box (upd H19 p1 (.lst (xs1 ++ [.ref pt]))) b (200 + 100 * i + 33) := (B18.mono e19).put p1b
      have k0A : Keep [b] H (upd H19 p1 (.lst (xs1 ++ [.ref pt]))) := (k018.ext e19).putNew f1
      have hfA : (upd H19 p1 (.lst (xs1 ++ [.ref pt]))) pf = some (.lst (asf.map V.ref)) := by rw [upd_ne pfp]; exact e19 _ _ hf18
      have hoA : (upd H19 p1 (.lst (xs1 ++ [.ref pt]))) po = some (.lst (aso.map V.ref)) := by rw [upd_ne pop]; exact e19 _ _ ho18
      have rowsA : ∀ a ∈ asf ++ aso, ∃ xs, (upd H19 p1 (.lst (xs1 ++ [.ref pt]))) a = some (.lst xs) ∧ xs.length ≤ 12 := fun a ha => by
        obtain ⟨q1, _, _, _, _, _, xs, h1, h2⟩ := rows a ha
        exact ⟨xs, by rw [upd_ne q1]; exact e19 _ _ h1, h2⟩
      generalize upd H19 p1 (.lst (xs1 ++ [.ref pt])) = H20 at kA BA k0A hfA hoA rowsA
      refine q_forNL (K := K) (xs := (asf ++ aso).map V.ref) (fun H1 e Q q => ⟨.ref pf, rfl, .ref po, rfl, pf, po, asf.map V.ref, aso.map V.ref, rfl, rfl, e _ _ hfA, e _ _ hoA, ?_, fun z nz => q z _ nz (Ex.new nz) (by rw [upd_same, List.map_append])⟩)
        (fun p k σ' H' => ∃ y8 : Option V, σ' = [some (.ref b), some (.ref T), some (.int (i : Int)), none, some (.int (n : Int)), some (.int (m : Int)), some vh, some (.ref pd), y8, some (.ref pI), some (.ref pO), some (.str shown), some (.ref p1), some (.ref pf), some (.ref po), y15', none, none] ∧ H' p = some (.lst ((asf ++ aso).map V.ref)) ∧ (∀ a ∈ asf ++ aso, a ≠ p ∧ ∃ xs, H' a = some (.lst xs) ∧ xs.length ≤ 12 + k) ∧ H' pf = some (.lst (asf.map V.ref)) ∧ H' po = some (.lst (aso.map V.ref)) ∧ Keep bs3 H18 H' ∧ Box H' b (200 + 100 * i + 33) ∧ Keep [b] H H')
        (fun p H1 np e1 hp => ⟨_, rfl, hp, fun a ha => ?_, e1 _ _ hfA, e1 _ _ hoA, kA.ext e1, BA.mono e1, k0A.ext e1⟩) (fun p k σ' H' _ hP => ?_) (fun p k x σ' H' hx hP => ?_) (fun p σ' H' hP => ?_)
      · rw [List.length_map, List.length_map, ← List.length_append]
        exact Nat.le_trans lens (by decide)
      · obtain ⟨xs, h1, h2⟩ := rowsA a ha
        exact ⟨ne_of_none h1 np, xs, e1 _ _ h1, by omega⟩
      · obtain ⟨_, _, hp, _⟩ := hP
        exact SqL.of hp
      · obtain ⟨y8'', rfl, hp, hrow, hf, ho, kk, BB, k0⟩ := hP
        rw [List.getElem?_map, Option.map_eq_some_iff] at hx
        obtain ⟨a, ga, rfl⟩ := hx
        have ha := List.mem_of_getElem? ga
        have hk24 := (List.getElem?_eq_some_iff.mp ga).1
        obtain ⟨q1, q2, q3, q4, q5, q6, _⟩ := rows a ha
        obtain ⟨nap, xs, h1, h2⟩ := hrow a ha
        refine ⟨.ref a, rfl, .inl ⟨rfl, _, SqL.of h1⟩, a, xs, .int 5, rfl, rfl, h1, Nat.lt_of_le_of_lt (show xs.length ≤ 100 by omega) (by decide), _, rfl, by rw [upd_ne nap.symm]; exact hp, fun c hc => ?_, by rw [upd_ne q2.symm]; exact hf, by rw [upd_ne q3.symm]; exact ho, kk.put q5, BB.put q4, k0.putNew q6⟩
        obtain ⟨ncp, ys, h3, h4⟩ := hrow c hc
        refine ⟨ncp, ?_⟩
        by_cases hca : c = a
        · subst hca
          refine ⟨_, upd_same, ?_⟩
          rw [List.length_append]
          show xs.length + 1 ≤ _
          omega
        · exact ⟨ys, by rw [upd_ne hca]; exact h3, by omega⟩
      obtain ⟨y8'', rfl, hp, hrow, hf, ho, kk, BB, k0⟩ := hP
      refine ⟨.ref pf, rfl, .inl ⟨rfl, _, SqL.of hf⟩, pf, _, rfl, rfl, hf, ?_⟩
      have ho2 : (upd H' pf (.lst (asf.map V.ref).reverse)) po = some (.lst (aso.map V.ref)) := by rw [upd_ne pof]; exact ho
      refine ⟨.ref po, rfl, .inl ⟨rfl, _, SqL.of ho2⟩, po, _, rfl, rfl, ho2, ?_⟩
      have k18 : Keep bs3 H18 (upd (upd H' pf (.lst (asf.map V.ref).reverse)) po (.lst [])) := (kk.put (inF pf (List.mem_cons_self ..))).put (inO po (List.mem_cons_self ..))
      have B23 : Box (upd (upd H' pf (.lst (asf.map V.ref).reverse)) po (.lst [])) b (200 + 100 * i + 33) := (BB.put pfb).put pob
      have k23 : Keep [b] H (upd (upd H' pf (.lst (asf.map V.ref).reverse)) po (.lst [])) := (k0.putNew (frF pf (List.mem_cons_self ..))).putNew (frO po (List.mem_cons_self ..))
      generalize upd (upd H' pf (.lst (asf.map V.ref).reverse)) po (.lst []) = H23 at k18 B23 k23
      have over : ∀ {v : V} {d : PyData}, Dq (hid bs3 H12) v d → Dq (hid [b] H23) v d := fun h => low (k18.dq (h.mono (same_hid s1218)))
      have dT23 := over dT12
      have dh23 := over dh12
      have dI23 := over dI12
      have dO23 := over dO12
      have dD23 : Dq (hid [b] H23) (.ref pd) (tabD true true (leftM I O M)) := low (k18.dq (dDu.mono (same_hid e18)))
      have lv23 := lvB B23
      -- asked again
      refine q_when (b := false) (et_is (et_or (a := false) (et_is (et_test (ev_op (rep rfl rfl rfl lv23 dh23 dI23 dO23) (ev_var rfl) (rv_ne rfl))) (by rw [decide_eq_true rfl]; rfl)) fun _ => et_not (et_B (ev_same (bs := [b]) (eq_asks lv23 (eq_var rfl dh23) sM) (eq_lask lv23 (eq_var rfl dT23) sM tM.bit) (okn_ask sM)))) rfl) (fun z => nomatch z) fun _ H24 e24 => ?_
      have lv24 := lv23.mono e24
      have u24 : ∀ {v : V} {d : PyData}, Dq (hid [b] H23) v d → Dq (hid [b] H24) v d := fun h => h.mono (same_hid e24)
      refine s_when (b := false) (et_is (et_or (et_not (et_B (ev_same (bs := [b]) (eq_left lv24 (eq_var rfl (u24 dh23)) (eq_var rfl (u24 dI23)) (eq_var rfl (u24 dO23)) sM) (eq_var rfl (u24 dD23)) oknL))) fun _ => et_not (et_B (ev_same (bs := [b]) (eq_left0 lv24 (eq_var rfl (u24 dh23)) sM) (eq_var rfl (u24 dT23)) oknM))) rfl) (fun z => nomatch z) fun _ H25 e25 => ?_
      exact ⟨_, _, _, _, _, _, _, _, _, _, _, rfl, (B23.mono (e24.trans e25)).le (by omega), k23.ext (e24.trans e25), (u24 dT23).mono (same_hid e25)⟩
    · obtain ⟨y2, y6, y7, y8, y9, y10, y11, y12, y13, y14, y15, rfl, B', k', dT'⟩ := hP
      refine q_copy (bs := [b]) (ev_var rfl) dT' sM (fun _ => rfl) (fun _ => rfl) fun pv asv H3 e3 TV => ?_
      have hlast : M.length - 1 < M.length := by have := tM.len; omega
      have lav : asv.length = M.length := TV.len
      have ha : asv[M.length - 1]? = some (asv[M.length - 1]'(by omega)) := List.getElem?_eq_getElem _
      have hr : M[M.length - 1]? = some M[M.length - 1] := List.getElem?_eq_getElem hlast
      generalize asv[M.length - 1]'(by omega) = al at ha
      generalize hr0 : M[M.length - 1] = r at hr
      have hrm := List.mem_of_getElem? hr
      have hrl := tM.row r hrm
      obtain ⟨q1, q2, q3⟩ := TV.row _ al r ha hr
      have h0 : 0 < r.length := by omega
      have lastA : ∀ {σ : L2.St}, σ[3]? = some (some (.ref pv)) → Ev (tOp (rIxL K) (tVar 3) (tUn (rU fun i => .int (-i)) (tC (.int 1)))) σ H3 (.ref al) := fun hs => ev_op (ev_var hs) (ev_un ev_c ru_neg) (rv_ixL (SqL.of TV.hp) (last_at (by rw [List.getElem?_map, List.length_map, lav, ha]; rfl)))
      refine q_setL (j := 0) q3 (ev_op ev_c (ev_op (lastA rfl) ev_c (rv_ixL (v := .int r[0]) (SqL.of q3) (atI_nat (j := 0) (by rw [List.getElem?_map, List.getElem?_eq_getElem h0]; rfl)))) rv_I0) (lastA rfl) ev_c (by rw [List.length_map]; exact h0) fun H4 e4 => ?_
      have TV2 := new_put TV e4 ha hr (1 - r[0])
      have hbit : (1 - r[0] : Int) = 0 ∨ (1 - r[0] : Int) = 1 := by
        rcases tM.bit r hrm r[0] (List.getElem_mem h0) with z | z
        · exact .inr (by omega)
        · exact .inl (by omega)
      have tM2 := tM.put hr hbit
      have fr : ∀ {p : Addr}, H' p = none → H p = none := fun h => k'.free B' h
      have kE : Keep [b] H (upd H4 al (.lst ((r.map V.int).set 0 (.int (1 - r[0]))))) := (k'.ext (e3.trans e4)).putNew (fr q2)
      have BE : Box (upd H4 al (.lst ((r.map V.int).set 0 (.int (1 - r[0]))))) b (200 + 100 * (3 : Int).toNat) := (B'.mono (e3.trans e4)).put (B'.ne q2)
      generalize upd H4 al (.lst ((r.map V.int).set 0 (.int (1 - r[0])))) = H5 at TV2 kE BE
      generalize M.set (M.length - 1) (r.set 0 (1 - r[0])) = M2 at TV2 tM2
      have sM2 := tM2.small n2 m2
      have lv5 := lvB BE
      have dV : Dq (hid [b] H5) (.ref pv) (tabD true true M2) := TV2.dq (lvB B')
      refine s_ret (v := .bl true) (ev_is (ev_andV (a := true) (b := true) (ev_same (bs := [b]) (eq_asks lv5 (eq_var rfl dV) sM2) (eq_lask lv5 (eq_var rfl dV) sM2 tM2.bit) (okn_ask sM2)) fun _ => ev_same (bs := [b]) (eq_turn2 tM2 n1 n2 m1 m2 lv5 (eq_turn lv5 (eq_var rfl dV) (tM2.ne n1) (by rw [tM2.len]; exact n2) m2 tM2.row)) (eq_var rfl dV) (okn_tab _ _ (by have := sM2.1; omega) fun r hr => by have := sM2.2 r hr; omega)) rfl) fun H6 e6 => q H6 (kE.ext e6)
end
end K02

set_option Elab.async false
set_option linter.all false
set_option maxRecDepth 100000
set_option maxHeartbeats 1000000
namespace K02
open PySem PySem.Spec PyProof.Rows L2 Evl Cg
abbrev st_law : Stmt := topS 15
theorem sc_law : FnScope ["_law_script", "_law_cells", "_law_k"] ["_law_script"] (defScope st_law) := ⟨rfl, rfl, rfl, by decide +kernel, rfl, by decide +kernel, by decide +kernel⟩
section
variable {P : Program} {w : World} {K : PySem.W.Frag} {mg : Str → Option Value} {base : Heap} {f f1 f2 f3 f4 f5 f6 : Addr} {fd fd1 fd2 fd3 fd4 fd5 fd6 : FuncData}
def spLaw (K : PySem.W.Frag) : Sp := fun vs H Q _ => ∃ (a : Addr) (ns : List Int), vs = [.ref a] ∧ SqL K H a (ns.map V.int) ∧ ns.length ≤ 63 ∧ ∀ H', Q (.bl true) H'
theorem ok_law (F : Fun K "law" "law" st_law f fd) (B : Bl mg) (d_law_folded : Df P w K mg base 1 "_law_folded" st_law_folded ["_law_script", "_law_size"] f1 fd1 (spFold K)) (d_law_box : Df P w K mg base 1 "_law_box" st_law_box ["_law_script", "_law_k"] f2 fd2 (spBox K))
    (d_law_right : DfG P w K mg base 5 "_law_right" st_law_right ["_law_box_here"] f3 fd3 spRight) : FnG P w K mg base 6 f fd ["_law_script"] (spLaw K) := by
  refine fnG F sc_law (fun vs H Q E h => ?_) (fun cv A outer s H vs Q E hg hr h => ?_)
  · obtain ⟨a, ns, rfl, _⟩ := h
    rfl
  · obtain ⟨a, ns, rfl, hS, hl, q⟩ := h
    refine ⟨_, (pss_cons (ps_set (i := 1) sc_law.nd rfl (.inr rfl) (pe_call d_law_folded.G (hr.mono (by omega)) (by rfl) d_law_folded.g d_law_folded.F.kp d_law_folded.b .nil pass0 (pa_cons (pv 0) (pa_cons pe_int pa_nil))))
 (pss_one (ps_ret (pe_callB (allK K) (by rfl) B.all (by decide +kernel) (pa_cons (pe_lc (own := [("_law_k", 2)]) rfl sc_law.nd (pi_range1 (by rfl) B.range (pa_cons (pe_callB (call_max2 rfl) (by rfl) B.max (by decide +kernel) (pa_cons pe_int (pa_cons (pe_callB (lenK K) (by rfl) B.len (by decide +kernel) (pa_cons (pv 1) pa_nil)) pa_nil))) pa_nil)) (blkOk_by (own := [("_law_k", 2)]) (by kernel_rfl)) (fun _ _ _ _ _ => (pg_name (i := 2) sc_law.nd rfl (.inl rfl))) (fun _ _ _ _ _ => pts_nil) (fun _ _ _ _ _ => (pe_callG d_law_right.G hg (hr.mono (by omega)) (by rfl) d_law_right.g d_law_right.F.kp d_law_right.b (pa_cons (pe_call d_law_box.G (hr.mono (by omega)) (by rfl) d_law_box.g d_law_box.F.kp d_law_box.b .nil pass0 (pa_cons (pv 1) (pa_cons (pv 2) pa_nil))) pa_nil)))) pa_nil))))), ?_⟩
    refine ⟨.ref a, rfl, a, ns, 6, rfl, hS, by decide, by decide, by omega, fun l ms H1 e1 nl hl1 hlen => ?_⟩
    refine r_lawAll (ev_max1 rfl hl1) (by rw [List.length_map]; omega) (fun _ => rfl) (fun i H2 Q2 hi e2 k2 => ?_) fun H2 _ => q H2
    rw [List.length_map] at hi
    refine ⟨.ref l, rfl, .int (i : Int), rfl, l, ms, i, rfl, SqL.of (e2 _ _ hl1), by omega, fun b H3 e3 nb hB => ⟨b, rfl, hB, fun H4 k4 => k2 H4 (same_box e3 nb k4)⟩⟩
end
theorem all_mk {l : PySem.W.OpenLaw} {w : World} {K : PySem.W.Frag} {h : Heap} {mg : Str → Option Value} {fa : Addr} (X : K.In h) (G : h.Ns mainGlobals mg) (hfa : mg "law" = some (.ref fa))
    {f0 : Addr} {od0 an0 : Option Addr} {sl0 : Array (Option Value)} {oc0 kV0 dc0 pm0 cd0 ct0 : Value}
    {f1 : Addr} {od1 an1 : Option Addr} {sl1 : Array (Option Value)} {oc1 kV1 dc1 pm1 cd1 ct1 : Value}
    {f2 : Addr} {od2 an2 : Option Addr} {sl2 : Array (Option Value)} {oc2 kV2 dc2 pm2 cd2 ct2 : Value}
    {f3 : Addr} {od3 an3 : Option Addr} {sl3 : Array (Option Value)} {oc3 kV3 dc3 pm3 cd3 ct3 : Value}
    {f4 : Addr} {od4 an4 : Option Addr} {sl4 : Array (Option Value)} {oc4 kV4 dc4 pm4 cd4 ct4 : Value}
    {f5 : Addr} {od5 an5 : Option Addr} {sl5 : Array (Option Value)} {oc5 kV5 dc5 pm5 cd5 ct5 : Value}
    {f6 : Addr} {od6 an6 : Option Addr} {sl6 : Array (Option Value)} {oc6 kV6 dc6 pm6 cd6 ct6 : Value}
    {f7 : Addr} {od7 an7 : Option Addr} {sl7 : Array (Option Value)} {oc7 kV7 dc7 pm7 cd7 ct7 : Value}
    {f8 : Addr} {od8 an8 : Option Addr} {sl8 : Array (Option Value)} {oc8 kV8 dc8 pm8 cd8 ct8 : Value}
    {f9 : Addr} {od9 an9 : Option Addr} {sl9 : Array (Option Value)} {oc9 kV9 dc9 pm9 cd9 ct9 : Value}
    {f10 : Addr} {od10 an10 : Option Addr} {sl10 : Array (Option Value)} {oc10 kV10 dc10 pm10 cd10 ct10 : Value}
    {f11 : Addr} {od11 an11 : Option Addr} {sl11 : Array (Option Value)} {oc11 kV11 dc11 pm11 cd11 ct11 : Value}
    {f12 : Addr} {od12 an12 : Option Addr} {sl12 : Array (Option Value)} {oc12 kV12 dc12 pm12 cd12 ct12 : Value}
    {f13 : Addr} {od13 an13 : Option Addr} {sl13 : Array (Option Value)} {oc13 kV13 dc13 pm13 cd13 ct13 : Value}
    (a0 : PySem.W.nsIn K mainGlobals "asks_of" = some (some (.ref f0))) (l0 : K.lookup f0 = some ⟨oc0, od0, .func (PySem.W.fnOf "asks_of" "asks_of" (defArgs st_asks_of) (defBody st_asks_of) (defScope st_asks_of) .none kV0 dc0 pm0 an0 cd0 ct0), sl0⟩) (c0 : PySem.W.codeIn K cd0 "asks_of" = true) (k0 : PySem.W.keepIn K (.ref f0) = true)
    (a1 : PySem.W.nsIn K mainGlobals "turned" = some (some (.ref f1))) (l1 : K.lookup f1 = some ⟨oc1, od1, .func (PySem.W.fnOf "turned" "turned" (defArgs st_turned) (defBody st_turned) (defScope st_turned) .none kV1 dc1 pm1 an1 cd1 ct1), sl1⟩) (c1 : PySem.W.codeIn K cd1 "turned" = true) (k1 : PySem.W.keepIn K (.ref f1) = true)
    (a2 : PySem.W.nsIn K mainGlobals "left_out" = some (some (.ref f2))) (l2 : K.lookup f2 = some ⟨oc2, od2, .func (PySem.W.fnOf "left_out" "left_out" (defArgs st_left_out) (defBody st_left_out) (defScope st_left_out) .none kV2 dc2 pm2 an2 cd2 ct2), sl2⟩) (c2 : PySem.W.codeIn K cd2 "left_out" = true) (k2 : PySem.W.keepIn K (.ref f2) = true)
    (a3 : PySem.W.nsIn K mainGlobals "_law_box" = some (some (.ref f3))) (l3 : K.lookup f3 = some ⟨oc3, od3, .func (PySem.W.fnOf "_law_box" "_law_box" (defArgs st_law_box) (defBody st_law_box) (defScope st_law_box) .none kV3 dc3 pm3 an3 cd3 ct3), sl3⟩) (c3 : PySem.W.codeIn K cd3 "_law_box" = true) (k3 : PySem.W.keepIn K (.ref f3) = true)
    (a4 : PySem.W.nsIn K mainGlobals "_law_take" = some (some (.ref f4))) (l4 : K.lookup f4 = some ⟨oc4, od4, .func (PySem.W.fnOf "_law_take" "_law_take" (defArgs st_law_take) (defBody st_law_take) (defScope st_law_take) .none kV4 dc4 pm4 an4 cd4 ct4), sl4⟩) (c4 : PySem.W.codeIn K cd4 "_law_take" = true) (k4 : PySem.W.keepIn K (.ref f4) = true)
    (a5 : PySem.W.nsIn K mainGlobals "_law_folded" = some (some (.ref f5))) (l5 : K.lookup f5 = some ⟨oc5, od5, .func (PySem.W.fnOf "_law_folded" "_law_folded" (defArgs st_law_folded) (defBody st_law_folded) (defScope st_law_folded) .none kV5 dc5 pm5 an5 cd5 ct5), sl5⟩) (c5 : PySem.W.codeIn K cd5 "_law_folded" = true) (k5 : PySem.W.keepIn K (.ref f5) = true)
    (a6 : PySem.W.nsIn K mainGlobals "_law_same" = some (some (.ref f6))) (l6 : K.lookup f6 = some ⟨oc6, od6, .func (PySem.W.fnOf "_law_same" "_law_same" (defArgs st_law_same) (defBody st_law_same) (defScope st_law_same) .none kV6 dc6 pm6 an6 cd6 ct6), sl6⟩) (c6 : PySem.W.codeIn K cd6 "_law_same" = true) (k6 : PySem.W.keepIn K (.ref f6) = true)
    (a7 : PySem.W.nsIn K mainGlobals "_law_sizes" = some (some (.ref f7))) (l7 : K.lookup f7 = some ⟨oc7, od7, .func (PySem.W.fnOf "_law_sizes" "_law_sizes" (defArgs st_law_sizes) (defBody st_law_sizes) (defScope st_law_sizes) .none kV7 dc7 pm7 an7 cd7 ct7), sl7⟩) (c7 : PySem.W.codeIn K cd7 "_law_sizes" = true) (k7 : PySem.W.keepIn K (.ref f7) = true)
    (a8 : PySem.W.nsIn K mainGlobals "_law_table" = some (some (.ref f8))) (l8 : K.lookup f8 = some ⟨oc8, od8, .func (PySem.W.fnOf "_law_table" "_law_table" (defArgs st_law_table) (defBody st_law_table) (defScope st_law_table) .none kV8 dc8 pm8 an8 cd8 ct8), sl8⟩) (c8 : PySem.W.codeIn K cd8 "_law_table" = true) (k8 : PySem.W.keepIn K (.ref f8) = true)
    (a9 : PySem.W.nsIn K mainGlobals "_law_handed" = some (some (.ref f9))) (l9 : K.lookup f9 = some ⟨oc9, od9, .func (PySem.W.fnOf "_law_handed" "_law_handed" (defArgs st_law_handed) (defBody st_law_handed) (defScope st_law_handed) .none kV9 dc9 pm9 an9 cd9 ct9), sl9⟩) (c9 : PySem.W.codeIn K cd9 "_law_handed" = true) (k9 : PySem.W.keepIn K (.ref f9) = true)
    (a10 : PySem.W.nsIn K mainGlobals "_law_some" = some (some (.ref f10))) (l10 : K.lookup f10 = some ⟨oc10, od10, .func (PySem.W.fnOf "_law_some" "_law_some" (defArgs st_law_some) (defBody st_law_some) (defScope st_law_some) .none kV10 dc10 pm10 an10 cd10 ct10), sl10⟩) (c10 : PySem.W.codeIn K cd10 "_law_some" = true) (k10 : PySem.W.keepIn K (.ref f10) = true)
    (a11 : PySem.W.nsIn K mainGlobals "_law_asks" = some (some (.ref f11))) (l11 : K.lookup f11 = some ⟨oc11, od11, .func (PySem.W.fnOf "_law_asks" "_law_asks" (defArgs st_law_asks) (defBody st_law_asks) (defScope st_law_asks) .none kV11 dc11 pm11 an11 cd11 ct11), sl11⟩) (c11 : PySem.W.codeIn K cd11 "_law_asks" = true) (k11 : PySem.W.keepIn K (.ref f11) = true)
    (a12 : PySem.W.nsIn K mainGlobals "_law_right" = some (some (.ref f12))) (l12 : K.lookup f12 = some ⟨oc12, od12, .func (PySem.W.fnOf "_law_right" "_law_right" (defArgs st_law_right) (defBody st_law_right) (defScope st_law_right) .none kV12 dc12 pm12 an12 cd12 ct12), sl12⟩) (c12 : PySem.W.codeIn K cd12 "_law_right" = true) (k12 : PySem.W.keepIn K (.ref f12) = true)
    (a13 : PySem.W.nsIn K mainGlobals "law" = some (some (.ref f13))) (l13 : K.lookup f13 = some ⟨oc13, od13, .func (PySem.W.fnOf "law" "law" (defArgs st_law) (defBody st_law) (defScope st_law) .none kV13 dc13 pm13 an13 cd13 ct13), sl13⟩) (c13 : PySem.W.codeIn K cd13 "law" = true) (k13 : PySem.W.keepIn K (.ref f13) = true)
    (z0 : PySem.W.nsIn K mainGlobals "int" = some none)
    (z1 : PySem.W.nsIn K mainGlobals "bool" = some none)
    (z2 : PySem.W.nsIn K mainGlobals "list" = some none)
    (z3 : PySem.W.nsIn K mainGlobals "tuple" = some none)
    (z4 : PySem.W.nsIn K mainGlobals "str" = some none)
    (z5 : PySem.W.nsIn K mainGlobals "len" = some none)
    (z6 : PySem.W.nsIn K mainGlobals "all" = some none)
    (z7 : PySem.W.nsIn K mainGlobals "isinstance" = some none)
    (z8 : PySem.W.nsIn K mainGlobals "range" = some none)
    (z9 : PySem.W.nsIn K mainGlobals "enumerate" = some none)
    (z10 : PySem.W.nsIn K mainGlobals "zip" = some none)
    (z11 : PySem.W.nsIn K mainGlobals "repr" = some none)
    (z12 : PySem.W.nsIn K mainGlobals "abs" = some none)
    (z13 : PySem.W.nsIn K mainGlobals "min" = some none)
    (z14 : PySem.W.nsIn K mainGlobals "max" = some none)
    (z15 : PySem.W.nsIn K mainGlobals "divmod" = some none) :
    ∃ fd : FuncData, (∀ (s : Shared) (v : Value), BindsTo s fd ⟨[v], []⟩ [("_law_script", v)]) ∧ ∀ base : Heap, K.In base → base.Ns mainGlobals mg → FnG l.prog w K mg base 6 fa fd ["_law_script"] (spLaw K) := by
  have e := hfa.symm.trans (PySem.W.mg_of X G a13)
  cases e
  have F_asks_of := fun_mk (st := st_asks_of) l0 c0 k0
  have b_asks_of := F_asks_of.binds (ps := ["table"]) fun _ _ _ _ _ _ us hl => match us, hl with | [_], _ => rfl
  have g_asks_of := PySem.W.mg_of X G a0
  have F_turned := fun_mk (st := st_turned) l1 c1 k1
  have b_turned := F_turned.binds (ps := ["table"]) fun _ _ _ _ _ _ us hl => match us, hl with | [_], _ => rfl
  have g_turned := PySem.W.mg_of X G a1
  have F_left_out := fun_mk (st := st_left_out) l2 c2 k2
  have b_left_out := F_left_out.binds (ps := ["table", "inlets", "outlets"]) fun _ _ _ _ _ _ us hl => match us, hl with | [_, _, _], _ => rfl
  have g_left_out := PySem.W.mg_of X G a2
  have F_law_box := fun_mk (st := st_law_box) l3 c3 k3
  have b_law_box := F_law_box.binds (ps := ["_law_script", "_law_k"]) fun _ _ _ _ _ _ us hl => match us, hl with | [_, _], _ => rfl
  have g_law_box := PySem.W.mg_of X G a3
  have F_law_take := fun_mk (st := st_law_take) l4 c4 k4
  have b_law_take := F_law_take.binds (ps := ["_law_box_here", "_law_size"]) fun _ _ _ _ _ _ us hl => match us, hl with | [_, _], _ => rfl
  have g_law_take := PySem.W.mg_of X G a4
  have F_law_folded := fun_mk (st := st_law_folded) l5 c5 k5
  have b_law_folded := F_law_folded.binds (ps := ["_law_script", "_law_size"]) fun _ _ _ _ _ _ us hl => match us, hl with | [_, _], _ => rfl
  have g_law_folded := PySem.W.mg_of X G a5
  have F_law_same := fun_mk (st := st_law_same) l6 c6 k6
  have b_law_same := F_law_same.binds (ps := ["_law_found", "_law_due"]) fun _ _ _ _ _ _ us hl => match us, hl with | [_, _], _ => rfl
  have g_law_same := PySem.W.mg_of X G a6
  have F_law_sizes := fun_mk (st := st_law_sizes) l7 c7 k7
  have b_law_sizes := F_law_sizes.binds (ps := ["_law_box_here", "_law_most"]) fun _ _ _ _ _ _ us hl => match us, hl with | [_, _], _ => rfl
  have g_law_sizes := PySem.W.mg_of X G a7
  have F_law_table := fun_mk (st := st_law_table) l8 c8 k8
  have b_law_table := F_law_table.binds (ps := ["_law_box_here", "_law_n", "_law_m"]) fun _ _ _ _ _ _ us hl => match us, hl with | [_, _, _], _ => rfl
  have g_law_table := PySem.W.mg_of X G a8
  have F_law_handed := fun_mk (st := st_law_handed) l9 c9 k9
  have b_law_handed := F_law_handed.binds (ps := ["_law_box_here", "_law_table_here"]) fun _ _ _ _ _ _ us hl => match us, hl with | [_, _], _ => rfl
  have g_law_handed := PySem.W.mg_of X G a9
  have F_law_some := fun_mk (st := st_law_some) l10 c10 k10
  have b_law_some := F_law_some.binds (ps := ["_law_box_here", "_law_size"]) fun _ _ _ _ _ _ us hl => match us, hl with | [_, _], _ => rfl
  have g_law_some := PySem.W.mg_of X G a10
  have F_law_asks := fun_mk (st := st_law_asks) l11 c11 k11
  have b_law_asks := F_law_asks.binds (ps := ["_law_table_here"]) fun _ _ _ _ _ _ us hl => match us, hl with | [_], _ => rfl
  have g_law_asks := PySem.W.mg_of X G a11
  have F_law_right := fun_mk (st := st_law_right) l12 c12 k12
  have b_law_right := F_law_right.binds (ps := ["_law_box_here"]) fun _ _ _ _ _ _ us hl => match us, hl with | [_], _ => rfl
  have g_law_right := PySem.W.mg_of X G a12
  have F_law := fun_mk (st := st_law) l13 c13 k13
  have b_law := F_law.binds (ps := ["_law_script"]) fun _ _ _ _ _ _ us hl => match us, hl with | [_], _ => rfl
  have g_law := PySem.W.mg_of X G a13
  have B : Bl mg := ⟨PySem.W.mg_none_of X G z0, PySem.W.mg_none_of X G z1, PySem.W.mg_none_of X G z2, PySem.W.mg_none_of X G z3, PySem.W.mg_none_of X G z4, PySem.W.mg_none_of X G z5, PySem.W.mg_none_of X G z6, PySem.W.mg_none_of X G z7, PySem.W.mg_none_of X G z8, PySem.W.mg_none_of X G z9, PySem.W.mg_none_of X G z10, PySem.W.mg_none_of X G z11, PySem.W.mg_none_of X G z12, PySem.W.mg_none_of X G z13, PySem.W.mg_none_of X G z14, PySem.W.mg_none_of X G z15⟩
  refine ⟨PySem.W.fnOf "law" "law" (defArgs st_law) (defBody st_law) (defScope st_law) .none kV13 dc13 pm13 an13 cd13 ct13, fun s v => .of_eq rfl, fun base _ _ => ?_⟩
  have G_take := ok_law_take (P := l.prog) (w := w) (base := base) F_law_take B
  have G_box := ok_law_box (P := l.prog) (w := w) (base := base) F_law_box B
  have G_fold := ok_law_folded (P := l.prog) (w := w) (base := base) F_law_folded B
  have D_take : Df l.prog w K mg base 1 _ _ _ _ _ _ := ⟨F_law_take, g_law_take, b_law_take, G_take⟩
  have D_box : Df l.prog w K mg base 1 _ _ _ _ _ _ := ⟨F_law_box, g_law_box, b_law_box, G_box⟩
  have D_fold : Df l.prog w K mg base 1 _ _ _ _ _ _ := ⟨F_law_folded, g_law_folded, b_law_folded, G_fold⟩
  have D_sizes : Df l.prog w K mg base 2 _ _ _ _ _ _ := ⟨F_law_sizes, g_law_sizes, b_law_sizes, ok_law_sizes F_law_sizes B D_take⟩
  have D_table : Df l.prog w K mg base 2 _ _ _ _ _ _ := ⟨F_law_table, g_law_table, b_law_table, ok_law_table F_law_table B D_take⟩
  have D_hand : Df l.prog w K mg base 2 _ _ _ _ _ _ := ⟨F_law_handed, g_law_handed, b_law_handed, ok_law_handed F_law_handed B D_take⟩
  have D_some : Df l.prog w K mg base 2 _ _ _ _ _ _ := ⟨F_law_some, g_law_some, b_law_some, ok_law_some F_law_some B D_take⟩
  have D_lask : Df l.prog w K mg base 1 _ _ _ _ _ _ := ⟨F_law_asks, g_law_asks, b_law_asks, ok_law_asks F_law_asks B⟩
  have D_same : Df l.prog w K mg base 4 _ _ _ _ _ _ := ⟨F_law_same, g_law_same, b_law_same, ok_law_same F_law_same B g_law_same b_law_same 3⟩
  have D_ask : Df l.prog w K mg base 1 _ _ _ _ _ _ := ⟨F_asks_of, g_asks_of, b_asks_of, ok_asks_of F_asks_of B⟩
  have D_turn : Df l.prog w K mg base 1 _ _ _ _ _ _ := ⟨F_turned, g_turned, b_turned, ok_turned F_turned B⟩
  have D_left : Df l.prog w K mg base 1 _ _ _ _ _ _ := ⟨F_left_out, g_left_out, b_left_out, ok_left_out F_left_out B⟩
  have D_right : DfG l.prog w K mg base 5 _ _ _ _ _ _ := ⟨F_law_right, g_law_right, b_law_right, ok_law_right F_law_right B D_sizes D_table D_hand D_some D_lask D_same D_ask D_turn D_left⟩
  exact ok_law F_law B D_fold D_box D_right
end K02
open PySem PySem.W PyProof.Rows
set_option maxHeartbeats 0 in
theorem PySem.Challenge.cw_crossgrants_k02_asks_turned_left_out_holds : PySem.Challenge.rw_crossgrants_k02_asks_turned_left_out.Holds := by
  w_on; o_law; k_head; (case hw => w_witness2)
  k_fill
  refine Cg.walkG (l := PySem.Challenge.rw_crossgrants_k02_asks_turned_left_out) (n := 63) (k := 6) (x := "_law_script") (sp := K02.spLaw) rfl (by decide) rfl ⟨rfl, by decide, by decide⟩ (fun w h Y => PySem.W.kIn_of Y) ?F (fun K H a ns hl hS => ⟨a, ns, rfl, hS, hl, fun _ => rfl⟩)
  case F =>
    intro w mg fa h KX G hmg
    refine' K02.all_mk KX G hmg ?a0 ?l0 ?c0 ?k0 ?a1 ?l1 ?c1 ?k1 ?a2 ?l2 ?c2 ?k2 ?a3 ?l3 ?c3 ?k3 ?a4 ?l4 ?c4 ?k4 ?a5 ?l5 ?c5 ?k5 ?a6 ?l6 ?c6 ?k6 ?a7 ?l7 ?c7 ?k7 ?a8 ?l8 ?c8 ?k8 ?a9 ?l9 ?c9 ?k9 ?a10 ?l10 ?c10 ?k10 ?a11 ?l11 ?c11 ?k11 ?a12 ?l12 ?c12 ?k12 ?a13 ?l13 ?c13 ?k13 ?z0 ?z1 ?z2 ?z3 ?z4 ?z5 ?z6 ?z7 ?z8 ?z9 ?z10 ?z11 ?z12 ?z13 ?z14 ?z15
    (case a0 => k_is); (case l0 => k_is); (case c0 => k_is); (case k0 => k_is); (case a1 => k_is); (case l1 => k_is); (case c1 => k_is); (case k1 => k_is); (case a2 => k_is); (case l2 => k_is); (case c2 => k_is); (case k2 => k_is); (case a3 => k_is); (case l3 => k_is); (case c3 => k_is); (case k3 => k_is); (case a4 => k_is); (case l4 => k_is); (case c4 => k_is); (case k4 => k_is); (case a5 => k_is); (case l5 => k_is); (case c5 => k_is); (case k5 => k_is); (case a6 => k_is); (case l6 => k_is); (case c6 => k_is); (case k6 => k_is); (case a7 => k_is); (case l7 => k_is); (case c7 => k_is); (case k7 => k_is); (case a8 => k_is); (case l8 => k_is); (case c8 => k_is); (case k8 => k_is); (case a9 => k_is); (case l9 => k_is); (case c9 => k_is); (case k9 => k_is); (case a10 => k_is); (case l10 => k_is); (case c10 => k_is); (case k10 => k_is); (case a11 => k_is); (case l11 => k_is); (case c11 => k_is); (case k11 => k_is); (case a12 => k_is); (case l12 => k_is); (case c12 => k_is); (case k12 => k_is); (case a13 => k_is); (case l13 => k_is); (case c13 => k_is); (case k13 => k_is); (case z0 => k_is); (case z1 => k_is); (case z2 => k_is); (case z3 => k_is); (case z4 => k_is); (case z5 => k_is); (case z6 => k_is); (case z7 => k_is); (case z8 => k_is); (case z9 => k_is); (case z10 => k_is); (case z11 => k_is); (case z12 => k_is); (case z13 => k_is); (case z14 => k_is); (case z15 => k_is)
