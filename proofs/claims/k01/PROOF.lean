import PyProof.Rows.All
import Wide.All
import OpenK.AllK
import Wide.FinOn
import HandS.ForMost
import HandS.IsInst
import HandS.Evl
import PyProof.StrLawsRepr
import PySem.Challenge.RW_crossgrants_k01_tables_or_not
set_option Elab.async false
set_option linter.all false
set_option maxRecDepth 100000
namespace Cg
open PySem PySem.Spec PyProof.Rows L2
/-! ### calls where no repr is under way around them -/
section
variable {P : Program} {w : World} {K : PySem.W.Frag} {mg : Str → Option Value} {base : Heap}
/-- one call of a def of the text, at one place: its body's walk there -/
theorem run_at {k : Nat} {f : Addr} {x q : Str} {ar : Arguments} {bd : List Stmt} {sc : Scope} {d1 d2 d3 d4 cv d5 oc : Value} {an od : Option Addr} {sl : Array (Option Value)} {N ps : List Str}
    {A : Around} {outer : List Env} {s : Shared} {H : Hp} {args : Args} {us : List Value} {vs : List V} {Q : VK} {E : XK}
    (look : K.lookup f = some ⟨oc, od, .func (PySem.W.fnOf x q ar bd sc d1 d2 d3 d4 an cv d5), sl⟩) (code : PySem.W.codeIn K cv q = true) (S : FnScope N ps sc) (len : vs.length = ps.length)
    (room : Room (k + 1) A) (e0 : Env0 P w K mg base A outer s H) (bnd : BindsTo s (PySem.W.fnOf x q ar bd sc d1 d2 d3 d4 an cv d5) args (ps.zip us)) (rel : Vals vs us)
    (walk : ∃ t, PSs (cxOf CX0 P w K mg base N q sc f cv A outer s H E) bd t ∧ t { nx := fun _ H' => Q .non H', rt := Q } (start N vs) H) :
    codeAny (model P w) A (.call (.ref f) args) (CR CX0 outer P w H s Q E) s := by
  have old : ∀ b o, base.get? b = some o → s.heap.get? b = some o := fun b o e => (e0.bs b o e).1
  have kin := e0.mod.kin.keeps old
  refine codeAny_call_function room.depth (kin _ _ look) rfl S.co S.gen rfl (PySem.W.codeRec_of kin code) (bnd _ _ _ _ ?_)
  refine wpAny_newFunctionEnv_cells S.kind (fun z hz => ?_) ?_
  · obtain ⟨n, v⟩ := z
    cases S.par n (List.of_mem_zip hz).1 with
    | inl q1 => exact .inl q1
    | inr q1 => exact .inr ⟨q1, PySem.W.cellsFrom_some _ _ _ (.inl q1)⟩
  · rintro env rfl s1 ic
    refine ⟨(e0.mod.nolimit.keeps old).keeps ic.toInCall.keep, codeAny_func ?_⟩
    obtain ⟨t, ht, hq⟩ := walk
    have I0 := inv_start (CX := CX0) (E := E) S room.hd e0 len rel ic
    refine wpAny_mono (ht.run [] s1 (start N vs) H _ I0 hq) ?_ (fun _ _ z => z)
    rintro (_ | u | _ | _) s2 got
    all_goals first
      | (obtain ⟨σ2, H2, J, g⟩ := got; exact ⟨V.non, H2, J.os, J.bare, J.base, J.hok, rfl, g⟩)
      | (obtain ⟨v2, σ2, H2, J, rv, g⟩ := got; exact ⟨v2, H2, J.os, J.bare, J.base, J.hok, rv, g⟩)
      | (obtain ⟨_, _, _, g⟩ := got; exact g.elim)
/-- a def's promise, kept where no repr is under way -/
structure FnG (P : Program) (w : World) (K : PySem.W.Frag) (mg : Str → Option Value) (base : Heap) (k : Nat) (f : Addr) (fd : FuncData) (ps : List Str) (sp : Sp) : Prop where
  len : ∀ vs H Q E, sp vs H Q E → vs.length = ps.length
  go : ∀ (A : Around) (outer : List Env) (s : Shared) (H : Hp) (args : Args) (us : List Value) (vs : List V) (Q : VK) (E : XK), A.guards = some [] → Room k A → Env0 P w K mg base A outer s H →
    BindsTo s fd args (ps.zip us) → Vals vs us → sp vs H Q E → codeAny (model P w) A (.call (.ref f) args) (CR CX0 outer P w H s Q E) s
theorem fnG {x q : Str} {st : Stmt} {f : Addr} {fd : FuncData} {N ps : List Str} {k : Nat} {sp : Sp} (F : Fun K x q st f fd) (S : FnScope N ps (defScope st)) (len : ∀ vs H Q E, sp vs H Q E → vs.length = ps.length)
    (walk : ∀ (cv : Value) (A : Around) (outer : List Env) (s : Shared) (H : Hp) (vs : List V) (Q : VK) (E : XK), A.guards = some [] → Room k (A.deeper (envOfC q (defScope st) s.heap.objs.size f cv)) → sp vs H Q E →
      ∃ t, PSs (cxOf CX0 P w K mg base N q (defScope st) f cv A outer s H E).nox (defBody st) t ∧ t { nx := fun _ H' => Q .non H', rt := Q } (start N vs) H) : FnG P w K mg base (k + 1) f fd ps sp := by
  obtain ⟨oc, od, d2, d3, d4, an, cv, d5, sl, rfl, look, code⟩ := F.ex
  refine ⟨len, fun A outer s H args us vs Q E hg room e0 bnd rel h => ?_⟩
  obtain ⟨t, ht, hq⟩ := walk cv A outer s H vs Q E hg (room.deeper _) h
  exact run_at look code S (len _ _ _ _ h) room e0 bnd rel ⟨t, ht.nox, hq⟩
/-- f(e, ..) of such a def -/
theorem pe_callG {X : Cx} {k : Nat} {f : Addr} {fd : FuncData} {ps : List Str} {sp : Sp} {x : Str} {p pos : Pos} {e : Expr} {es : List Expr} {t : TA} (F : FnG X.prog X.w X.K X.mg X.base k f fd ps sp) (hg : X.A.guards = some []) (hr : Room k X.A) (gl : Gl X x)
    (hm : X.mg x = some (.ref f)) (kp : PySem.W.keepIn X.K (.ref f) = true) (b : Binds X.K fd ps []) (ha : PA X (e :: es) t) (hdb : (x == ("__debug__" : Str)) = false := by decide)
    (he : starEach (e :: es) X.env = (false, eval e X.env) :: starEach es X.env := by rfl) (hpl : (backTo pos (starEach es X.env)).any (·.1) = false := by rfl) : PE X (.Call (.Name x p) (e :: es) [] pos) (tCall sp [] E0 t) := by
  constructor
  intro pins s σ H Q I h
  refine wpAny_Call_Name_kw (ld_glob I gl hm (PySem.W.callWith_K (h₀ := X.base) I.ok.mod.kin kp (thn (ha.run pos pins s σ H _ I h) ?_) he hpl) hdb)
  rintro us s1 ⟨vs, H1, I1, rel, q⟩
  refine ⟨I1.kIn, ?_⟩
  rw [List.append_nil] at q
  have hl : us.length = ps.length := by rw [← rel.length]; exact F.len _ _ _ _ q
  have bb := b s1 us I1.kIn (by rw [List.append_nil]; exact hl)
  rw [List.append_nil] at bb
  refine wpAny_call (codeAny_mono (F.go X.A X.stack s1 H1 ⟨us, []⟩ us vs Q E0 hg hr I1.env0 bb rel q) ?_)
  rintro (err | (_ | _ | _ | u)) s2 got
  all_goals first
    | exact I1.after got
    | exact False.elim got
/-- the law itself, called from outside -/
theorem law_at {mb : Str → Option Value} {k : Nat} {fa a : Addr} {fd : FuncData} {x : Str} {sp : Sp} {s1 : Shared} {vs : List Value} {ns : List Int} (kin : K.In s1.heap) (gl : s1.heap.Ns mainGlobals mg) (bl : s1.heap.Ns builtinsNs mb)
    (bb : ∀ y : Str, y ≠ "__name__" → mb y = bootBuiltins y) (lim : s1.heap.NoLimit) (gens : s1.gens = #[]) (ha : s1.heap.get? a = some { cls := .type "list", data := .seq vs.toArray }) (hi : IntsAre vs ns) (hl : ns.length ≤ sizeLine) (room : Room k callerA)
    (F : ∀ base : Heap, K.In base → base.Ns mainGlobals mg → FnG P w K mg base k fa fd [x] sp) (bnd : ∀ (s : Shared) (u : Value), BindsTo s fd ⟨[u], []⟩ [(x, u)])
    (hsp : ∀ H : Hp, SqL K H a (ns.map V.int) → sp [.ref a] H (fun v _ => v = .bl true) E0) :
    codeAny (model P w) callerA (.call (.ref fa) ⟨[.ref a], []⟩) (fun r s' => r = .ok (.ret (.bool true)) ∧ OldK s1.heap s'.heap ∧ s'.os = s1.os ∧ AllBare s'.gens) s1 := by
  have rv := vals_ints hi
  have lv := hi.length
  let ob : Obj := { cls := .type "list", data := .seq vs.toArray }
  -- what is tracked: the script, known, unless it is the module's own
  obtain ⟨H, hS, hok, only⟩ : ∃ H : Hp, SqL K H a (ns.map V.int) ∧ HOk P w H s1.heap ∧ ∀ b u, H b = some u → b = a ∧ u = .frz ob (.lst (ns.map V.int)) ∧ K.lookup b = none := by
    cases hk : K.lookup a with
    | some o =>
      have e := kin a o hk
      rw [ha] at e
      cases e
      exact ⟨fun _ => none, .inr ⟨_, vs.toArray, _, hk, rfl, rfl, rfl, by rw [List.size_toArray, lv]; exact hl, by simpa using rv⟩, (fun _ _ z => nomatch z), fun _ _ z => nomatch z⟩
    | none =>
      have one : ∀ b u, (if b = a then some (HO.frz ob (.lst (ns.map V.int))) else none) = some u → b = a ∧ u = .frz ob (.lst (ns.map V.int)) := fun b u z => by
        by_cases hb : b = a
        · rw [if_pos hb] at z; exact ⟨hb, (Option.some.inj z).symm⟩
        · rw [if_neg hb] at z; cases z
      refine ⟨fun b => if b = a then some (.frz ob (.lst (ns.map V.int))) else none, .inl (.inr ⟨ob, if_pos rfl⟩), fun b u z => ?_, fun b u z => ⟨(one b u z).1, (one b u z).2, by rw [(one b u z).1]; exact hk⟩⟩
      obtain ⟨rfl, rfl⟩ := one b u z
      exact ⟨ha, by rw [List.length_map]; exact hl, vs, _, rv, ha⟩
  have free : ∀ {b : Addr} {o : Obj}, s1.heap.get? b = some o → (∀ es n, o.data = .seq es n → False) → H b = none := fun {b o} e d => by
    cases z : H b with
    | none => rfl
    | some u =>
      obtain ⟨rfl, _, _⟩ := only b u z
      rw [ha] at e
      cases e
      exact (d _ _ rfl).elim
  have nsK : ∀ {b : Addr} {m : Str → Option Value}, s1.heap.Ns b m → (hidT s1.heap H).Ns b m := fun {b m} ⟨o, es, ep, e, d, r⟩ => ⟨o, es, ep, hidT_get e (free e fun _ _ z => by rw [d] at z; cases z), d, r⟩
  have kin' : K.In (hidT s1.heap H) := fun b o e => hidT_get (kin b o e) (by
    cases z : H b with
    | none => rfl
    | some u => rw [(only b u z).2.2] at e; cases e)
  obtain ⟨mc, l1, l2⟩ := lim
  have e0 : Env0 P w K mg (hidT s1.heap H) callerA [] s1 H := ⟨rfl, ⟨kin', nsK gl, ⟨mb, nsK bl, bb⟩, ⟨mc, nsK l1, l2⟩⟩, fun _ _ e => of_hidT e, Nat.le_of_eq (hidT_size _ _), trivial, (fun _ z => nomatch z), hok, .of_eq gens⟩
  refine codeAny_mono ((F _ kin' (nsK gl)).go callerA [] s1 H ⟨[.ref a], []⟩ [.ref a] [.ref a] _ _ rfl room e0 (bnd s1 (.ref a)) (.cons rfl .nil) (hsp H hS)) ?_
  rintro (err | (_ | _ | _ | u)) s2 got
  all_goals first
    | exact False.elim got
    | skip
  obtain ⟨v, H2, os, bare, un, hok2, rel, rfl⟩ := got
  obtain rfl : u = Value.bool true := rel
  refine ⟨rfl, OldK.of_keep fun b o e => ?_, os, bare⟩
  cases z : H b with
  | none => exact un.keep b o e z (fun y => nomatch y) (fun y => nomatch y)
  | some u =>
    obtain ⟨_, rfl, _⟩ := only b u z
    have k1 := (hok b _ z).1
    have k2 := (hok2 b _ (un.frzs b _ _ z)).1
    rw [e] at k1
    cases k1
    exact k2
end
/-- the goal that k_head leaves, from the law's promise -/
theorem walkG {l : PySem.W.OpenLaw} {n k : Nat} {q : Program} {loose : List Str} {XP : (Str → Option Value) → Heap → Prop} {YP : World → Heap → Prop} {d : DefRec} {K : Params → PySem.W.Frag} {sp : PySem.W.Frag → Sp} {x : Str}
    (hn : l.most = some n) (hn2 : n ≤ sizeLine) (hdf : d.params.defaults = []) (room : Room k callerA) (hY : ∀ (w : World) (h : Heap), YP w h → (K w.params).In h)
    (F : ∀ (w : World) (mg : Str → Option Value) (fa : Addr) (h : Heap), (K w.params).In h → h.Ns mainGlobals mg → mg d.name = some (.ref fa) → ∃ fd : FuncData, (∀ (s : Shared) (u : Value), BindsTo s fd ⟨[u], []⟩ [(x, u)]) ∧
      ∀ base : Heap, (K w.params).In base → base.Ns mainGlobals mg → FnG l.prog w (K w.params) mg base k fa fd [x] (sp (K w.params)))
    (hsp : ∀ (K : PySem.W.Frag) (H : Hp) (a : Addr) (ns : List Int), ns.length ≤ n → SqL K H a (ns.map V.int) → sp K [.ref a] H (fun v _ => v = .bl true) E0) : PySem.W.WalkO q loose XP YP l.row.toRowW d [] (fun f vs => PySem.call f vs) := by
  refine Att.attach_call hn hdf ?_
  intro w s0 s1 mg mb fa o pm cd doc a vs ns G Y ho hd hcd hmg hobj hints hlen gens
  obtain ⟨fd, hb, hF⟩ := F w mg fa _ (hY w _ Y) G.T.g hmg
  exact law_at (hY w _ Y) G.T.g G.T.b G.T.builtins G.T.nolimit gens hobj hints (Nat.le_trans hlen hn2) room hF hb fun H hS => hsp _ H a ns hlen hS
end Cg

set_option Elab.async false
set_option linter.all false
set_option maxRecDepth 100000
namespace Cg
open PySem PySem.Spec PyProof.Rows L2
/-! ### data: what repr makes of them -/
mutual
/-- no dict, no int that is too great for repr, texts of signs -/
def okD : PyData → Bool
  | .none => true
  | .bool _ => true
  | .int i => decide (i.natAbs.log2 < 1920)
  | .str x => PyData.strOk x
  | .list xs => okAll xs
  | .tuple xs => okAll xs
  | .dict _ => false
def okAll : List PyData → Bool
  | [] => true
  | x :: xs => okD x && okAll xs
end
mutual
/-- at least as long as its text -/
def wz : PyData → Nat
  | .none => 4
  | .bool _ => 5
  | .int i => i.natAbs.log2 + 2
  | .str x => 10 * x.length + 2
  | .list xs => wzAll xs + 3
  | .tuple xs => wzAll xs + 3
  | .dict _ => 0
def wzAll : List PyData → Nat
  | [] => 0
  | x :: xs => wz x + 2 + wzAll xs
end
theorem listText_le : ∀ ts : List Str, (listText ts).length ≤ piled ts + 2
  | [] => by decide
  | t :: r => by
    have h := textFrom_length_pos r 1 (("[" : Str) ++ ("" : String) ++ t) (Nat.succ_pos 0)
    have e : (("[" : Str) ++ ("" : String) ++ t).length = 1 + t.length := by
      rw [strLen_append, strLen_append]; rfl
    have e2 : (listText (t :: r)).length = (textFrom 1 (("[" : Str) ++ ("" : String) ++ t) r).length + 1 := by
      show (textFrom 1 (("[" : Str) ++ ("" : String) ++ t) r ++ "]").length = _
      rw [strLen_append]; rfl
    rw [e2, h, e, piled_cons]
    omega
theorem tupleText_le (ts : List Str) : (tupleText ts).length ≤ piled ts + 3 := by
  have e0 : (tupleText ts).length = 1 + (Str.join ", " ts).length + ((if ts.length == 1 then ",)" else ")" : String) : Str).length := by
    show ((("(" : Str) ++ Str.join ", " ts) ++ ((if ts.length == 1 then ",)" else ")" : String) : Str)).length = _
    rw [strLen_append, strLen_append]; rfl
  have e1 : ((if ts.length == 1 then ",)" else ")" : String) : Str).length ≤ 2 := by split <;> decide
  cases ts with
  | nil => decide
  | cons t r =>
    have e2 := join_length_add (t :: r) (by simp)
    omega
mutual
theorem shown_le : ∀ d : PyData, okD d = true → d.showable = true ∧ d.hasDict = false ∧ d.shown.length ≤ wz d
  | .none, _ => ⟨rfl, rfl, by decide⟩
  | .bool b, _ => ⟨rfl, rfl, by cases b <;> decide⟩
  | .int i, h => ⟨h, rfl, by
      show (Str.ofString (toString i)).length ≤ i.natAbs.log2 + 2
      rw [PySem.ofString_length]
      exact int_text_length_le (k := i.natAbs.log2 + 1) (by omega) (by omega)⟩
  | .str x, h => ⟨rfl, rfl, PySem.StrLaws.reprText_len x fun c hc => by
      have h' : x.cps.all (fun c => decide (c < 0x110000)) = true := h
      rw [← Array.all_toList] at h'
      exact Nat.lt_trans (of_decide_eq_true (List.all_eq_true.mp h' c hc)) (by decide)⟩
  | .list xs, h => by
    obtain ⟨a, b, c⟩ := shownAll_le xs h
    refine ⟨a, b, ?_⟩
    show (listText (PyData.shownAll xs)).length ≤ wzAll xs + 3
    have := listText_le (PyData.shownAll xs)
    omega
  | .tuple xs, h => by
    obtain ⟨a, b, c⟩ := shownAll_le xs h
    refine ⟨a, b, ?_⟩
    show (tupleText (PyData.shownAll xs)).length ≤ wzAll xs + 3
    have := tupleText_le (PyData.shownAll xs)
    omega
  | .dict _, h => by cases h
theorem shownAll_le : ∀ xs : List PyData, okAll xs = true → PyData.showableAll xs = true ∧ PyData.hasDictAll xs = false ∧ piled (PyData.shownAll xs) ≤ wzAll xs
  | [], _ => ⟨rfl, rfl, Nat.le_refl _⟩
  | x :: xs, h => by
    have h' : (okD x && okAll xs) = true := h
    rw [Bool.and_eq_true] at h'
    obtain ⟨a, b, c⟩ := shown_le x h'.1
    obtain ⟨a', b', c'⟩ := shownAll_le xs h'.2
    refine ⟨by show (PyData.showable x && PyData.showableAll xs) = true; rw [a, a']; rfl, by show (PyData.hasDict x || PyData.hasDictAll xs) = false; rw [b, b']; rfl, ?_⟩
    show piled (x.shown :: PyData.shownAll xs) ≤ wz x + 2 + wzAll xs
    rw [piled_cons]
    omega
end
/-- repr of data, where no repr is under way -/
def rReprD (K : PySem.W.Frag) : List V → Hp → VK → Prop := fun xs H Q => ∃ (v : V) (d : PyData), xs = [v] ∧ Dp K H v d ∧ okD d = true ∧ d.depth ≤ 40 ∧ wz d ≤ sizeLine ∧ Q (.str d.shown) H
theorem call_reprD {X : Cx} (hg : X.A.guards = some []) (hu : X.A.units + 64 < cLine) : CallR X (.builtin "repr") (rReprD X.K) := by
  intro pins s σ H xs us Q I r h
  obtain ⟨v, d, rfl, hd, ok, dp, wl, q⟩ := h
  obtain ⟨u, rfl, ru⟩ := vals1 r
  obtain ⟨h1, h2, h3⟩ := shown_le d ok
  have h4 : d.shown.length ≤ sizeLine := Nat.le_trans h3 wl
  obtain ⟨as, rd⟩ := Dp.reads I d v u hd ru
  have far : ∀ a : Addr, u = Value.ref a → wpAny (model X.prog X.w) X.A (call (.builtin "repr") [u]) (EP X pins σ Q) X.xe s := fun a e => by
    subst e
    exact repr_of_reads' rd h1 (PyData.noDict_hsm h2) hg (by omega) (fun _ _ e => e) (fun h' t tk hk => ⟨.str d.shown, H, I.kept hk, ⟨t, rfl⟩, q⟩) h4
  cases hd with
  | non =>
    cases ru
    exact PySem.P.repr_of_none ⟨.str _, H, I.tok _, ⟨_, rfl⟩, q⟩
  | bl b =>
    cases ru
    exact PySem.P.repr_of_bool ⟨.str _, H, I.tok _, ⟨_, rfl⟩, q⟩
  | int i =>
    obtain ⟨t, rfl⟩ := ru
    exact PySem.P.repr_of_int (of_decide_eq_true ok) ⟨.str _, H, I.tok _, ⟨_, rfl⟩, q⟩
  | str x =>
    obtain ⟨t, rfl⟩ := ru
    exact PySem.P.repr_of_str ⟨.str _, H, I.tok _, ⟨_, rfl⟩, q⟩ h4
  | lst _ _ => exact far _ ru
  | tup _ _ => exact far _ ru
end Cg

set_option Elab.async false
set_option linter.all false
set_option maxRecDepth 100000
namespace Cg
open PySem PySem.Spec PyProof.Rows L2 Evl
/-! ### data that are tracked -/
mutual
inductive Dq (H : Hp) : V → PyData → Prop
  | non : Dq H .non .none
  | bl (b : Bool) : Dq H (.bl b) (.bool b)
  | int (i : Int) : Dq H (.int i) (.int i)
  | str (x : Str) : Dq H (.str x) (.str x)
  | lst {a : Addr} {xs : List V} {ds : List PyData} (e : H a = some (.lst xs)) (h : DqAll H xs ds) : Dq H (.ref a) (.list ds)
  | tup {a : Addr} {xs : List V} {ds : List PyData} (e : H a = some (.tup xs)) (h : DqAll H xs ds) : Dq H (.ref a) (.tuple ds)
inductive DqAll (H : Hp) : List V → List PyData → Prop
  | nil : DqAll H [] []
  | cons {v : V} {vs : List V} {d : PyData} {ds : List PyData} (h : Dq H v d) (t : DqAll H vs ds) : DqAll H (v :: vs) (d :: ds)
end
section
variable {H H' : Hp} {K : PySem.W.Frag}
mutual
theorem Dq.mono (e : Same H H') : ∀ {v : V} {d : PyData}, Dq H v d → Dq H' v d
  | _, _, .non => .non
  | _, _, .bl b => .bl b
  | _, _, .int i => .int i
  | _, _, .str x => .str x
  | _, _, .lst a h => .lst (e _ _ a) (h.mono e)
  | _, _, .tup a h => .tup (e _ _ a) (h.mono e)
theorem DqAll.mono (e : Same H H') : ∀ {vs : List V} {ds : List PyData}, DqAll H vs ds → DqAll H' vs ds
  | _, _, .nil => .nil
  | _, _, .cons h t => .cons (h.mono e) (t.mono e)
end
mutual
theorem Dq.dp : ∀ {v : V} {d : PyData}, Dq H v d → Dp K H v d
  | _, _, .non => .non
  | _, _, .bl b => .bl b
  | _, _, .int i => .int i
  | _, _, .str x => .str x
  | _, _, .lst a h => .lst (SqL.of a) h.dp
  | _, _, .tup a h => .tup (SqT.of a) h.dp
theorem DqAll.dp : ∀ {vs : List V} {ds : List PyData}, DqAll H vs ds → DpAll K H vs ds
  | _, _, .nil => .nil
  | _, _, .cons h t => .cons h.dp t.dp
end
theorem DqAll.len : ∀ {vs : List V} {ds : List PyData}, DqAll H vs ds → vs.length = ds.length
  | _, _, .nil => rfl
  | _, _, .cons _ t => by rw [List.length_cons, List.length_cons, t.len]
theorem DqAll.get : ∀ {vs : List V} {ds : List PyData}, DqAll H vs ds → ∀ {i : Nat} {v : V}, vs[i]? = some v → ∃ d, ds[i]? = some d ∧ Dq H v d
  | _, _, .nil, i, v, h => by simp at h
  | _, _, .cons (d := d) h t, 0, v, e => by
    have e' : _ = v := Option.some.inj e
    subst e'
    exact ⟨d, rfl, h⟩
  | _, _, .cons h t, i + 1, v, e => t.get (i := i) e
theorem DqAll.at : ∀ {vs : List V} {ds : List PyData}, DqAll H vs ds → ∀ {i : Nat} {d : PyData}, ds[i]? = some d → ∃ v, vs[i]? = some v ∧ Dq H v d
  | _, _, .nil, i, v, h => by simp at h
  | _, _, .cons (v := w) h t, 0, v, e => by
    have e' : _ = v := Option.some.inj e
    subst e'
    exact ⟨w, rfl, h⟩
  | _, _, .cons h t, i + 1, v, e => t.at (i := i) e
theorem DqAll.append : ∀ {vs us : List V} {ds es : List PyData}, DqAll H vs ds → DqAll H us es → DqAll H (vs ++ us) (ds ++ es)
  | _, _, _, _, .nil, q => q
  | _, _, _, _, .cons h t, q => .cons h (t.append q)
theorem DqAll.take : ∀ {vs : List V} {ds : List PyData} (n : Nat), DqAll H vs ds → DqAll H (vs.take n) (ds.take n)
  | _, _, 0, _ => .nil
  | _, _, _ + 1, .nil => .nil
  | _, _, n + 1, .cons h t => .cons h (t.take n)
theorem DqAll.drop : ∀ {vs : List V} {ds : List PyData} (n : Nat), DqAll H vs ds → DqAll H (vs.drop n) (ds.drop n)
  | _, _, 0, q => q
  | _, _, _ + 1, .nil => .nil
  | _, _, n + 1, .cons _ t => t.drop n
theorem DqAll.rep {v : V} {d : PyData} (h : Dq H v d) : ∀ n : Nat, DqAll H (List.replicate n v) (List.replicate n d)
  | 0 => .nil
  | n + 1 => .cons h (DqAll.rep h n)
theorem DqAll.ints : ∀ ns : List Int, DqAll H (ns.map V.int) (ns.map PyData.int)
  | [] => .nil
  | n :: r => .cons (.int n) (DqAll.ints r)
theorem Dq.list_inv {v : V} {ds : List PyData} (h : Dq H v (.list ds)) : ∃ a xs, v = .ref a ∧ H a = some (.lst xs) ∧ DqAll H xs ds := by
  cases h with
  | lst e h => exact ⟨_, _, rfl, e, h⟩
theorem Dq.tup_inv {v : V} {ds : List PyData} (h : Dq H v (.tuple ds)) : ∃ a xs, v = .ref a ∧ H a = some (.tup xs) ∧ DqAll H xs ds := by
  cases h with
  | tup e h => exact ⟨_, _, rfl, e, h⟩
theorem Dq.int_inv {v : V} {i : Int} (h : Dq H v (.int i)) : v = .int i := by
  cases h
  rfl
def tyN : PyData → String
  | .none => "NoneType"
  | .bool _ => "bool"
  | .int _ => "int"
  | .str _ => "str"
  | .list _ => "list"
  | .tuple _ => "tuple"
  | .dict _ => "dict"
theorem Dq.ty {v : V} {d : PyData} (h : Dq H v d) : TyX K H v (.type (tyN d)) := by
  cases h with
  | non => exact .base .non
  | bl b => exact .base (.bl b)
  | int i => exact .base (.int i)
  | str x => exact .base (.str x)
  | lst e _ => exact .base (.lst e)
  | tup e _ => exact .base (.tup e)
def isInt : PyData → Bool
  | .int _ => true
  | .bool _ => true
  | _ => false
def isBool : PyData → Bool
  | .bool _ => true
  | _ => false
def isList : PyData → Bool
  | .list _ => true
  | _ => false
def isTuple : PyData → Bool
  | .tuple _ => true
  | _ => false
def isStr : PyData → Bool
  | .str _ => true
  | _ => false
theorem kit_int (d : PyData) : kitB (tyN d) "int" = some (isInt d) := by cases d <;> (simp only [tyN, isInt]; decide +kernel)
theorem kit_bool (d : PyData) : kitB (tyN d) "bool" = some (isBool d) := by cases d <;> (simp only [tyN, isBool]; decide +kernel)
theorem kit_list (d : PyData) : kitB (tyN d) "list" = some (isList d) := by cases d <;> (simp only [tyN, isList]; decide +kernel)
theorem kit_tuple (d : PyData) : kitB (tyN d) "tuple" = some (isTuple d) := by cases d <;> (simp only [tyN, isTuple]; decide +kernel)
theorem kit_str (d : PyData) : kitB (tyN d) "str" = some (isStr d) := by cases d <;> (simp only [tyN, isStr]; decide +kernel)
end
/-! ### readings -/
section
variable {K : PySem.W.Frag} {σ : L2.St} {H : Hp} {ta tb te tl : TE} {x v : V} {d : PyData} {T : String} {b : Bool}
theorem ev_isi (ha : Ev ta σ H v) (hd : Dq H v d) (hk : kitB (tyN d) T = some b) : Ev (tCB (rIsi K) (tCons ta (tCons (tC (.ty T)) tNil))) σ H (.bl b) := fun H1 e Q q =>
  ha H1 e _ fun H2 e2 => ⟨v, .ty T, .type (tyN d), .type T, b, rfl, .ty T, (hd.mono (e.trans e2)).ty, kit_ty hk, q H2 e2⟩
theorem ev_lenD {ds : List PyData} (ha : Ev ta σ H v) (hd : Dq H v (.list ds)) : Ev (tCB (rLenS K) (tCons ta tNil)) σ H (.int (ds.length : Int)) := by
  obtain ⟨a, xs, rfl, e, h⟩ := hd.list_inv
  rw [← h.len]
  exact ev_len ha (SqL.of e)
theorem ev_ixD {ds : List PyData} {i : Nat} (ha : Ev ta σ H v) (hd : Dq H v (.list ds)) (hb : Ev tb σ H (.int (i : Int))) (hi : i < ds.length) (k : ∀ x, Dq H x ds[i] → Ev (tOp (rIxL K) ta tb) σ H x → b = true) : b = true := by
  obtain ⟨a, xs, rfl, e, h⟩ := hd.list_inv
  obtain ⟨x, hx, hq⟩ := h.at (List.getElem?_eq_getElem hi)
  exact k x hq (ev_op ha hb (rv_ixL (SqL.of e) (atI_nat hx)))
/-- the item of a list of data at a place -/
theorem ix_D {ds : List PyData} {i : Nat} (ha : Ev ta σ H v) (hd : Dq H v (.list ds)) (hb : Ev tb σ H (.int (i : Int))) (hi : i < ds.length) : ∃ x, Dq H x ds[i] ∧ Ev (tOp (rIxL K) ta tb) σ H x := by
  obtain ⟨a, xs, rfl, e, h⟩ := hd.list_inv
  obtain ⟨x, hx, hq⟩ := h.at (List.getElem?_eq_getElem hi)
  exact ⟨x, hq, ev_op ha hb (rv_ixL (SqL.of e) (atI_nat hx))⟩
theorem given_all (n : Nat) (g : Nat → V) : given n (fun _ => true) g = (List.range n).map g := by
  unfold given
  rw [List.filter_eq_self.mpr fun _ _ => rfl]
theorem et_yes : EvT tYes σ H true := fun H1 _ _ q => q H1 (Ex.refl H1)
/-- [e for x in xs], data by data -/
theorem el_lcD {ds : List PyData} {j : Nat} {vs : List Nat} (g : PyData → V) (h : Ev tl σ H v) (hd : Dq H v (.list ds)) (hz : ds.length ≤ 40000) (hw : ∀ x, wipe ((wipe σ vs).set j (some x)) vs = wipe σ vs)
    (he : ∀ (x : V) (d : PyData) (H1 : Hp), Same H H1 → d ∈ ds → Dq H1 x d → Ev te ((wipe σ vs).set j (some x)) H1 (g d)) : EvL (tLc (iList K tl) (gName j) tYes te vs) σ H (ds.map g) := by
  obtain ⟨a, xs, rfl, e, hq⟩ := hd.list_inv
  have q := el_lcL (K := K) (t := tYes) (te := te) (j := j) (vs := vs) (fun _ => true) (fun i => g (ds.getD i .none)) h (SqL.of e) (by rw [hq.len]; exact hz) hw (fun _ _ H1 _ _ => et_yes) (fun i x H1 e1 hx _ => by
    obtain ⟨d, h1, h2⟩ := hq.get hx
    have h3 : ds.getD i .none = d := by rw [List.getD_eq_getElem?_getD, h1]; rfl
    show Ev te _ H1 (g (ds.getD i .none))
    rw [h3]
    exact he x d H1 e1 (List.mem_of_getElem? h1) (h2.mono e1))
  have e3 : given xs.length (fun _ => true) (fun i => g (ds.getD i .none)) = ds.map g := by
    rw [given_all, hq.len]
    apply List.ext_getElem
    · simp
    · intro i h1 h2
      simp at h1
      rw [List.getElem_map, List.getElem_range, List.getElem_map, List.getD_eq_getElem?_getD, List.getElem?_eq_getElem h1] <;> rfl
  rw [e3] at q
  exact q
theorem ev_all {bs : List Bool} (h : EvL ta σ H (bs.map V.bl)) : Ev (tCB (rAll K) (tCons ta tNil)) σ H (.bl (bs.all id)) := fun H1 e Q q =>
  h H1 e _ fun p H2 hp e2 h2 => ⟨p, bs, rfl, SqL.of h2, q H2 e2⟩
/-- all([p(x) for x in xs]) -/
theorem ev_allD {ds : List PyData} {j : Nat} {vs : List Nat} (p : PyData → Bool) (h : Ev tl σ H v) (hd : Dq H v (.list ds)) (hz : ds.length ≤ 40000) (hw : ∀ x, wipe ((wipe σ vs).set j (some x)) vs = wipe σ vs)
    (he : ∀ (x : V) (d : PyData) (H1 : Hp), Same H H1 → d ∈ ds → Dq H1 x d → Ev te ((wipe σ vs).set j (some x)) H1 (.bl (p d))) : Ev (tCB (rAll K) (tCons (tLc (iList K tl) (gName j) tYes te vs) tNil)) σ H (.bl (ds.all p)) := by
  have q := el_lcD (K := K) (fun d => V.bl (p d)) h hd hz hw he
  have e1 : ds.map (fun d => V.bl (p d)) = (ds.map p).map V.bl := by rw [List.map_map]; rfl
  rw [e1] at q
  have e2 : ((ds.map p).all id) = ds.all p := by rw [List.all_map]; rfl
  rw [← e2]
  exact ev_all q
end
/-! ### rules whose reading names the written part itself -/
section
variable {X : Cx}
def rTupS (K : PySem.W.Frag) : List V → Hp → VK → Prop := fun xs H Q => ∃ p ys, xs = [.ref p] ∧ ((SqL K H p ys ∧ ∀ l, H l = none → Q (.ref l) (upd H l (.tup ys))) ∨ (SqT K H p ys ∧ Q (.ref p) H))
theorem lenK (K : PySem.W.Frag) (hK : X.K = K := by rfl) : CallR X (.builtin "len") (rLenS K) := by subst hK; exact call_len_seq
theorem isiK (K : PySem.W.Frag) (hK : X.K = K := by rfl) : CallR X (.builtin "isinstance") (rIsi K) := by subst hK; exact call_isi
theorem isiTK (K : PySem.W.Frag) (hK : X.K = K := by rfl) : CallR X (.builtin "isinstance") (rIsiT K) := by subst hK; exact call_isiT
theorem allK (K : PySem.W.Frag) (hK : X.K = K := by rfl) (hc : X.calm = true := by rfl) : CallR X (.builtin "all") (rAll K) := by subst hK; exact cr_all hc
theorem anyK (K : PySem.W.Frag) (hK : X.K = K := by rfl) (hc : X.calm = true := by rfl) : CallR X (.builtin "any") (rAny K) := by subst hK; exact cr_any hc
theorem listK (K : PySem.W.Frag) (hK : X.K = K := by rfl) : CallR X (.type "list") (rListS K) := by subst hK; exact call_list_of
theorem tupK (K : PySem.W.Frag) (hK : X.K = K := by rfl) : CallR X (.type "tuple") (rTupS K) := by subst hK; exact call_tuple_of
theorem reprK (K : PySem.W.Frag) (hg : X.A.guards = some []) (hu : X.A.units + 64 < cLine) (hK : X.K = K := by rfl) : CallR X (.builtin "repr") (rReprD K) := by subst hK; exact call_reprD hg hu
theorem ixLK (K : PySem.W.Frag) (hK : X.K = K := by rfl) : IxR X (rIxL K) := by subst hK; exact ix_list
theorem ixTK (K : PySem.W.Frag) (hK : X.K = K := by rfl) : IxR X (rIxT K) := by subst hK; exact ix_tup
theorem slLK (K : PySem.W.Frag) (hK : X.K = K := by rfl) : SlR X (rSlL K) := by subst hK; exact sl_list
theorem slTK (K : PySem.W.Frag) (hK : X.K = K := by rfl) : SlR X (rSlT K) := by subst hK; exact sl_tup
theorem inK (K : PySem.W.Frag) (hK : X.K = K := by rfl) : OpR X (compareOp .In) (rIn K false) := by subst hK; exact op_in_seq
theorem notInK (K : PySem.W.Frag) (hK : X.K = K := by rfl) : OpR X (compareOp .NotIn) (rIn K true) := by subst hK; exact op_notIn_seq
theorem eqDK (K : PySem.W.Frag) (hu : X.A.units + 64 < cLine) (hK : X.K = K := by rfl) : OpR X (compareOp .Eq) (rEqD K) := by subst hK; exact op_eqD hu
theorem neDK (K : PySem.W.Frag) (hu : X.A.units + 64 < cLine) (hK : X.K = K := by rfl) : OpR X (compareOp .NotEq) (rNeD K) := by subst hK; exact op_neD hu
theorem pi_listK (K : PySem.W.Frag) {tg l : Expr} {tl : TE} (hl : PE X l tl) (hK : X.K = K := by rfl) : PI X tg l (iList K tl) := by subst hK; exact pi_list hl
theorem pi_tupK (K : PySem.W.Frag) {tg l : Expr} {tl : TE} (hl : PE X l tl) (hK : X.K = K := by rfl) : PI X tg l (iTup K tl) := by subst hK; exact pi_tup hl
theorem pi_enumK (K : PySem.W.Frag) {e : Expr} {ta : TA} {p pos tpos : Pos} {elts : List Expr} {kk : Nat} (hg : Gl X "enumerate") (hm : X.mg "enumerate" = none) (ha : PA X [e] ta) (hK : X.K = K := by rfl) (hs : starEach [e] X.env = [(false, eval e X.env)] := by rfl) :
    PI X (.Tuple elts kk tpos) (.Call (.Name "enumerate" p) [e] [] pos) (iEnum K ta) := by subst hK; exact pi_enum hg hm ha hs
theorem pi_zipK (K : PySem.W.Frag) {e e2 : Expr} {ta : TA} {p pos tpos : Pos} {elts : List Expr} {kk : Nat} (hg : Gl X "zip") (hm : X.mg "zip" = none) (ha : PA X [e, e2] ta) (hK : X.K = K := by rfl)
    (hs : starEach [e, e2] X.env = (false, eval e X.env) :: starEach [e2] X.env := by rfl) (hpl : (backTo pos (starEach [e2] X.env)).any (·.1) = false := by rfl) :
    PI X (.Tuple elts kk tpos) (.Call (.Name "zip" p) [e, e2] [] pos) (iZip K ta) := by subst hK; exact pi_zip hg hm ha hs hpl
theorem pg_tupK (K : PySem.W.Frag) {es : List Expr} {k : Nat} {t : TGs} {n : Nat} {pos : Pos} (hc : X.calm = true) (h : PGs X es t) (hK : X.K = K := by rfl) (hn : (assignEach es X.env).length = n := by rfl) (hst : (assignEach es X.env).findIdx? (·.1) = none := by rfl) :
    PG X (.Tuple es k pos) (gTup K n t) := by subst hK; exact pg_tup hc h hn hst
end
/-! ### promises: a truth of one thing -/
def spP (f : PyData → Bool) : Sp := fun vs H Q _ => ∃ v d, vs = [v] ∧ Dq H v d ∧ RetV (.bl (f d)) H Q
theorem spv_P {f : PyData → Bool} {v : V} {d : PyData} {H : Hp} (h : Dq H v d) : SpV (spP f) [v] H (.bl (f d)) := fun H1 e Q q E => ⟨v, d, rfl, h.mono e, fun H2 e2 => q H2 e2⟩
/-- a def of the text, where it stands, how it is called, what it promises -/
structure Df (P : Program) (w : World) (K : PySem.W.Frag) (mg : Str → Option Value) (base : Heap) (k : Nat) (x : Str) (st : Stmt) (ps : List Str) (f : Addr) (fd : FuncData) (sp : Sp) : Prop where
  F : Fun K x x st f fd
  g : mg x = some (.ref f)
  b : Binds K fd ps []
  G : FnOk P w K mg base CX0 k f fd ps sp
/-- the built-ins that the text asks are the built-ins still -/
structure Bl (mg : Str → Option Value) : Prop where
  int : mg "int" = none
  bool : mg "bool" = none
  list : mg "list" = none
  tuple : mg "tuple" = none
  str : mg "str" = none
  len : mg "len" = none
  all : mg "all" = none
  isinstance : mg "isinstance" = none
  range : mg "range" = none
  enumerate : mg "enumerate" = none
  zip : mg "zip" = none
  repr : mg "repr" = none
  abs : mg "abs" = none
  min : mg "min" = none
  max : mg "max" = none
  divmod : mg "divmod" = none
end Cg

set_option Elab.async false
set_option linter.all false
set_option maxRecDepth 100000
namespace Cg
open PySem PySem.Spec PyProof.Rows L2 Evl
/-! ### all but some objects is kept -/
def hid (bs : List Addr) (H : Hp) : Hp := fun a => if a ∈ bs then none else H a
def Keep (bs : List Addr) (H H' : Hp) : Prop := Same (hid bs H) (hid bs H')
section
variable {bs cs : List Addr} {H H1 H2 H3 : Hp} {p a : Addr} {o u : HO}
theorem hid_in (h : a ∈ bs) : hid bs H a = none := if_pos h
theorem hid_out (h : a ∉ bs) : hid bs H a = H a := if_neg h
theorem hid_some (h : hid bs H a = some o) : a ∉ bs ∧ H a = some o := by
  by_cases hm : a ∈ bs
  · rw [hid_in hm] at h; cases h
  · rw [hid_out hm] at h; exact ⟨hm, h⟩
theorem hid_same : Same (hid bs H) H := fun b x e => (hid_some e).2
theorem Keep.refl (bs : List Addr) (H : Hp) : Keep bs H H := Same.refl _
theorem Keep.trans (k : Keep bs H H1) (j : Keep bs H1 H2) : Keep bs H H2 := Same.trans k j
theorem Keep.of (e : Same H H1) : Keep bs H H1 := fun b x q => by
  obtain ⟨h1, h2⟩ := hid_some q
  rw [hid_out h1]
  exact e b x h2
theorem Keep.ext (k : Keep bs H H1) (e : Same H1 H2) : Keep bs H H2 := k.trans (.of e)
theorem Keep.new (k : Keep bs H H1) (h : H1 p = none) : Keep bs H (upd H1 p o) := k.ext (Ex.new h)
theorem Keep.put (k : Keep bs H H1) (h : p ∈ bs) : Keep bs H (upd H1 p o) := k.trans fun b x q => by
  obtain ⟨h1, h2⟩ := hid_some q
  rw [hid_out h1, upd_ne (fun z => h1 (by rw [z]; exact h))]
  exact h2
theorem Keep.more (k : Keep bs H H1) (h : ∀ b ∈ bs, b ∈ cs) : Keep cs H H1 := fun b x q => by
  obtain ⟨h1, h2⟩ := hid_some q
  have h3 : b ∉ bs := fun z => h1 (h b z)
  have := k b x (by rw [hid_out h3]; exact h2)
  rw [hid_out h1]
  exact (hid_some this).2
theorem Keep.get (k : Keep bs H H1) (h : a ∉ bs) (e : H a = some o) : H1 a = some o := (hid_some (k a o (by rw [hid_out h]; exact e))).2
theorem Keep.dq {v : V} {d : PyData} (k : Keep bs H H1) (h : Dq (hid bs H) v d) : Dq (hid bs H1) v d := h.mono k
theorem Keep.dqAll {v : List V} {d : List PyData} (k : Keep bs H H1) (h : DqAll (hid bs H) v d) : DqAll (hid bs H1) v d := h.mono k
theorem dq_vis {v : V} {d : PyData} (h : Dq (hid bs H) v d) : Dq H v d := h.mono hid_same
theorem dqAll_vis {v : List V} {d : List PyData} (h : DqAll (hid bs H) v d) : DqAll H v d := h.mono hid_same
theorem hid_less (h : ∀ b ∈ bs, b ∈ cs) : Same (hid cs H) (hid bs H) := fun b x q => by
  obtain ⟨h1, h2⟩ := hid_some q
  rw [hid_out (fun z => h1 (h b z))]
  exact h2
/-- a new object beside what is hidden -/
theorem new_out (h : H p = none) (hb : ∀ b ∈ bs, H b ≠ none) : p ∉ bs := fun z => hb p z h
end
/-! ### the box of draws -/
def Box (H : Hp) (b : Addr) (n : Nat) : Prop := ∃ r s c : Int, H b = some (.lst [.int r, .int s, .int c]) ∧ 0 ≤ r ∧ 0 ≤ s ∧ s < 2147483647 ∧ 0 ≤ c ∧ c ≤ n
section
variable {bs : List Addr} {H H1 : Hp} {b : Addr} {n m : Nat}
theorem Box.mono (h : Box H b n) (e : Same H H1) : Box H1 b n := by
  obtain ⟨r, s, c, h1, h2⟩ := h
  exact ⟨r, s, c, e _ _ h1, h2⟩
theorem Box.keep (h : Box H b n) (k : Keep bs H H1) (hb : b ∉ bs) : Box H1 b n := by
  obtain ⟨r, s, c, h1, h2⟩ := h
  exact ⟨r, s, c, k.get hb h1, h2⟩
theorem Box.le (h : Box H b n) (hm : n ≤ m) : Box H b m := by
  obtain ⟨r, s, c, h1, h2, h3, h4, h5, h6⟩ := h
  exact ⟨r, s, c, h1, h2, h3, h4, h5, by omega⟩
theorem Box.is (h : Box H b n) : H b ≠ none := by
  obtain ⟨r, s, c, h1, _⟩ := h
  rw [h1]
  exact fun z => nomatch z
theorem Box.ne {p : Addr} (h : Box H b n) (hp : H p = none) : p ≠ b := fun z => h.is (z ▸ hp)
theorem Box.upd {p : Addr} {o : HO} (h : Box H b n) (hp : H p = none) : Box (L2.upd H p o) b n := h.mono (Ex.new hp)
end
theorem Keep.free {H H1 : Hp} {b p : Addr} {n : Nat} (k : Keep [b] H H1) (hB : Box H1 b n) (hp : H1 p = none) : H p = none := by
  cases hh : H p with
  | none => rfl
  | some o =>
    have hb : p ∉ [b] := by simpa using hB.ne hp
    rw [k.get hb hh] at hp
    cases hp
theorem Box.out {H : Hp} {b p : Addr} {n : Nat} (hB : Box H b n) (hp : H p = none) : p ∉ [b] := by simpa using hB.ne hp
theorem Box.outT {H : Hp} {b p : Addr} {n : Nat} {xs : List V} (hB : Box H b n) (hp : H p = some (.tup xs)) : p ∉ [b] := fun z => by
  have z' : p = b := by simpa using z
  obtain ⟨r, s, c, g, _⟩ := hB
  rw [← z', hp] at g
  cases g
theorem Keep.putNew {H H1 : Hp} {bs : List Addr} {p : Addr} {o : HO} (k : Keep bs H H1) (h : H p = none) : Keep bs H (upd H1 p o) := fun a x q => by
  obtain ⟨q1, q2⟩ := hid_some q
  rw [hid_out q1, upd_ne (ne_of_none q2 h)]
  exact k.get q1 q2
theorem Box.put {H : Hp} {b p : Addr} {n : Nat} {o : HO} (h : Box H b n) (hp : p ≠ b) : Box (L2.upd H p o) b n := by
  obtain ⟨r, s, c, g, g'⟩ := h
  exact ⟨r, s, c, by rw [upd_ne hp.symm]; exact g, g'⟩
/-- what is kept is tracked still -/
theorem Keep.live {H H1 : Hp} {b x : Addr} {n : Nat} (k : Keep [b] H H1) (hB : Box H1 b n) (hx : H x ≠ none) : H1 x ≠ none := by
  by_cases e : x = b
  · subst e; exact hB.is
  · cases hh : H x with
    | none => exact absurd hh hx
    | some o =>
      rw [k.get (by simpa using e) hh]
      exact fun z => nomatch z
/-- the data of a table -/
def TblD (n m : Nat) (d : PyData) : Prop := ∃ rows : List PyData, d = .list rows ∧ rows.length = n ∧ ∀ r ∈ rows, ∃ xs : List PyData, r = .list xs ∧ xs.length = m ∧ ∀ x ∈ xs, x = .int 0 ∨ x = .int 1
/-- what a draw promises -/
def spTake : Sp := fun vs H Q _ => ∃ (b : Addr) (m : Int) (n : Nat), vs = [.ref b, .int m] ∧ Box H b n ∧ n ≤ 1000000000 ∧ 1 ≤ m ∧ m ≤ 10000000 ∧
  ∀ (k : Int) (H' : Hp), 0 ≤ k → k < m → Box H' b (n + 1) → Keep [b] H H' → Q (.int k) H'
/-- a draw, read -/
theorem r_take {σ : L2.St} {H : Hp} {Q : VK} {te : TE} {i : Nat} {b : Addr} {m : Int} {n : Nat} (hs : σ[i]? = some (some (.ref b))) (hm : Ev te σ H (.int m)) (hB : Box H b n) (hn : n ≤ 1000000000) (h1 : 1 ≤ m) (h2 : m ≤ 10000000)
    (k : ∀ (k : Int) (H' : Hp), 0 ≤ k → k < m → Box H' b (n + 1) → Keep [b] H H' → Q (.int k) H') : tCall spTake [] E0 (tCons (tVar i) (tCons te tNil)) σ H Q :=
  ⟨.ref b, hs, hm H (Ex.refl H) _ fun H1 e1 => ⟨b, m, n, rfl, hB.mono e1, hn, h1, h2, fun x H2 a1 a2 a3 a4 => k x H2 a1 a2 a3 ((Keep.of e1).trans a4)⟩⟩
theorem ev_cb1 {σ : L2.St} {H : Hp} {r : List V → Hp → VK → Prop} {ta : TE} {x z : V} (h : Ev ta σ H x) (hr : ∀ (H1 : Hp) (Q : VK), Q z H1 → r [x] H1 Q) : Ev (tCB r (tCons ta tNil)) σ H z := ev_cb (ea_cons h ea_nil) fun H1 _ Q q => hr H1 Q (q H1 (Ex.refl _))
theorem ev_cb2 {σ : L2.St} {H : Hp} {r : List V → Hp → VK → Prop} {ta tb : TE} {x y z : V} (h : Ev ta σ H x) (h' : Ev tb σ H y) (hr : ∀ (H1 : Hp) (Q : VK), Q z H1 → r [x, y] H1 Q) : Ev (tCB r (tCons ta (tCons tb tNil))) σ H z := ev_cb (ea_cons h (ea_cons h' ea_nil)) fun H1 _ Q q => hr H1 Q (q H1 (Ex.refl _))
/-- for (k, x) in enumerate(xs), xs left as it is -/
theorem for_enum {K : PySem.W.Frag} {a : Addr} {xs : List V} {g : TG} {tb : TS} {D : Ends} {σ : L2.St} {H : Hp} (Pv : Nat → L2.St → Hp → Prop) (h0 : Pv 0 σ H) (hl : ∀ i σ H, i ≤ xs.length → Pv i σ H → SqL K H a xs)
    (hs : ∀ i x T σ H, xs[i]? = some x → Pv i σ H → H T = none → g (.ref T) σ (upd H T (.tup [.int (i : Nat), x])) fun σ2 H2 => tb { D with nx := Pv (i + 1), ct := Pv (i + 1), bk := D.nx } σ2 H2) (hd : ∀ σ H, Pv xs.length σ H → D.nx σ H) :
    ∃ W : Nat → Nat → L2.St → Hp → Prop, (∃ m, W 0 m σ H) ∧ ∀ i m σ H, W i m σ H → ((Ite K a).stop i H ∧ D.nx σ H) ∨ ((Ite K a).go i H ∧ ∃ N : L2.St → Hp → Prop, (∀ σ' H', N σ' H' → ∃ m', m' < m ∧ W (i + 1) m' σ' H') ∧
      ∀ x H', (Ite K a).yld i H x H' → g x σ H' fun σ2 H2 => tb { D with nx := N, ct := N, bk := D.nx } σ2 H2) := by
  refine ⟨fun i m σ H => i + m = xs.length ∧ Pv i σ H, ⟨xs.length, by omega, h0⟩, fun i m σ H hw => ?_⟩
  obtain ⟨e, p⟩ := hw
  have q := hl i σ H (by omega) p
  cases m with
  | zero =>
    obtain rfl : i = xs.length := by omega
    exact .inl ⟨⟨xs, q, Nat.le_refl _⟩, hd σ H p⟩
  | succ m =>
    have hi : i < xs.length := by omega
    refine .inr ⟨⟨xs, xs[i], q, List.getElem?_eq_getElem hi⟩, Pv (i + 1), fun σ' H' p' => ⟨m, by omega, by omega, p'⟩, fun v H' y => ?_⟩
    obtain ⟨T, x, rfl, hT, rfl, hx⟩ := y
    exact hs i x T σ H (hx xs q) p hT
theorem q_forE {K : PySem.W.Frag} {σ : L2.St} {H : Hp} {tl : TE} {i j : Nat} {xs : List V} {tu tz : TS} {D : Ends} (h : EvL tl σ H xs) (Pv : Addr → Nat → L2.St → Hp → Prop) (h0 : ∀ p H1, H p = none → Same H H1 → H1 p = some (.lst xs) → Pv p 0 σ H1)
    (hl : ∀ p k σ' H', k ≤ xs.length → Pv p k σ' H' → SqL K H' p xs)
    (hs : ∀ p (k : Nat) x T σ' H', xs[k]? = some x → Pv p k σ' H' → H' T = none → tu { D with nx := Pv p (k + 1), ct := Pv p (k + 1), bk := tz D } ((σ'.set i (some (.int (k : Nat)))).set j (some x)) (upd H' T (.tup [.int (k : Nat), x])))
    (hd : ∀ p σ' H', Pv p xs.length σ' H' → tz D σ' H') : tSeq (tFor (iEnum K (tCons tl tNil)) (gTup K 2 (gCons (gName i) (gCons (gName j) gNil))) tu) tz D σ H := by
  refine h H (Ex.refl _) _ fun p H1 np e1 hp => ⟨p, xs, rfl, SqL.of hp, ?_⟩
  refine for_enum (D := { D with nx := tz D }) (Pv p) (h0 p H1 np e1 hp) (hl p) (fun k x T σ' H' hx hP hT => ?_) (hd p)
  exact ⟨T, _, rfl, SqT.of upd_same, rfl, _, _, rfl, _, _, rfl, rfl, hs p k x T σ' H' hx hP hT⟩
/-- [e for k in range(n)], e a draw or more at each turn -/
theorem r_lcB {σ : L2.St} {H : Hp} {Q : VK} {ta : TA} {te : TE} {j n : Nat} {vs : List Nat} {b : Addr} {N c : Nat} {bs : List Addr} (p : PyData → Prop) (hb : b ∈ bs) (hbs : ∀ x ∈ bs, H x ≠ none) (hB : Box H b N) (ha : EvA ta σ H [.int (n : Int)]) (hn : n ≤ 40000)
    (hw : ∀ x, wipe ((wipe σ vs).set j (some x)) vs = wipe σ vs)
    (step : ∀ (i : Nat) (H' : Hp) (cs : List Addr) (Q' : VK), i < n → (∀ x ∈ bs, x ∈ cs) → (∀ x ∈ cs, H' x ≠ none) → Box H' b (N + c * i) → Keep cs H H' →
      (∀ (y : V) (d : PyData) (H2 : Hp), Box H2 b (N + c * (i + 1)) → Keep [b] H' H2 → Dq (hid cs H2) y d → p d → Q' y H2) → te ((wipe σ vs).set j (some (.int (i : Int)))) H' Q')
    (k : ∀ (D : Addr) (ds : List PyData) (H' : Hp), H D = none → Box H' b (N + c * n) → Keep [b] H H' → Dq (hid bs H') (.ref D) (.list ds) → ds.length = n → (∀ d ∈ ds, p d) → Q (.ref D) H') :
    tLc (iRng1 ta) (gName j) tYes te vs σ H Q := by
  refine ha H (Ex.refl _) _ fun H1 e1 => ⟨n, rfl, by omega, by omega, fun D hD => ?_⟩
  have hHD : H D = none := fresh_back e1 hD
  have hDb : D ∉ bs := fun z => hbs D z hHD
  have toN : ((n : Int)).toNat = n := by omega
  rw [toN]
  refine lc_range (lo := 0) (n := n) (fun i H' => ∃ (acc : List V) (ds : List PyData), H' D = some (.lst acc) ∧ ds.length = i ∧ DqAll (hid (D :: bs) H') acc ds ∧ (∀ d ∈ ds, p d) ∧ Box H' b (N + c * i) ∧ Keep [b] H H')
    ⟨[], [], upd_same, rfl, .nil, (fun _ z => nomatch z), (hB.mono e1).upd hD, (Keep.of e1).new hD⟩ (fun i H' hi hp => ?_) (fun H' hp => ?_)
  · obtain ⟨acc, ds, h1, h2, h3, h4, h5, h6⟩ := hp
    have e0 : (0 : Int) + (i : Int) = (i : Int) := Int.zero_add _
    show wipe ((wipe σ vs).set j (some (.int ((0 : Int) + (i : Int))))) vs = wipe σ vs ∧ te ((wipe σ vs).set j (some (.int ((0 : Int) + (i : Int))))) H' _
    rw [e0]
    refine ⟨hw _, step i H' (D :: bs) _ hi (fun x hx => List.mem_cons_of_mem _ hx) (fun x hx => ?_) h5 (h6.more fun x hx => ?_) fun y d H2 b1 b2 b3 b4 => ?_⟩
    · rcases List.mem_cons.mp hx with rfl | hx
      · rw [h1]; exact fun z => nomatch z
      · by_cases hxb : x = b
        · subst hxb; exact h5.is
        · intro z
          cases hh : H x with
          | none => exact hbs x hx hh
          | some o =>
            rw [h6.get (by simpa using hxb) hh] at z
            cases z
    · have e : x = b := by simpa using hx
      subst e
      exact List.mem_cons_of_mem _ hb
    · have hbD : D ≠ b := fun z => hDb (z ▸ hb)
      have hb1 : D ∉ [b] := by simpa using hbD
      refine ⟨acc, b2.get hb1 h1, ?_, acc ++ [y], ds ++ [d], upd_same, by rw [List.length_append, h2] <;> rfl, ?_, ?_, ?_, ?_⟩
      · have := h3.len
        rw [h2] at this
        exact Nat.lt_of_le_of_lt (Nat.le_of_eq this) (Nat.lt_of_lt_of_le (Nat.lt_trans hi (Nat.lt_of_le_of_lt hn (by decide : 40000 < 50000))) (by decide))
      · have kk : Keep (D :: bs) H' (upd H2 D (.lst (acc ++ [y]))) := (b2.more fun x hx => by
          have e : x = b := by simpa using hx
          subst e
          exact List.mem_cons_of_mem _ hb).put (List.mem_cons_self ..)
        have k2 : Keep (D :: bs) H2 (upd H2 D (.lst (acc ++ [y]))) := (Keep.refl _ _).put (List.mem_cons_self ..)
        exact (kk.dqAll h3).append (.cons (k2.dq b3) .nil)
      · intro d' hd'
        rcases List.mem_append.mp hd' with hd' | hd'
        · exact h4 d' hd'
        · have e : d' = d := by simpa using hd'
          subst e
          exact b4
      · obtain ⟨r, s, c', g1, g2⟩ := b1
        exact ⟨r, s, c', by rw [upd_ne hbD.symm]; exact g1, g2⟩
      · intro x o q
        obtain ⟨q1, q2⟩ := hid_some q
        have hxD : x ≠ D := ne_of_none q2 hHD
        rw [hid_out q1, upd_ne hxD]
        exact b2.get q1 (h6.get q1 q2)
  · obtain ⟨acc, ds, h1, h2, h3, h4, h5, h6⟩ := hp
    refine k D ds H' hHD h5 h6 (.lst (by rw [hid_out hDb]; exact h1) (h3.mono (hid_less fun x hx => List.mem_cons_of_mem _ hx))) h2 h4
end Cg

set_option Elab.async false
set_option linter.all false
set_option maxRecDepth 100000
namespace Cg
open PySem PySem.Spec PyProof.Rows L2 Evl
/-! ### readings by the data: nothing is changed, bs is what may be hidden -/
def Live (bs : List Addr) (H : Hp) : Prop := ∀ x ∈ bs, H x ≠ none
def EvQ (bs : List Addr) (te : TE) (σ : L2.St) (H : Hp) (d : PyData) : Prop := ∀ H1, Same H H1 → ∀ Q : VK, (∀ v H2, Same H1 H2 → Dq (hid bs H2) v d → Q v H2) → te σ H1 Q
def EvQA (bs : List Addr) (ta : TA) (σ : L2.St) (H : Hp) (ds : List PyData) : Prop := ∀ H1, Same H H1 → ∀ Q : List V → Hp → Prop, (∀ vs H2, Same H1 H2 → DqAll (hid bs H2) vs ds → Q vs H2) → ta σ H1 Q
def cutG {α : Type} (xs : List α) (lo hi : Option Int) : List α := (xs.drop (HT.sIx xs.length 0 lo)).take (HT.sIx xs.length xs.length hi - HT.sIx xs.length 0 lo)
section
variable {bs : List Addr} {K : PySem.W.Frag} {σ : L2.St} {H H' : Hp} {ta tb te : TE} {v : V} {d e : PyData} {ds es : List PyData} {T : String} {b : Bool}
theorem Live.mono (l : Live bs H) (e : Same H H') : Live bs H' := fun x hx => by
  cases hh : H x with
  | none => exact absurd hh (l x hx)
  | some o => rw [e x o hh]; exact fun z => nomatch z
theorem Live.out {p : Addr} (l : Live bs H) (hp : H p = none) : p ∉ bs := fun z => l p z hp
theorem Live.keep {b : Addr} {n : Nat} (l : Live bs H) (k : Keep [b] H H') (hB : Box H' b n) : Live bs H' := fun x hx => k.live hB (l x hx)
theorem keep_up {b : Addr} (hb : b ∈ bs) (k : Keep [b] H H') : Keep bs H H' := k.more fun x hx => by
  have e : x = b := by simpa using hx
  subst e
  exact hb
theorem same_hid (e : Same H H') : Same (hid bs H) (hid bs H') := Keep.of e
theorem EvQ.mono (s : Same H H') (h : EvQ bs te σ H d) : EvQ bs te σ H' d := fun H1 a Q q => h H1 (s.trans a) Q q
theorem eq_ev (h : Ev te σ H v) (hd : Dq (hid bs H) v d) : EvQ bs te σ H d := fun H1 a Q q => h H1 a Q fun H2 e2 => q v H2 e2 (hd.mono (same_hid (a.trans e2)))
theorem eq_var {i : Nat} (h : σ[i]? = some (some v)) (hd : Dq (hid bs H) v d) : EvQ bs (tVar i) σ H d := eq_ev (ev_var h) hd
theorem eq_int {i : Int} (h : Ev te σ H (.int i)) : EvQ bs te σ H (.int i) := eq_ev h (.int i)
theorem eq_bl {b : Bool} (h : Ev te σ H (.bl b)) : EvQ bs te σ H (.bool b) := eq_ev h (.bl b)
theorem eq_non (h : Ev te σ H .non) : EvQ bs te σ H .none := eq_ev h .non
theorem eq_str {x : Str} (h : Ev te σ H (.str x)) : EvQ bs te σ H (.str x) := eq_ev h (.str x)
theorem ev_int {i : Int} (h : EvQ bs te σ H (.int i)) : Ev te σ H (.int i) := fun H1 a Q q => h H1 a Q fun v H2 e2 hd => by
  rw [hd.int_inv]
  exact q H2 e2
theorem qa_nil : EvQA bs tNil σ H [] := fun H1 _ _ q => q [] H1 (Same.refl _) .nil
theorem qa_cons {tr : TA} (h : EvQ bs te σ H d) (hr : EvQA bs tr σ H ds) : EvQA bs (tCons te tr) σ H (d :: ds) := fun H1 a Q q => h H1 a _ fun v H2 e2 hd =>
  hr H2 (a.trans e2) _ fun vs H3 e3 hds => q (v :: vs) H3 (e2.trans e3) (.cons (hd.mono (same_hid e3)) hds)
theorem eq_lst {ta : TA} (l : Live bs H) (h : EvQA bs ta σ H ds) (hz : ds.length ≤ 1000000) : EvQ bs (tLst ta) σ H (.list ds) := fun H1 a Q q => h H1 a _ fun vs H2 e2 hds =>
  ⟨by rw [hds.len]; exact Nat.le_trans hz (by decide), fun p np => q _ _ (e2.trans (Ex.new np)) (.lst (by rw [hid_out ((l.mono (a.trans e2)).out np), upd_same]) (hds.mono (same_hid (Ex.new np))))⟩
theorem eq_tup {ta : TA} (l : Live bs H) (h : EvQA bs ta σ H ds) (hz : ds.length ≤ 1000000) : EvQ bs (tTup ta) σ H (.tuple ds) := fun H1 a Q q => h H1 a _ fun vs H2 e2 hds =>
  ⟨by rw [hds.len]; exact Nat.le_trans hz (by decide), fun p np => q _ _ (e2.trans (Ex.new np)) (.tup (by rw [hid_out ((l.mono (a.trans e2)).out np), upd_same]) (hds.mono (same_hid (Ex.new np))))⟩
theorem eq_cat (l : Live bs H) (ha : EvQ bs ta σ H (.list ds)) (hb : EvQ bs tb σ H (.list es)) (hz : ds.length + es.length ≤ 1000000) : EvQ bs (tOp rCat ta tb) σ H (.list (ds ++ es)) := fun H1 a Q q => ha H1 a _ fun v H2 e2 hd => hb H2 (a.trans e2) _ fun u H3 e3 he => by
  obtain ⟨p, xs, rfl, hp, hx⟩ := (hd.mono (same_hid e3)).list_inv
  obtain ⟨r, ys, rfl, hr, hy⟩ := he.list_inv
  refine ⟨p, r, xs, ys, rfl, rfl, (hid_some hp).2, (hid_some hr).2, by rw [hx.len, hy.len]; exact Nat.le_trans hz (by decide), fun z nz => q _ _ ((e2.trans e3).trans (Ex.new nz)) (.lst (by rw [hid_out ((l.mono ((a.trans e2).trans e3)).out nz), upd_same]) ?_)⟩
  exact (hx.append hy).mono (same_hid (Ex.new nz))
theorem DqAll.cut {xs : List V} (h : DqAll H xs ds) (lo hi : Option Int) : DqAll H (cutV xs lo hi) (cutG ds lo hi) := by
  unfold cutV cutG
  rw [h.len]
  exact (h.drop _).take _
theorem eq_sl {tl th : TO} {lo hi : Option Int} (l : Live bs H) (ha : EvQ bs ta σ H (.list ds)) (h1 : EvO tl σ H lo) (h2 : EvO th σ H hi) : EvQ bs (tSl (rSlL K) ta tl th) σ H (.list (cutG ds lo hi)) := fun H1 a Q q => ha H1 a _ fun v H2 e2 hd =>
  h1 H2 (a.trans e2) _ fun H3 e3 => h2 H3 ((a.trans e2).trans e3) _ fun H4 e4 => by
  obtain ⟨p, xs, rfl, hp, hx⟩ := (hd.mono (same_hid (e3.trans e4))).list_inv
  exact ⟨p, xs, rfl, SqL.of (hid_some hp).2, fun z nz => q _ _ (((e2.trans e3).trans e4).trans (Ex.new nz)) (.lst (by rw [hid_out ((l.mono (((a.trans e2).trans e3).trans e4)).out nz), upd_same]) ((hx.cut lo hi).mono (same_hid (Ex.new nz))))⟩
theorem DqAll.flat {xs : List V} (h : DqAll H xs ds) : ∀ n : Nat, DqAll H (List.replicate n xs).flatten (List.replicate n ds).flatten
  | 0 => .nil
  | n + 1 => by
    rw [List.replicate_succ, List.flatten_cons, List.replicate_succ, List.flatten_cons]
    exact h.append (h.flat n)
theorem eq_rep {n : Nat} (l : Live bs H) (ha : EvQ bs ta σ H (.list ds)) (hb : Ev tb σ H (.int (n : Int))) (hn : n ≤ 1000000) (hz : ds.length * n ≤ 1000000) : EvQ bs (tOp rRep ta tb) σ H (.list (List.replicate n ds).flatten) := fun H1 a Q q => ha H1 a _ fun v H2 e2 hd => hb H2 (a.trans e2) _ fun H3 e3 => by
  obtain ⟨p, xs, rfl, hp, hx⟩ := (hd.mono (same_hid e3)).list_inv
  have e : ((n : Int)).toNat = n := by simp
  refine ⟨p, n, xs, rfl, rfl, (hid_some hp).2, by omega, by omega, by rw [hx.len, e]; exact Nat.le_trans hz (by decide), fun z nz => q _ _ ((e2.trans e3).trans (Ex.new nz)) (.lst (by rw [hid_out ((l.mono ((a.trans e2).trans e3)).out nz), upd_same]) ?_)⟩
  rw [e]
  exact (hx.flat n).mono (same_hid (Ex.new nz))
theorem eq_tupleL (l : Live bs H) (ha : EvQ bs ta σ H (.list ds)) : EvQ bs (tCB (rTupS K) (tCons ta tNil)) σ H (.tuple ds) := fun H1 a Q q => ha H1 a _ fun v H2 e2 hd => by
  obtain ⟨p, xs, rfl, hp, hx⟩ := hd.list_inv
  exact ⟨p, xs, rfl, .inl ⟨SqL.of (hid_some hp).2, fun z nz => q _ _ (e2.trans (Ex.new nz)) (.tup (by rw [hid_out ((l.mono (a.trans e2)).out nz), upd_same]) (hx.mono (same_hid (Ex.new nz))))⟩⟩
theorem eq_listL (l : Live bs H) (ha : EvQ bs ta σ H (.list ds)) : EvQ bs (tCB (rListS K) (tCons ta tNil)) σ H (.list ds) := fun H1 a Q q => ha H1 a _ fun v H2 e2 hd => by
  obtain ⟨p, xs, rfl, hp, hx⟩ := hd.list_inv
  exact ⟨p, xs, rfl, .inl (SqL.of (hid_some hp).2), fun z nz => q _ _ (e2.trans (Ex.new nz)) (.lst (by rw [hid_out ((l.mono (a.trans e2)).out nz), upd_same]) (hx.mono (same_hid (Ex.new nz))))⟩
theorem atG {xs : List V} {i : Int} (h : DqAll H xs ds) (hi : atI ds i = some d) : ∃ x, atI xs i = some x ∧ Dq H x d := by
  unfold atI at hi ⊢
  rw [h.len]
  cases hx : ixN ds.length i with
  | none => rw [hx] at hi; cases hi
  | some j =>
    rw [hx] at hi
    exact h.at hi
theorem eq_ix {i : Int} (ha : EvQ bs ta σ H (.list ds)) (hb : Ev tb σ H (.int i)) (hi : atI ds i = some d) : EvQ bs (tOp (rIxL K) ta tb) σ H d := fun H1 a Q q => ha H1 a _ fun v H2 e2 hd => hb H2 (a.trans e2) _ fun H3 e3 => by
  obtain ⟨p, xs, rfl, hp, hx⟩ := (hd.mono (same_hid e3)).list_inv
  obtain ⟨x, h1, h2⟩ := atG hx hi
  exact ⟨p, xs, i, x, rfl, rfl, SqL.of (hid_some hp).2, h1, q x H3 (e2.trans e3) h2⟩
theorem ev_isiQ (ha : EvQ bs ta σ H d) (hk : kitB (tyN d) T = some b) : Ev (tCB (rIsi K) (tCons ta (tCons (tC (.ty T)) tNil))) σ H (.bl b) := fun H1 e Q q =>
  ha H1 e _ fun v H2 e2 hd => ⟨v, .ty T, .type (tyN d), .type T, b, rfl, .ty T, (dq_vis hd).ty, kit_ty hk, q H2 e2⟩
theorem ev_lenQ (ha : EvQ bs ta σ H (.list ds)) : Ev (tCB (rLenS K) (tCons ta tNil)) σ H (.int (ds.length : Int)) := fun H1 e Q q => ha H1 e _ fun v H2 e2 hd => by
  obtain ⟨p, xs, rfl, hp, hx⟩ := hd.list_inv
  refine ⟨p, xs, rfl, .inl (SqL.of (hid_some hp).2), ?_⟩
  rw [hx.len]
  exact q H2 e2
theorem ev_lenQT (ha : EvQ bs ta σ H (.tuple ds)) : Ev (tCB (rLenS K) (tCons ta tNil)) σ H (.int (ds.length : Int)) := fun H1 e Q q => ha H1 e _ fun v H2 e2 hd => by
  obtain ⟨p, xs, rfl, hp, hx⟩ := hd.tup_inv
  refine ⟨p, xs, rfl, .inr (SqT.of (hid_some hp).2), ?_⟩
  rw [hx.len]
  exact q H2 e2
theorem ev_neQ (ha : EvQ bs ta σ H d) (hb : EvQ bs tb σ H e) (s1 : SeqAt.shaped d = true) (s2 : SeqAt.shaped e = true) : Ev (tOp (rNeD K) ta tb) σ H (.bl (!PyData.eqv d e)) := fun H1 a Q q => ha H1 a _ fun v H2 e2 hd => hb H2 (a.trans e2) _ fun u H3 e3 he =>
  ⟨d, e, (dq_vis (hd.mono (same_hid e3))).dp, (dq_vis he).dp, s1, s2, q H3 (e2.trans e3)⟩
theorem ev_eqQ (ha : EvQ bs ta σ H d) (hb : EvQ bs tb σ H e) (s1 : SeqAt.shaped d = true) (s2 : SeqAt.shaped e = true) : Ev (tOp (rEqD K) ta tb) σ H (.bl (PyData.eqv d e)) := fun H1 a Q q => ha H1 a _ fun v H2 e2 hd => hb H2 (a.trans e2) _ fun u H3 e3 he =>
  ⟨d, e, (dq_vis (hd.mono (same_hid e3))).dp, (dq_vis he).dp, s1, s2, q H3 (e2.trans e3)⟩
theorem eq_if {t : TT} {c : Bool} (h : EvT t σ H c) (h1 : c = true → EvQ bs ta σ H d) (h2 : c = false → EvQ bs tb σ H d) : EvQ bs (tIf t ta tb) σ H d := fun H1 a Q q => h H1 a _ fun H2 e2 => by
  cases c with
  | true => exact iteT (h1 rfl H2 (a.trans e2) Q fun v H3 e3 hd => q v H3 (e2.trans e3) hd)
  | false => exact iteF (h2 rfl H2 (a.trans e2) Q fun v H3 e3 hd => q v H3 (e2.trans e3) hd)
mutual
theorem canLay_ok : ∀ d : PyData, okD d = true → d.canLay0 = true
  | .none, _ => rfl
  | .bool _, _ => rfl
  | .int _, _ => rfl
  | .str x, h => h
  | .list xs, h => canLayAll_ok xs h
  | .tuple xs, h => canLayAll_ok xs h
  | .dict _, h => by cases h
theorem canLayAll_ok : ∀ xs : List PyData, okAll xs = true → PyData.canLayAll0 xs = true
  | [], _ => rfl
  | x :: r, h => by
    have h' : (okD x && okAll r) = true := h
    rw [Bool.and_eq_true] at h'
    show (PyData.canLay0 x && PyData.canLayAll0 r) = true
    rw [canLay_ok x h'.1, canLayAll_ok r h'.2] <;> rfl
end
theorem shaped_ok {d : PyData} (h : okD d = true) (hd : d.depth ≤ 64) : SeqAt.shaped d = true := by
  show (d.canLay0 && decide (d.depth ≤ 64)) = true
  rw [canLay_ok d h, decide_eq_true hd] <;> rfl
/-! statements -/
variable {D : Ends} {tz : TS}
theorem q_asgQ {i : Nat} (h : EvQ bs te σ H d) (k : ∀ v H1, Same H H1 → Dq (hid bs H1) v d → tz D (σ.set i (some v)) H1) : tSeq (tAsg te (gName i)) tz D σ H := h H (Same.refl _) _ fun v H1 e1 hd => k v H1 e1 hd
theorem s_asgQ {i : Nat} (h : EvQ bs te σ H d) (k : ∀ v H1, Same H H1 → Dq (hid bs H1) v d → D.nx (σ.set i (some v)) H1) : tAsg te (gName i) D σ H := h H (Same.refl _) _ fun v H1 e1 hd => k v H1 e1 hd
theorem s_retQ (h : EvQ bs te σ H d) (k : ∀ v H1, Same H H1 → Dq (hid bs H1) v d → D.rt v H1) : tRet te D σ H := h H (Same.refl _) _ fun v H1 e1 hd => k v H1 e1 hd
/-- a, b = x, y -/
theorem q_parQ {i j : Nat} {d2 : PyData} (h : EvQA bs (tCons ta (tCons tb tNil)) σ H [d, d2]) (k : ∀ v u H1, Same H H1 → Dq (hid bs H1) v d → Dq (hid bs H1) u d2 → tz D ((σ.set i (some v)).set j (some u)) H1) : tSeq (tPar i j (tCons ta (tCons tb tNil))) tz D σ H := by
  show (tCons ta (tCons tb tNil)) σ H (fun vs H1 => ∃ v w, vs = [v, w] ∧ tz D ((σ.set i (some v)).set j (some w)) H1)
  refine h H (Same.refl _) _ fun vs H1 e1 hd => ?_
  cases hd with
  | cons h1 t1 => cases t1 with
    | cons h2 t2 => cases t2 with
      | nil => exact ⟨_, _, rfl, k _ _ H1 e1 h1 h2⟩
/-- x = draw -/
theorem q_take {i i0 : Nat} {b : Addr} {m : Int} {n : Nat} (h0 : σ[i0]? = some (some (.ref b))) (hm : Ev te σ H (.int m)) (hB : Box H b n) (hn : n ≤ 1000000000) (h1 : 1 ≤ m) (h2 : m ≤ 10000000)
    (k : ∀ (j : Nat) (H' : Hp), (j : Int) < m → Box H' b (n + 1) → Keep [b] H H' → tz D (σ.set i (some (.int (j : Int)))) H') : tSeq (tAsg (tCall spTake [] E0 (tCons (tVar i0) (tCons te tNil))) (gName i)) tz D σ H :=
  r_take h0 hm hB hn h1 h2 fun x H' a1 a2 a3 a4 => by
    have e : x = ((x.toNat : Nat) : Int) := by omega
    have := k x.toNat H' (by omega) a3 a4
    rw [← e] at this
    exact this
/-- x = LIST[draw] -/
theorem q_pick {i i0 : Nat} {b : Addr} {m : Int} {n : Nat} {tl : TE} (h0 : σ[i0]? = some (some (.ref b))) (hb : b ∈ bs) (hl : EvQ bs tl σ H (.list ds)) (hm : Ev te σ H (.int m)) (hB : Box H b n) (hn : n ≤ 1000000000) (h1 : 1 ≤ m) (h2 : m ≤ 10000000) (h3 : m ≤ ds.length)
    (k : ∀ (j : Nat) (hj : j < ds.length) (x : V) (H' : Hp), Dq (hid bs H') x ds[j] → Box H' b (n + 1) → Keep [b] H H' → tz D (σ.set i (some x)) H') : tSeq (tAsg (tOp (rIxL K) tl (tCall spTake [] E0 (tCons (tVar i0) (tCons te tNil)))) (gName i)) tz D σ H := by
  have go : tl σ H fun x H1 => tCall spTake [] E0 (tCons (tVar i0) (tCons te tNil)) σ H1 fun y H2 => rIxL K x y H2 fun z H3 => tz D (σ.set i (some z)) H3 := by
    refine hl H (Same.refl _) _ fun v H1 e1 hd => ?_
    refine r_take h0 (fun H2 e2 => hm H2 (e1.trans e2)) (hB.mono e1) hn h1 h2 fun x H' a1 a2 a3 a4 => ?_
    obtain ⟨p, xs, rfl, hp, hx⟩ := ((keep_up hb a4).dq hd).list_inv
    have hj : x.toNat < ds.length := by omega
    have e : x = ((x.toNat : Nat) : Int) := by omega
    obtain ⟨y, gy, dy⟩ := atG hx (atI_nat (List.getElem?_eq_getElem hj))
    rw [← e] at gy
    exact ⟨p, xs, x, y, rfl, rfl, SqL.of (hid_some hp).2, gy, k x.toNat hj y H' dy a3 ((Keep.of e1).trans a4)⟩
  exact go
/-! new lists, comprehensions -/
theorem hid_fresh {D : Addr} {o : HO} (hD : H D = none) : Same (hid bs H) (hid (D :: bs) (upd H D o)) := fun a x q => by
  obtain ⟨h1, h2⟩ := hid_some q
  have hne : a ≠ D := ne_of_none h2 hD
  rw [hid_out (fun z => (List.mem_cons.mp z).elim hne h1), upd_ne hne]
  exact h2
/-- a new list of its own -/
def EvN (bs : List Addr) (te : TE) (σ : L2.St) (H : Hp) (ds : List PyData) : Prop := ∀ H1, Same H H1 → ∀ Q : VK, (∀ p xs H2, H1 p = none → Same H1 H2 → H2 p = some (.lst xs) → DqAll (hid (p :: bs) H2) xs ds → Q (.ref p) H2) → te σ H1 Q
theorem en_lst {ta : TA} (h : EvQA bs ta σ H ds) (hz : ds.length ≤ 1000000) : EvN bs (tLst ta) σ H ds := fun H1 a Q q => h H1 a _ fun vs H2 e2 hds =>
  ⟨by rw [hds.len]; exact Nat.le_trans hz (by decide), fun p np => q p vs _ (fresh_back e2 np) (e2.trans (Ex.new np)) upd_same (hds.mono (hid_fresh np))⟩
theorem en_cat (ha : EvQ bs ta σ H (.list ds)) (hb : EvQ bs tb σ H (.list es)) (hz : ds.length + es.length ≤ 1000000) : EvN bs (tOp rCat ta tb) σ H (ds ++ es) := fun H1 a Q q => ha H1 a _ fun v H2 e2 hd => hb H2 (a.trans e2) _ fun u H3 e3 he => by
  obtain ⟨p, xs, rfl, hp, hx⟩ := (hd.mono (same_hid e3)).list_inv
  obtain ⟨r, ys, rfl, hr, hy⟩ := he.list_inv
  exact ⟨p, r, xs, ys, rfl, rfl, (hid_some hp).2, (hid_some hr).2, by rw [hx.len, hy.len]; exact Nat.le_trans hz (by decide), fun z nz => q z _ _ (fresh_back (e2.trans e3) nz) ((e2.trans e3).trans (Ex.new nz)) upd_same ((hx.append hy).mono (hid_fresh nz))⟩
theorem en_eq (l : Live bs H) (h : EvN bs te σ H ds) : EvQ bs te σ H (.list ds) := fun H1 a Q q => h H1 a Q fun p xs H2 np e2 hp hx =>
  q (.ref p) H2 e2 (.lst (by rw [hid_out ((l.mono a).out np)]; exact hp) (hx.mono (hid_less fun x hx => List.mem_cons_of_mem _ hx)))
theorem q_asgN {i : Nat} (h : EvN bs te σ H ds) (k : ∀ p xs H1, H p = none → Same H H1 → H1 p = some (.lst xs) → DqAll (hid (p :: bs) H1) xs ds → tz D (σ.set i (some (.ref p))) H1) : tSeq (tAsg te (gName i)) tz D σ H :=
  h H (Same.refl _) _ fun p xs H1 np e1 hp hx => k p xs H1 np e1 hp hx
/-- [e for x in xs], data by data -/
theorem en_lc {tl : TE} {j : Nat} {vs : List Nat} (g : PyData → PyData) (l : Live bs H) (h : EvQ bs tl σ H (.list ds)) (hz : ds.length ≤ 40000) (hw : ∀ x, wipe ((wipe σ vs).set j (some x)) vs = wipe σ vs)
    (he : ∀ (cs : List Addr) (x : V) (d : PyData) (H1 : Hp), Same H H1 → (∀ y ∈ bs, y ∈ cs) → Live cs H1 → d ∈ ds → Dq (hid cs H1) x d → EvQ cs te ((wipe σ vs).set j (some x)) H1 (g d)) :
    EvN bs (tLc (iList K tl) (gName j) tYes te vs) σ H (ds.map g) := fun H0 a Q q => h H0 a _ fun v H1 e1 hd => by
  obtain ⟨p, xs, rfl, hp, hx⟩ := hd.list_inv
  have hp' := (hid_some hp).2
  refine ⟨p, rfl, ⟨xs, SqL.of hp'⟩, fun D hD => ?_⟩
  have l1 : Live bs H1 := l.mono (a.trans e1)
  have hx0 : DqAll (hid (D :: bs) (upd H1 D (.lst []))) xs ds := hx.mono (hid_fresh hD)
  refine lc_list (K := K) (a := p) (xs := xs) (fun i H' => ∃ acc : List V, H' D = some (.lst acc) ∧ DqAll (hid (D :: bs) H') acc ((ds.take i).map g) ∧ Same H1 H' ∧ DqAll (hid (D :: bs) H') xs ds)
    ⟨[], upd_same, .nil, Ex.new hD, hx0⟩ (fun i H' _ hP => ?_) (fun i x H' hi hP => ?_) (fun H' hP => ?_)
  · obtain ⟨_, _, _, sm, _⟩ := hP
    exact SqL.of (sm _ _ hp')
  · obtain ⟨acc, h1, h2, h3, h4⟩ := hP
    obtain ⟨d, gd, dd⟩ := h4.get hi
    have hil := (List.getElem?_eq_some_iff.mp gd).1
    have lD : Live (D :: bs) H' := fun y hy => by
      rcases List.mem_cons.mp hy with rfl | hy
      · rw [h1]; exact fun z => nomatch z
      · exact (l1.mono h3) y hy
    refine ⟨hw x, ?_⟩
    show te ((wipe σ vs).set j (some x)) H' fun y H4 => ∃ acc, H4 D = some (.lst acc) ∧ acc.length < sizeLine ∧ _
    refine he (D :: bs) x d H' ((a.trans e1).trans h3) (fun y hy => List.mem_cons_of_mem _ hy) lD (List.mem_of_getElem? gd) dd H' (Same.refl _) _ fun y H4 e4 dy => ⟨acc, e4 _ _ h1, ?_, acc ++ [y], upd_same, ?_, ?_, ?_⟩
    · have := h2.len
      rw [List.length_map, List.length_take] at this
      exact Nat.lt_of_le_of_lt (show acc.length ≤ 40000 by omega) (by decide)
    · have kk : Keep (D :: bs) H4 (upd H4 D (.lst (acc ++ [y]))) := (Keep.refl _ _).put (List.mem_cons_self ..)
      rw [List.take_add_one, gd, List.map_append]
      exact ((h2.mono (same_hid e4)).mono kk).append (.cons (dy.mono kk) .nil)
    · exact fun c o q => by
        rw [upd_ne (ne_of_none q hD)]
        exact e4 _ _ (h3 _ _ q)
    · have kk : Keep (D :: bs) H4 (upd H4 D (.lst (acc ++ [y]))) := (Keep.refl _ _).put (List.mem_cons_self ..)
      exact (h4.mono (same_hid e4)).mono kk
  · obtain ⟨acc, h1, h2, h3, h4⟩ := hP
    rw [h4.len, List.take_of_length_le (Nat.le_refl _)] at h2
    exact q D acc H' (fresh_back e1 hD) (e1.trans h3) h1 h2
theorem eq_lc {tl : TE} {j : Nat} {vs : List Nat} (g : PyData → PyData) (l : Live bs H) (h : EvQ bs tl σ H (.list ds)) (hz : ds.length ≤ 40000) (hw : ∀ x, wipe ((wipe σ vs).set j (some x)) vs = wipe σ vs)
    (he : ∀ (cs : List Addr) (x : V) (d : PyData) (H1 : Hp), Same H H1 → (∀ y ∈ bs, y ∈ cs) → Live cs H1 → d ∈ ds → Dq (hid cs H1) x d → EvQ cs te ((wipe σ vs).set j (some x)) H1 (g d)) :
    EvQ bs (tLc (iList K tl) (gName j) tYes te vs) σ H (.list (ds.map g)) := en_eq l (en_lc g l h hz hw he)
theorem ev_reprQ (ha : EvQ bs ta σ H d) (h1 : okD d = true) (h2 : d.depth ≤ 40) (h3 : wz d ≤ 1000000) : Ev (tCB (rReprD K) (tCons ta tNil)) σ H (.str d.shown) := fun H1 a Q q => ha H1 a _ fun v H2 e2 hd =>
  ⟨v, d, rfl, (dq_vis hd).dp, h1, h2, Nat.le_trans h3 (by decide), q H2 e2⟩
end
/-- such a def, kept where no repr is under way -/
structure DfG (P : Program) (w : World) (K : PySem.W.Frag) (mg : Str → Option Value) (base : Heap) (k : Nat) (x : Str) (st : Stmt) (ps : List Str) (f : Addr) (fd : FuncData) (sp : Sp) : Prop where
  F : Fun K x x st f fd
  g : mg x = some (.ref f)
  b : Binds K fd ps []
  G : FnG P w K mg base k f fd ps sp
end Cg

set_option Elab.async false
set_option linter.all false
set_option maxRecDepth 100000
namespace Cg
open PySem PySem.Spec PyProof.Rows L2 Evl
/-! ### lists of data: what holds of each -/
theorem okAll_iff : ∀ {xs : List PyData}, okAll xs = true ↔ ∀ x ∈ xs, okD x = true
  | [] => ⟨(fun _ _ z => nomatch z), fun _ => rfl⟩
  | x :: r => by
    show (okD x && okAll r) = true ↔ _
    rw [Bool.and_eq_true, okAll_iff (xs := r)]
    exact ⟨fun h y hy => (List.mem_cons.mp hy).elim (fun e => e ▸ h.1) (h.2 y), fun h => ⟨h x (List.mem_cons_self ..), fun y hy => h y (List.mem_cons_of_mem _ hy)⟩⟩
theorem depthAll_iff {k : Nat} : ∀ {xs : List PyData}, PyData.depthAll xs ≤ k ↔ ∀ x ∈ xs, x.depth ≤ k
  | [] => ⟨(fun _ _ z => nomatch z), fun _ => Nat.zero_le _⟩
  | x :: r => by
    show max x.depth (PyData.depthAll r) ≤ k ↔ _
    rw [Nat.max_le, depthAll_iff (xs := r)]
    exact ⟨fun h y hy => (List.mem_cons.mp hy).elim (fun e => e ▸ h.1) (h.2 y), fun h => ⟨h x (List.mem_cons_self ..), fun y hy => h y (List.mem_cons_of_mem _ hy)⟩⟩
theorem wzAll_append : ∀ (xs ys : List PyData), wzAll (xs ++ ys) = wzAll xs + wzAll ys
  | [], ys => (Nat.zero_add _).symm
  | x :: r, ys => by
    show wz x + 2 + wzAll (r ++ ys) = wz x + 2 + wzAll r + wzAll ys
    rw [wzAll_append r ys]
    omega
theorem wzAll_split (n : Nat) (xs : List PyData) : wzAll (xs.take n) + wzAll (xs.drop n) = wzAll xs := by rw [← wzAll_append, List.take_append_drop]
theorem wzAll_drop1 (xs : List PyData) (n : Nat) : wzAll (xs.drop (n + 1)) ≤ wzAll (xs.drop n) := by
  have h := wzAll_split 1 (xs.drop n)
  rw [List.drop_drop] at h
  omega
theorem wzAll_le {R : Nat} : ∀ {xs : List PyData}, (∀ x ∈ xs, wz x ≤ R) → wzAll xs ≤ (R + 2) * xs.length
  | [], _ => Nat.zero_le _
  | x :: r, h => by
    have h1 := wzAll_le (xs := r) fun y hy => h y (List.mem_cons_of_mem _ hy)
    have h2 := h x (List.mem_cons_self ..)
    show wz x + 2 + wzAll r ≤ (R + 2) * (r.length + 1)
    rw [Nat.mul_succ]
    omega
theorem cut_to {α : Type} (xs : List α) (n : Nat) : cutG xs none (some (n : Int)) = xs.take n := by
  unfold cutG
  rw [HT.sIx_none, HT.sIx_nat, Nat.sub_zero, List.drop_zero]
  by_cases h : n ≤ xs.length
  · rw [Nat.min_eq_left h]
  · rw [Nat.min_eq_right (show xs.length ≤ n by omega), List.take_of_length_le (Nat.le_refl _), List.take_of_length_le (show xs.length ≤ n by omega)]
theorem cut_from {α : Type} (xs : List α) (n : Nat) : cutG xs (some (n : Int)) none = xs.drop n := by
  unfold cutG
  rw [HT.sIx_none, HT.sIx_nat]
  by_cases h : n ≤ xs.length
  · rw [Nat.min_eq_left h, List.take_of_length_le (by rw [List.length_drop]; omega)]
  · rw [Nat.min_eq_right (show xs.length ≤ n by omega), List.drop_of_length_le (Nat.le_refl _), List.drop_of_length_le (show xs.length ≤ n by omega), List.take_nil]
theorem eqv_nil (xs : List PyData) : PyData.eqv (.list xs) (.list []) = xs.isEmpty := by cases xs <;> rfl
/-- `[x] * n` -/
theorem rep_one {α : Type} (n : Nat) (x : α) : (List.replicate n [x]).flatten = List.replicate n x := by
  induction n with
  | zero => rfl
  | succ n ih => rw [List.replicate_succ, List.flatten_cons, ih]; rfl
/-- return all([e for k in range(n)]), each e True, nothing changed that was -/
theorem r_lawAll {K : PySem.W.Frag} {σ : L2.St} {H : Hp} {D : Ends} {ta : TA} {te : TE} {j n : Nat} {vs : List Nat} (ha : EvA ta σ H [.int (n : Int)]) (hn : n ≤ 40000) (hw : ∀ x, wipe ((wipe σ vs).set j (some x)) vs = wipe σ vs)
    (step : ∀ (i : Nat) (H' : Hp) (Q : VK), i < n → Same H H' → (∀ H2, Same H' H2 → Q (.bl true) H2) → te ((wipe σ vs).set j (some (.int (i : Int)))) H' Q) (k : ∀ H', Same H H' → D.rt (.bl true) H') :
    tRet (tCB (rAll K) (tCons (tLc (iRng1 ta) (gName j) tYes te vs) tNil)) D σ H := by
  have go : tLc (iRng1 ta) (gName j) tYes te vs σ H fun x H1 => rAll K [x] H1 D.rt := by
    refine ha H (Ex.refl _) _ fun H1 e1 => ⟨n, rfl, by omega, by omega, fun A nA => ?_⟩
    have toN : ((n : Int)).toNat = n := by omega
    rw [toN]
    refine lc_range (lo := 0) (n := n) (fun i H' => H' A = some (.lst ((List.replicate i true).map V.bl)) ∧ Same H1 H') ⟨upd_same, Ex.new nA⟩ (fun i H' hi hP => ?_) (fun H' hP => ?_)
    · obtain ⟨h1, h2⟩ := hP
      have e0 : (0 : Int) + (i : Int) = (i : Int) := Int.zero_add _
      show wipe ((wipe σ vs).set j (some (.int ((0 : Int) + (i : Int))))) vs = wipe σ vs ∧ te ((wipe σ vs).set j (some (.int ((0 : Int) + (i : Int))))) H' _
      rw [e0]
      refine ⟨hw _, step i H' _ hi (e1.trans h2) fun H2 e2 => ⟨_, e2 _ _ h1, ?_, ?_, fun a o q => ?_⟩⟩
      · rw [List.length_map, List.length_replicate]
        exact Nat.lt_of_le_of_lt (show i ≤ 40000 by omega) (by decide)
      · rw [upd_same, List.replicate_succ', List.map_append]; rfl
      · rw [upd_ne (ne_of_none q nA)]
        exact e2 _ _ (h2 _ _ q)
    · obtain ⟨h1, h2⟩ := hP
      refine ⟨A, List.replicate n true, rfl, SqL.of h1, ?_⟩
      have e : (List.replicate n true).all id = true := List.all_eq_true.mpr fun x hx => by rw [List.eq_of_mem_replicate hx]; rfl
      rw [e]
      exact k H' (e1.trans h2)
  exact go
/-- a box made here is nobody else's -/
theorem same_box {H H1 H2 : Hp} {b : Addr} (e : Same H H1) (nb : H b = none) (k : Keep [b] H1 H2) : Same H H2 := fun a o q => k.get (by simpa using ne_of_none q nb) (e _ _ q)
/-- max(1, len(xs)) -/
theorem ev_max1 {K : PySem.W.Frag} {σ : L2.St} {H : Hp} {i : Nat} {l : Addr} {xs : List V} (hs : σ[i]? = some (some (.ref l))) (hh : H l = some (.lst xs)) :
    EvA (tCons (tCB (fun xs H Q => ∃ i j, xs = [V.int i, V.int j] ∧ Q (V.int (if j > i then j else i)) H) (tCons (tC (.int 1)) (tCons (tCB (rLenS K) (tCons (tVar i) tNil)) tNil))) tNil) σ H [.int ((max 1 xs.length : Nat) : Int)] := by
  refine ea_cons (ev_is (ev_cb2 ev_c (ev_len (ev_var hs) (SqL.of hh)) fun H1 Q q => ⟨_, _, rfl, q⟩) ?_) ea_nil
  split
  · rw [Nat.max_eq_right (by omega)]
  · rw [Nat.max_eq_left (by omega)]; rfl
end Cg

set_option Elab.async false
set_option linter.all false
set_option maxRecDepth 100000
namespace K01
open PySem PySem.Spec PyProof.Rows L2 Evl Cg
def topS (i : Nat) : Stmt := PySem.Challenge.pw_crossgrants_k01_tables_or_not.main.body.getD i (.Pass ⟨0, 0, 0, 0⟩)
abbrev st_is_number : Stmt := topS 1
theorem sc_is_number : FnScope ["thing"] ["thing"] (defScope st_is_number) := ⟨rfl, rfl, rfl, by decide +kernel, rfl, by decide +kernel, by decide +kernel⟩
abbrev st_is_between : Stmt := topS 2
theorem sc_is_between : FnScope ["thing", "least", "most"] ["thing", "least", "most"] (defScope st_is_between) := ⟨rfl, rfl, rfl, by decide +kernel, rfl, by decide +kernel, by decide +kernel⟩
abbrev st_is_size : Stmt := topS 5
theorem sc_is_size : FnScope ["thing"] ["thing"] (defScope st_is_size) := ⟨rfl, rfl, rfl, by decide +kernel, rfl, by decide +kernel, by decide +kernel⟩
abbrev st_is_mark : Stmt := topS 6
theorem sc_is_mark : FnScope ["thing"] ["thing"] (defScope st_is_mark) := ⟨rfl, rfl, rfl, by decide +kernel, rfl, by decide +kernel, by decide +kernel⟩
abbrev st_is_row : Stmt := topS 7
theorem sc_is_row : FnScope ["thing", "outlets", "mark"] ["thing", "outlets"] (defScope st_is_row) := ⟨rfl, rfl, rfl, by decide +kernel, rfl, by decide +kernel, by decide +kernel⟩
abbrev st_is_table : Stmt := topS 8
theorem sc_is_table : FnScope ["thing", "first", "row"] ["thing"] (defScope st_is_table) := ⟨rfl, rfl, rfl, by decide +kernel, rfl, by decide +kernel, by decide +kernel⟩
abbrev st_law_is_bit : Stmt := topS 15
theorem sc_law_is_bit : FnScope ["_law_thing"] ["_law_thing"] (defScope st_law_is_bit) := ⟨rfl, rfl, rfl, by decide +kernel, rfl, by decide +kernel, by decide +kernel⟩
abbrev st_law_is_table : Stmt := topS 16
theorem sc_law_is_table : FnScope ["_law_thing", "_law_row", "_law_one"] ["_law_thing"] (defScope st_law_is_table) := ⟨rfl, rfl, rfl, by decide +kernel, rfl, by decide +kernel, by decide +kernel⟩
/-! ### what a table is -/
def isNum : PyData → Bool
  | .int _ => true
  | _ => false
def isMark : PyData → Bool
  | .int i => decide (0 ≤ i) && decide (i ≤ 1)
  | _ => false
def isRow (n : Int) : PyData → Bool
  | .list xs => decide ((xs.length : Int) = n) && xs.all isMark
  | _ => false
def isSize (n : Int) : Bool := decide (1 ≤ n) && decide (n ≤ 12)
def isTable : PyData → Bool
  | .list (.list f :: r) => isSize ((r.length : Int) + 1) && isSize f.length && (PyData.list f :: r).all (isRow f.length)
  | _ => false
section
variable {P : Program} {w : World} {K : PySem.W.Frag} {mg : Str → Option Value} {base : Heap} {f f1 f2 f3 f4 : Addr} {fd fd1 fd2 fd3 fd4 : FuncData}
theorem ok_is_number (F : Fun K "is_number" "is_number" st_is_number f fd) (B : Bl mg) : FnOk P w K mg base CX0 1 f fd ["thing"] (spP isNum) := by
  refine F.ok sc_is_number (fun vs H Q E h => ?_) (fun cdv A outer s H vs Q E hr h => ?_)
  · obtain ⟨v, d, rfl, _⟩ := h
    rfl
  · obtain ⟨v, d, rfl, hd, q⟩ := h
    refine ⟨_, (pss_one (ps_ret (pe_and (pe_callB (isiK K) (by rfl) B.isinstance (by decide +kernel) (pa_cons (pv 0) (pa_cons (pe_bltn (v := .ty "int") (by rfl) B.int (by decide +kernel) rfl) pa_nil))) (pe_one (pe_not (pe_callB (isiK K) (by rfl) B.isinstance (by decide +kernel) (pa_cons (pv 0) (pa_cons (pe_bltn (v := .ty "bool") (by rfl) B.bool (by decide +kernel) rfl) pa_nil)))))))), ?_⟩
    have e : isNum d = (isInt d && !isBool d) := by cases d <;> rfl
    rw [e] at q
    exact s_ret (ev_andV (ev_isi (ev_var rfl) hd (kit_int d)) fun _ => ev_notV (ev_isi (ev_var rfl) hd (kit_bool d))) q
def spSize : Sp := fun vs H Q _ => ∃ n : Int, vs = [.int n] ∧ RetV (.bl (isSize n)) H Q
theorem ev_chain {σ : L2.St} {H : Hp} {ta tb tc : TE} {i j k : Int} (ha : Ev ta σ H (.int i)) (hb : Ev tb σ H (.int j)) (hc : Ev tc σ H (.int k)) :
    Ev (tChain (rI0 fun i j => .bl (decide (i ≤ j))) (rI0 fun i j => .bl (decide (i ≤ j))) ta tb tc) σ H (.bl (decide (i ≤ j) && decide (j ≤ k))) := fun H1 e Q q =>
  ha H1 e _ fun H2 e2 => hb H2 (e.trans e2) _ fun H3 e3 => ⟨i, j, rfl, rfl, decide (i ≤ j), rfl, by
    by_cases hij : i ≤ j
    · rw [decide_eq_true hij]
      exact iteT (hc H3 ((e.trans e2).trans e3) _ fun H4 e4 => ⟨j, k, rfl, rfl, by
        have q4 := q H4 ((e2.trans e3).trans e4)
        rw [decide_eq_true hij, Bool.true_and] at q4
        exact q4⟩)
    · have q3 := q H3 (e2.trans e3)
      rw [decide_eq_false hij, Bool.false_and] at q3
      rw [decide_eq_false hij]
      exact iteF q3⟩
def isBtw (a b : Int) : PyData → Bool
  | .int i => decide (a ≤ i) && decide (i ≤ b)
  | _ => false
def spBtw : Sp := fun vs H Q _ => ∃ v d, ∃ a b : Int, vs = [v, .int a, .int b] ∧ Dq H v d ∧ RetV (.bl (isBtw a b d)) H Q
theorem ok_is_between (F : Fun K "is_between" "is_between" st_is_between f fd) (B : Bl mg) (d_is_number : Df P w K mg base 1 "is_number" st_is_number ["thing"] f1 fd1 (spP isNum)) : FnOk P w K mg base CX0 2 f fd ["thing", "least", "most"] spBtw := by
  refine F.ok sc_is_between (fun vs H Q E h => ?_) (fun cdv A outer s H vs Q E hr h => ?_)
  · obtain ⟨v, d, a, b, rfl, _⟩ := h
    rfl
  · obtain ⟨v, d, a, b, rfl, hd, q⟩ := h
    refine ⟨_, (pss_one (ps_ret (pe_and (pe_call d_is_number.G (hr.mono (by omega)) (by rfl) d_is_number.g d_is_number.F.kp d_is_number.b .nil pass0 (pa_cons (pv 0) pa_nil)) (pe_one (pe_chain op_le op_le (pv 1) (pv 0) (pv 2)))))), ?_⟩
    have e : isBtw a b d = (isNum d && isBtw a b d) := by cases d <;> rfl
    rw [e] at q
    refine s_ret (ev_andV (ev_call (ea_cons (ev_var rfl) ea_nil) (spv_P hd)) fun hn => ?_) q
    cases d with
    | int i =>
      rw [hd.int_inv]
      exact ev_chain (ev_var rfl) (ev_var rfl) (ev_var rfl)
    | _ => cases hn
theorem ok_is_size (F : Fun K "is_size" "is_size" st_is_size f fd) (B : Bl mg) {t : Tok} (C : mg "MOST_PLACES" = some (.int 12 t)) (d_is_between : Df P w K mg base 2 "is_between" st_is_between ["thing", "least", "most"] f1 fd1 spBtw) : FnOk P w K mg base CX0 3 f fd ["thing"] spSize := by
  refine F.ok sc_is_size (fun vs H Q E h => ?_) (fun cdv A outer s H vs Q E hr h => ?_)
  · obtain ⟨n, rfl, _⟩ := h
    rfl
  · obtain ⟨n, rfl, q⟩ := h
    refine ⟨_, (pss_one (ps_ret (pe_call d_is_between.G (hr.mono (by omega)) (by rfl) d_is_between.g d_is_between.F.kp d_is_between.b .nil pass0 (pa_cons (pv 0) (pa_cons pe_int (pa_cons (pe_glob (v := .int 12) (by rfl) C ⟨_, rfl⟩) pa_nil)))))), ?_⟩
    exact s_ret (ev_call (ea_cons (ev_var rfl) (ea_cons ev_c (ea_cons ev_c ea_nil))) fun H1 e Q q E => ⟨_, .int n, _, _, rfl, .int n, q⟩) q
theorem ok_is_mark (F : Fun K "is_mark" "is_mark" st_is_mark f fd) (B : Bl mg) (d_is_between : Df P w K mg base 2 "is_between" st_is_between ["thing", "least", "most"] f1 fd1 spBtw) : FnOk P w K mg base CX0 3 f fd ["thing"] (spP isMark) := by
  refine F.ok sc_is_mark (fun vs H Q E h => ?_) (fun cdv A outer s H vs Q E hr h => ?_)
  · obtain ⟨v, d, rfl, _⟩ := h
    rfl
  · obtain ⟨v, d, rfl, hd, q⟩ := h
    refine ⟨_, (pss_one (ps_ret (pe_call d_is_between.G (hr.mono (by omega)) (by rfl) d_is_between.g d_is_between.F.kp d_is_between.b .nil pass0 (pa_cons (pv 0) (pa_cons pe_int (pa_cons pe_int pa_nil)))))), ?_⟩
    have e : isMark d = isBtw 0 1 d := by cases d <;> rfl
    rw [e] at q
    exact s_ret (ev_call (ea_cons (ev_var rfl) (ea_cons ev_c (ea_cons ev_c ea_nil))) fun H1 e Q q E => ⟨_, d, _, _, rfl, hd.mono e, q⟩) q
def spRow : Sp := fun vs H Q _ => ∃ v d, ∃ n : Int, vs = [v, .int n] ∧ Dq H v d ∧ (∀ xs, d = .list xs → xs.length ≤ 40000) ∧ RetV (.bl (isRow n d)) H Q
theorem ok_is_row (F : Fun K "is_row" "is_row" st_is_row f fd) (B : Bl mg) (d_is_mark : Df P w K mg base 3 "is_mark" st_is_mark ["thing"] f1 fd1 (spP isMark)) : FnOk P w K mg base CX0 4 f fd ["thing", "outlets"] spRow := by
  refine F.ok sc_is_row (fun vs H Q E h => ?_) (fun cdv A outer s H vs Q E hr h => ?_)
  · obtain ⟨v, d, n, rfl, _⟩ := h
    rfl
  · obtain ⟨v, d, n, rfl, hd, hz, q⟩ := h
    refine ⟨_, (pss_one (ps_ret (pe_and (pe_callB (isiK K) (by rfl) B.isinstance (by decide +kernel) (pa_cons (pv 0) (pa_cons (pe_bltn (v := .ty "list") (by rfl) B.list (by decide +kernel) rfl) pa_nil))) (pe_and (pe_cmpR op_eq (pe_callB (lenK K) (by rfl) B.len (by decide +kernel) (pa_cons (pv 0) pa_nil)) (pv 1) (nomark _)) (pe_one (pe_callB (allK K) (by rfl) B.all (by decide +kernel) (pa_cons (pe_lc (own := [("mark", 2)]) rfl sc_is_row.nd (pi_listK K (pv 0)) (blkOk_by (own := [("mark", 2)]) (by kernel_rfl)) (fun _ _ _ _ _ => (pg_name (i := 2) sc_is_row.nd rfl (.inl rfl))) (fun _ _ _ _ _ => pts_nil) (fun _ _ _ _ _ => (pe_call d_is_mark.G (hr.mono (by omega)) (by rfl) d_is_mark.g d_is_mark.F.kp d_is_mark.b .nil pass0 (pa_cons (pv 2) pa_nil)))) pa_nil))))))), ?_⟩
    have e : isRow n d = (isList d && isRow n d) := by cases d <;> rfl
    rw [e] at q
    refine s_ret (ev_andV (ev_isi (ev_var rfl) hd (kit_list d)) fun hn => ?_) q
    cases d with
    | list xs =>
      refine ev_andV (ev_is (ev_op (ev_lenD (ev_var rfl) hd) (ev_var rfl) (rv_eq rfl)) ?_) fun _ => ?_
      · by_cases h : (xs.length : Int) = n
        · rw [decide_eq_true h, decide_eq_true (by rw [h])]
        · rw [decide_eq_false h, decide_eq_false (fun z => h (V.int.inj z))]
      · exact ev_allD isMark (ev_var rfl) hd (hz xs rfl) (fun _ => rfl) fun x d H1 _ _ hx => ev_call (ea_cons (ev_var rfl) ea_nil) (spv_P hx)
    | _ => cases hn
theorem len_wz : ∀ xs : List PyData, 2 * xs.length ≤ wzAll xs
  | [] => Nat.le_refl _
  | x :: r => by
    have := len_wz r
    show 2 * (r.length + 1) ≤ wz x + 2 + wzAll r
    omega
theorem mem_wz : ∀ {xs : List PyData} {d : PyData}, d ∈ xs → wz d ≤ wzAll xs
  | x :: r, d, h => by
    show wz d ≤ wz x + 2 + wzAll r
    rcases List.mem_cons.mp h with rfl | h
    · omega
    · have := mem_wz h
      omega
theorem small_row {xs : List PyData} (h : wz (.list xs) ≤ 80000) : xs.length ≤ 40000 := by
  have := len_wz xs
  have h' : wzAll xs + 3 ≤ 80000 := h
  omega
theorem small_in {xs : List PyData} {d : PyData} (h : wz (.list xs) ≤ 80000) (hm : d ∈ xs) : wz d ≤ 80000 := by
  have := mem_wz hm
  have h' : wzAll xs + 3 ≤ 80000 := h
  omega
/-- a truth of one thing that isn't too great -/
def spS (f : PyData → Bool) : Sp := fun vs H Q _ => ∃ v d, vs = [v] ∧ Dq H v d ∧ wz d ≤ 80000 ∧ RetV (.bl (f d)) H Q
theorem ok_is_table (F : Fun K "is_table" "is_table" st_is_table f fd) (B : Bl mg) (d_is_size : Df P w K mg base 3 "is_size" st_is_size ["thing"] f1 fd1 spSize)
    (d_is_row : Df P w K mg base 4 "is_row" st_is_row ["thing", "outlets"] f2 fd2 spRow) : FnOk P w K mg base CX0 5 f fd ["thing"] (spS isTable) := by
  refine F.ok sc_is_table (fun vs H Q E h => ?_) (fun cdv A outer s H vs Q E hr h => ?_)
  · obtain ⟨v, d, rfl, _⟩ := h
    rfl
  · obtain ⟨v, d, rfl, hd, hz, q⟩ := h
    refine ⟨_, (pss_cons (ps_if (PW.pt (pw_or (pt_not (pt_val (pe_callB (isiK K) (by rfl) B.isinstance (by decide +kernel) (pa_cons (pv 0) (pa_cons (pe_bltn (v := .ty "list") (by rfl) B.list (by decide +kernel) rfl) pa_nil))))) (pw_or1 (pt_not (pt_val (pe_call d_is_size.G (hr.mono (by omega)) (by rfl) d_is_size.g d_is_size.F.kp d_is_size.b .nil pass0 (pa_cons (pe_callB (lenK K) (by rfl) B.len (by decide +kernel) (pa_cons (pv 0) pa_nil)) pa_nil)))))))
 (pss_one (ps_ret pe_bl))
 pss_nil)
 (pss_cons (ps_set (i := 1) sc_is_table.nd rfl (.inr rfl) (pe_ix (ixLK K) (pv 0) pe_int (fun _ _ => rfl)))
 (pss_cons (ps_if (PW.pt (pw_or (pt_not (pt_val (pe_callB (isiK K) (by rfl) B.isinstance (by decide +kernel) (pa_cons (pv 1) (pa_cons (pe_bltn (v := .ty "list") (by rfl) B.list (by decide +kernel) rfl) pa_nil))))) (pw_or1 (pt_not (pt_val (pe_call d_is_size.G (hr.mono (by omega)) (by rfl) d_is_size.g d_is_size.F.kp d_is_size.b .nil pass0 (pa_cons (pe_callB (lenK K) (by rfl) B.len (by decide +kernel) (pa_cons (pv 1) pa_nil)) pa_nil)))))))
 (pss_one (ps_ret pe_bl))
 pss_nil)
 (pss_one (ps_ret (pe_callB (allK K) (by rfl) B.all (by decide +kernel) (pa_cons (pe_lc (own := [("row", 2)]) rfl sc_is_table.nd (pi_listK K (pv 0)) (blkOk_by (own := [("row", 2)]) (by kernel_rfl)) (fun _ _ _ _ _ => (pg_name (i := 2) sc_is_table.nd rfl (.inl rfl))) (fun _ _ _ _ _ => pts_nil) (fun _ _ _ _ _ => (pe_call d_is_row.G (hr.mono (by omega)) (by rfl) d_is_row.g d_is_row.F.kp d_is_row.b .nil pass0 (pa_cons (pv 2) (pa_cons (pe_callB (lenK K) (by rfl) B.len (by decide +kernel) (pa_cons (pv 1) pa_nil)) pa_nil))))) pa_nil))))))), ?_⟩
    have size : ∀ {σ : L2.St} {H : Hp} {ta : TE} {n : Int}, Ev ta σ H (.int n) → Ev (tCall spSize [] E0 (tCons ta tNil)) σ H (.bl (isSize n)) := fun h => ev_call (ea_cons h ea_nil) fun H1 e Q q E => ⟨_, rfl, q⟩
    have no : ∀ H', Same H H' → isTable d = false → Q (.bl false) H' := fun H' e z => by
      have := q H' e
      rw [z] at this
      exact this
    cases d with
    | list ds =>
      refine q_when (b := false || !isSize ds.length) (et_or (et_is (et_not (et_B (ev_isi (ev_var rfl) hd (kit_list _)))) rfl) fun _ => et_not (et_B (size (ev_lenD (ev_var rfl) hd)))) (fun hb H1 e1 => ?_) fun hb H1 e1 => ?_
      · refine s_ret ev_c fun H2 e2 => no H2 (e1.trans e2) ?_
        cases ds with
        | nil => rfl
        | cons x r =>
          have h0 : isSize ((r.length : Int) + 1) = false := by simpa using hb
          cases x <;> first | rfl | (show (isSize ((r.length : Int) + 1) && _ && _) = false; rw [h0]; rfl)
      · have h0 : isSize ds.length = true := by simpa using hb
        cases ds with
        | nil => cases h0
        | cons x0 r =>
          have hd1 := hd.mono e1
          obtain ⟨x, hx, ex⟩ := ix_D (K := K) (ta := tVar 0) (tb := tC (.int 0)) (σ := L2.start ["thing", "first", "row"] [v]) (i := 0) (ev_var rfl) hd1 ev_c (by simp)
          refine q_asg ex fun H2 e2 => ?_
          have hx2 : Dq H2 x x0 := hx.mono e2
          have hd2 := hd1.mono e2
          refine q_when (b := !isList x0 || !(match x0 with | .list f => isSize f.length | _ => false)) (et_or (et_not (et_B (ev_isi (ev_var rfl) hx2 (kit_list _)))) fun hl => ?_) (fun hb H3 e3 => ?_) fun hb H3 e3 => ?_
          · cases x0 with
            | list f => exact et_not (et_B (size (ev_lenD (ev_var rfl) hx2)))
            | _ => cases hl
          · refine s_ret ev_c fun H4 e4 => no H4 (((e1.trans e2).trans e3).trans e4) ?_
            cases x0 with
            | list f =>
              have h1 : isSize f.length = false := by simpa [isList] using hb
              show (isSize ((r.length : Int) + 1) && isSize f.length && _) = false
              rw [h1, Bool.and_false, Bool.false_and]
            | _ => rfl
          · cases x0 with
            | list f =>
              have h1 : isSize f.length = true := by simpa [isList] using hb
              have e : isTable (.list (.list f :: r)) = (PyData.list f :: r).all (isRow f.length) := by
                show (isSize ((r.length : Int) + 1) && isSize f.length && _) = _
                have h0' : isSize ((r.length : Int) + 1) = true := by simpa using h0
                rw [h0', h1] <;> rfl
              rw [e] at q
              refine s_ret (ev_allD (isRow f.length) (ev_var rfl) (hd2.mono e3) (small_row hz) (fun _ => rfl) fun y d H4 e4 hm hy => ?_) fun H4 e4 => q H4 (((e1.trans e2).trans e3).trans e4)
              refine ev_call (ea_cons (ev_var rfl) (ea_cons (ev_lenD (ev_var rfl) ((hx2.mono e3).mono e4)) ea_nil)) fun H5 e5 Q q E => ⟨y, d, _, rfl, hy.mono e5, fun xs he => ?_, q⟩
              subst he
              exact small_row (small_in hz hm)
            | _ => simp [isList] at hb
    | _ =>
      refine q_when (b := true) (et_or (a := true) (b := true) (et_is (et_not (et_B (ev_isi (ev_var rfl) hd (kit_list _)))) rfl) fun z => by cases z) (fun _ H1 e1 => ?_) fun z => by cases z
      exact s_ret ev_c fun H2 e2 => no H2 (e1.trans e2) rfl
theorem in_bits (i : Int) : inV (.int i) [.int 0, .int 1] = (decide (0 ≤ i) && decide (i ≤ 1)) := by
  show (eqV (.int 0) (.int i) || (eqV (.int 1) (.int i) || false)) = _
  have e : ∀ j : Int, eqV (.int j) (.int i) = decide (j = i) := fun j => by
    by_cases h : j = i
    · subst h; simp [eqV]
    · simp [eqV, h]
  rw [e, e, Bool.or_false]
  by_cases h0 : i = 0
  · subst h0; rfl
  · by_cases h1 : i = 1
    · subst h1; rfl
    · rw [decide_eq_false (fun z => h0 z.symm), decide_eq_false (fun z => h1 z.symm)]
      by_cases h2 : 0 ≤ i
      · rw [decide_eq_true h2, decide_eq_false (show ¬ i ≤ 1 by omega)]; rfl
      · rw [decide_eq_false h2]; rfl
theorem ok_law_is_bit (F : Fun K "_law_is_bit" "_law_is_bit" st_law_is_bit f fd) (B : Bl mg) : FnOk P w K mg base CX0 1 f fd ["_law_thing"] (spP isMark) := by
  refine F.ok sc_law_is_bit (fun vs H Q E h => ?_) (fun cdv A outer s H vs Q E hr h => ?_)
  · obtain ⟨v, d, rfl, _⟩ := h
    rfl
  · obtain ⟨v, d, rfl, hd, q⟩ := h
    refine ⟨_, (pss_one (ps_ret (pe_and (pe_callB (isiK K) (by rfl) B.isinstance (by decide +kernel) (pa_cons (pv 0) (pa_cons (pe_bltn (v := .ty "int") (by rfl) B.int (by decide +kernel) rfl) pa_nil))) (pe_and (pe_not (pe_callB (isiK K) (by rfl) B.isinstance (by decide +kernel) (pa_cons (pv 0) (pa_cons (pe_bltn (v := .ty "bool") (by rfl) B.bool (by decide +kernel) rfl) pa_nil)))) (pe_one (pe_cmpR (inK K) (pv 0) (pe_tup (pa_cons pe_int (pa_cons pe_int pa_nil))) (by with_unfolding_all rfl))))))), ?_⟩
    have e : isMark d = (isInt d && (!isBool d && isMark d)) := by cases d <;> rfl
    rw [e] at q
    refine s_ret (ev_andV (ev_isi (ev_var rfl) hd (kit_int d)) fun h1 => ev_andV (ev_notV (ev_isi (ev_var rfl) hd (kit_bool d))) fun h2 => ?_) q
    cases d with
    | int i =>
      show Ev _ _ _ (.bl (decide (0 ≤ i) && decide (i ≤ 1)))
      rw [← in_bits, hd.int_inv]
      exact ev_inU (ev_var rfl) (eu_tup (ea_cons ev_c (ea_cons ev_c ea_nil)) (by decide)) rfl rfl
    | bool b => cases h2
    | _ => cases h1
def rowBits : PyData → Bool
  | .list xs => xs.all isMark
  | _ => false
def lenIs (n : Nat) : PyData → Bool
  | .list xs => decide (V.int (xs.length : Int) = V.int (n : Int))
  | _ => false
theorem same_rows (n : Nat) : ∀ rows : List PyData, rows.all (isRow n) = (rows.all isList && (rows.all (lenIs n) && rows.all rowBits))
  | [] => rfl
  | x :: r => by
    rw [List.all_cons, List.all_cons, List.all_cons, List.all_cons, same_rows n r]
    have e : isRow n x = (isList x && (lenIs n x && rowBits x)) := by
      cases x with
      | list xs =>
        show (decide ((xs.length : Int) = (n : Int)) && xs.all isMark) = (true && (decide (V.int (xs.length : Int) = V.int (n : Int)) && xs.all isMark))
        by_cases h : (xs.length : Int) = (n : Int)
        · rw [decide_eq_true h, decide_eq_true (by rw [h])]; rfl
        · rw [decide_eq_false h, decide_eq_false (fun z => h (V.int.inj z))]; rfl
      | _ => rfl
    rw [e]
    cases isList x <;> cases lenIs n x <;> cases rowBits x <;> cases r.all isList <;> cases r.all (lenIs n) <;> cases r.all rowBits <;> rfl
theorem ok_law_is_table (F : Fun K "_law_is_table" "_law_is_table" st_law_is_table f fd) (B : Bl mg) (d_law_is_bit : Df P w K mg base 1 "_law_is_bit" st_law_is_bit ["_law_thing"] f1 fd1 (spP isMark)) : FnOk P w K mg base CX0 2 f fd ["_law_thing"] (spS isTable) := by
  refine F.ok sc_law_is_table (fun vs H Q E h => ?_) (fun cdv A outer s H vs Q E hr h => ?_)
  · obtain ⟨v, d, rfl, _⟩ := h
    rfl
  · obtain ⟨v, d, rfl, hd, hz, q⟩ := h
    refine ⟨_, (pss_cons (ps_if (PW.pt (pw_or (pt_not (pt_val (pe_callB (isiK K) (by rfl) B.isinstance (by decide +kernel) (pa_cons (pv 0) (pa_cons (pe_bltn (v := .ty "list") (by rfl) B.list (by decide +kernel) rfl) pa_nil))))) (pw_or1 (pt_not (pt_chain op_le op_le pe_int (pe_callB (lenK K) (by rfl) B.len (by decide +kernel) (pa_cons (pv 0) pa_nil)) pe_int)))))
 (pss_one (ps_ret pe_bl))
 pss_nil)
 (pss_cons (ps_if (pt_not (pt_val (pe_callB (allK K) (by rfl) B.all (by decide +kernel) (pa_cons (pe_lc (own := [("_law_row", 1)]) rfl sc_law_is_table.nd (pi_listK K (pv 0)) (blkOk_by (own := [("_law_row", 1)]) (by kernel_rfl)) (fun _ _ _ _ _ => (pg_name (i := 1) sc_law_is_table.nd rfl (.inl rfl))) (fun _ _ _ _ _ => pts_nil) (fun _ _ _ _ _ => (pe_callB (isiK K) (by rfl) B.isinstance (by decide +kernel) (pa_cons (pv 1) (pa_cons (pe_bltn (v := .ty "list") (by rfl) B.list (by decide +kernel) rfl) pa_nil))))) pa_nil))))
 (pss_one (ps_ret pe_bl))
 pss_nil)
 (pss_cons (ps_if (PW.pt (pw_or (pt_not (pt_chain op_le op_le pe_int (pe_callB (lenK K) (by rfl) B.len (by decide +kernel) (pa_cons (pe_ix (ixLK K) (pv 0) pe_int (fun _ _ => rfl)) pa_nil)) pe_int)) (pw_or1 (pt_not (pt_val (pe_callB (allK K) (by rfl) B.all (by decide +kernel) (pa_cons (pe_lc (own := [("_law_row", 1)]) rfl sc_law_is_table.nd (pi_listK K (pv 0)) (blkOk_by (own := [("_law_row", 1)]) (by kernel_rfl)) (fun _ _ _ _ _ => (pg_name (i := 1) sc_law_is_table.nd rfl (.inl rfl))) (fun _ _ _ _ _ => pts_nil) (fun _ _ _ _ _ => (pe_cmpR op_eq (pe_callB (lenK K) (by rfl) B.len (by decide +kernel) (pa_cons (pv 1) pa_nil)) (pe_callB (lenK K) (by rfl) B.len (by decide +kernel) (pa_cons (pe_ix (ixLK K) (pv 0) pe_int (fun _ _ => rfl)) pa_nil)) (nomark _)))) pa_nil)))))))
 (pss_one (ps_ret pe_bl))
 pss_nil)
 (pss_one (ps_ret (pe_callB (allK K) (by rfl) B.all (by decide +kernel) (pa_cons (pe_lc (own := [("_law_row", 1)]) rfl sc_law_is_table.nd (pi_listK K (pv 0)) (blkOk_by (own := [("_law_row", 1)]) (by kernel_rfl)) (fun _ _ _ _ _ => (pg_name (i := 1) sc_law_is_table.nd rfl (by first | exact Or.inl rfl | exact Or.inr rfl))) (fun _ _ _ _ _ => pts_nil) (fun _ _ _ _ _ => (pe_callB (allK K) (by rfl) B.all (by decide +kernel) (pa_cons (pe_lc (own := [("_law_one", 2)]) rfl sc_law_is_table.nd (pi_listK K (pv 1)) (blkOk_by (own := [("_law_one", 2)]) (by kernel_rfl)) (fun _ _ _ _ _ => (pg_name (i := 2) sc_law_is_table.nd rfl (.inl rfl))) (fun _ _ _ _ _ => pts_nil) (fun _ _ _ _ _ => (pe_call d_law_is_bit.G (hr.mono (by omega)) (by rfl) d_law_is_bit.g d_law_is_bit.F.kp d_law_is_bit.b .nil pass0 (pa_cons (pv 2) pa_nil)))) pa_nil)))) pa_nil))))))), ?_⟩
    have no : ∀ H', Same H H' → isTable d = false → Q (.bl false) H' := fun H' e z => by
      have := q H' e
      rw [z] at this
      exact this
    cases d with
    | list ds =>
      refine q_when (b := false || !(decide ((1 : Int) ≤ ds.length) && decide ((ds.length : Int) ≤ 12))) (et_or (et_is (et_not (et_B (ev_isi (ev_var rfl) hd (kit_list _)))) rfl) fun _ => et_not (et_test (ev_chain ev_c (ev_lenD (ev_var rfl) hd) ev_c))) (fun hb H1 e1 => ?_) fun hb H1 e1 => ?_
      · refine s_ret ev_c fun H2 e2 => no H2 (e1.trans e2) ?_
        cases ds with
        | nil => rfl
        | cons x r =>
          have h0 : isSize ((r.length : Int) + 1) = false := by
            rw [Bool.false_or, Bool.not_eq_true', List.length_cons] at hb
            exact hb
          cases x <;> first | rfl | (show (isSize ((r.length : Int) + 1) && _ && _) = false; rw [h0]; rfl)
      · have h0 : isSize ds.length = true := by simpa [isSize] using hb
        have hd1 := hd.mono e1
        refine q_when (b := !ds.all isList) (et_not (et_B (ev_allD isList (ev_var rfl) hd1 (small_row hz) (fun _ => rfl) fun x d H2 _ _ hx => ev_isi (ev_var rfl) hx (kit_list d)))) (fun hb2 H2 e2 => ?_) fun hb2 H2 e2 => ?_
        · refine s_ret ev_c fun H3 e3 => no H3 ((e1.trans e2).trans e3) ?_
          have h1 : ds.all isList = false := by simpa using hb2
          cases ds with
          | nil => rfl
          | cons x r =>
            cases x with
            | list f =>
              show (isSize ((r.length : Int) + 1) && isSize f.length && (PyData.list f :: r).all (isRow f.length)) = false
              rw [same_rows, h1, Bool.false_and, Bool.and_false]
            | _ => rfl
        · have h1 : ds.all isList = true := by simpa using hb2
          have hd2 := hd1.mono e2
          cases ds with
          | nil => cases h0
          | cons x r =>
            cases x with
            | list f0 =>
              have first : ∀ {σ : L2.St} {H : Hp} {i : Nat}, σ[i]? = some (some v) → Dq H v (.list (.list f0 :: r)) → Ev (tCB (rLenS K) (tCons (tOp (rIxL K) (tVar i) (tC (.int 0))) tNil)) σ H (.int (f0.length : Int)) := fun hs hq => by
                obtain ⟨x, hx, ex⟩ := ix_D (K := K) (tb := tC (.int 0)) (i := 0) (ev_var hs) hq ev_c (by simp)
                exact ev_lenD ex hx
              refine q_when (b := !(decide ((1 : Int) ≤ f0.length) && decide ((f0.length : Int) ≤ 12)) || !(PyData.list f0 :: r).all (lenIs f0.length)) (et_or (et_not (et_test (ev_chain ev_c (first rfl hd2) ev_c))) fun _ => et_not (et_B (ev_allD (lenIs f0.length) (ev_var rfl) hd2 (small_row hz) (fun _ => rfl) fun y d H3 e3 hm hy => ?_))) (fun hb3 H3 e3 => ?_) fun hb3 H3 e3 => ?_
              · have hl := List.all_eq_true.mp h1 d hm
                cases d with
                | list xs => exact ev_op (ev_lenD (ev_var rfl) hy) (first rfl (hd2.mono e3)) (rv_eq rfl)
                | _ => cases hl
              · refine s_ret ev_c fun H4 e4 => no H4 (((e1.trans e2).trans e3).trans e4) ?_
                show (isSize ((r.length : Int) + 1) && isSize f0.length && (PyData.list f0 :: r).all (isRow f0.length)) = false
                rw [same_rows, h1]
                cases hs : isSize f0.length with
                | false => rw [Bool.and_false, Bool.false_and]
                | true =>
                  have hs' : (decide ((1 : Int) ≤ f0.length) && decide ((f0.length : Int) ≤ 12)) = true := hs
                  rw [hs'] at hb3
                  have h2 : (PyData.list f0 :: r).all (lenIs f0.length) = false := by
                    rw [Bool.not_true, Bool.false_or, Bool.not_eq_true'] at hb3
                    exact hb3
                  rw [h2, Bool.false_and, Bool.and_false, Bool.and_false]
              · have hb4 : (isSize f0.length && (PyData.list f0 :: r).all (lenIs f0.length)) = true := by
                  show ((decide ((1 : Int) ≤ f0.length) && decide ((f0.length : Int) ≤ 12)) && _) = true
                  rw [← Bool.not_and, Bool.not_eq_false'] at hb3
                  exact hb3
                rw [Bool.and_eq_true] at hb4
                have e : isTable (.list (.list f0 :: r)) = (PyData.list f0 :: r).all rowBits := by
                  show (isSize ((r.length : Int) + 1) && isSize f0.length && (PyData.list f0 :: r).all (isRow f0.length)) = _
                  have h0' : isSize ((r.length : Int) + 1) = true := by simpa using h0
                  rw [same_rows, h1, h0', hb4.1, hb4.2] <;> rfl
                rw [e] at q
                refine s_ret (ev_allD rowBits (ev_var rfl) (hd2.mono e3) (small_row hz) (fun _ => rfl) fun y d H4 e4 hm hy => ?_) fun H4 e4 => q H4 (((e1.trans e2).trans e3).trans e4)
                have hl := List.all_eq_true.mp h1 d hm
                cases d with
                | list xs => exact ev_allD isMark (ev_var rfl) hy (small_row (small_in hz hm)) (fun _ => rfl) fun z d H5 _ _ hz => ev_call (ea_cons (ev_var rfl) ea_nil) (spv_P hz)
                | _ => cases hl
            | _ => cases h1
    | _ =>
      refine q_when (b := true) (et_or (a := true) (b := true) (et_is (et_not (et_B (ev_isi (ev_var rfl) hd (kit_list _)))) rfl) fun z => by cases z) (fun _ H1 e1 => ?_) fun z => by cases z
      exact s_ret ev_c fun H2 e2 => no H2 (e1.trans e2) rfl
end
end K01

set_option Elab.async false
set_option linter.all false
set_option maxRecDepth 100000
namespace K01
open PySem PySem.Spec PyProof.Rows L2 Evl Cg
abbrev st_law_take : Stmt := topS 11
theorem sc_law_take : FnScope ["_law_box_here", "_law_size", "_law_step", "_law_once", "_law_twice", "_law_found"] ["_law_box_here", "_law_size"] (defScope st_law_take) := ⟨rfl, rfl, rfl, by decide +kernel, rfl, by decide +kernel, by decide +kernel⟩
abbrev st_law_box : Stmt := topS 10
theorem sc_law_box : FnScope ["_law_script", "_law_k", "_law_cell"] ["_law_script", "_law_k"] (defScope st_law_box) := ⟨rfl, rfl, rfl, by decide +kernel, rfl, by decide +kernel, by decide +kernel⟩
abbrev st_law_folded : Stmt := topS 12
theorem sc_law_folded : FnScope ["_law_script", "_law_size", "_law_cells", "_law_k", "_law_cell"] ["_law_script", "_law_size"] (defScope st_law_folded) := ⟨rfl, rfl, rfl, by decide +kernel, rfl, by decide +kernel, by decide +kernel⟩
abbrev st_law_sizes : Stmt := topS 13
theorem sc_law_sizes : FnScope ["_law_box_here", "_law_most", "_law_some"] ["_law_box_here", "_law_most"] (defScope st_law_sizes) := ⟨rfl, rfl, rfl, by decide +kernel, rfl, by decide +kernel, by decide +kernel⟩
abbrev st_law_table : Stmt := topS 14
theorem sc_law_table : FnScope ["_law_box_here", "_law_n", "_law_m", "_law_mode", "_law_i", "_law_k", "_law_j"] ["_law_box_here", "_law_n", "_law_m"] (defScope st_law_table) := ⟨rfl, rfl, rfl, by decide +kernel, rfl, by decide +kernel, by decide +kernel⟩
section
variable {P : Program} {w : World} {K : PySem.W.Frag} {mg : Str → Option Value} {base : Heap} {f f1 f2 f3 f4 : Addr} {fd fd1 fd2 fd3 fd4 : FuncData}
theorem ok_law_take (F : Fun K "_law_take" "_law_take" st_law_take f fd) (B : Bl mg) : FnOk P w K mg base CX0 1 f fd ["_law_box_here", "_law_size"] spTake := by
  refine F.ok sc_law_take (fun vs H Q E h => ?_) (fun cdv A outer s H vs Q E hr h => ?_)
  · obtain ⟨b, m, n, rfl, _⟩ := h
    rfl
  · obtain ⟨b, m, n, rfl, hB, hn, hm1, hm2, q⟩ := h
    refine ⟨_, (pss_cons (ps_if (pt_cmpR op_gt (pe_ix (ixLK K) (pv 0) pe_int (fun _ _ => rfl)) pe_int (nomark _))
 (pss_cons (ps_asg (pe_callB call_divmod (by rfl) B.divmod (by decide +kernel) (pa_cons (pe_ix (ixLK K) (pv 0) pe_int (fun _ _ => rfl)) (pa_cons (pv 1) pa_nil))) (pg_tupK K (n := 2) rfl (pgs_cons (pg_sub (pv 0) pe_int set_list) (pgs_cons (pg_name (i := 5) sc_law_take.nd rfl (.inl rfl)) pgs_nil))))
 (pss_one (ps_ret (pv 5))))
 pss_nil)
 (pss_cons (ps_if (pt_cmpR op_gt (pv 1) (pe_op op_pow pe_int pe_int) (nomark _))
 (pss_one ps_never)
 pss_nil)
 (pss_cons (ps_asg (pe_op op_add (pe_ix (ixLK K) (pv 0) pe_int (fun _ _ => rfl)) pe_int) (pg_sub (pv 0) pe_int set_list))
 (pss_cons (ps_set (i := 2) sc_law_take.nd rfl (.inl rfl) (pe_op op_add pe_int (pe_op op_mul (pe_ix (ixLK K) (pv 0) pe_int (fun _ _ => rfl)) (pe_ix (ixLK K) (pv 0) pe_int (fun _ _ => rfl)))))
 (pss_cons (ps_set (i := 3) sc_law_take.nd rfl (.inl rfl) (pe_op op_mod (pe_op op_mul (pe_op op_add (pe_ix (ixLK K) (pv 0) pe_int (fun _ _ => rfl)) (pe_op op_mul pe_int (pe_ix (ixLK K) (pv 0) pe_int (fun _ _ => rfl)))) (pv 2)) pe_int))
 (pss_cons (ps_set (i := 4) sc_law_take.nd rfl (.inl rfl) (pe_op op_mod (pe_op op_add (pe_op op_mul (pv 3) (pe_op op_add (pe_op op_mod (pv 3) pe_int) pe_int)) (pe_ix (ixLK K) (pv 0) pe_int (fun _ _ => rfl))) pe_int))
 (pss_one (ps_ret (pe_op op_mod (pe_op op_fdiv (pe_op op_mod (pe_op op_mul (pv 4) (pe_op op_add (pe_op op_mod (pv 4) pe_int) pe_int)) pe_int) pe_int) (pv 1)))))))))), ?_⟩
    obtain ⟨r, sd, c, hb, hr0, hs0, hs1, hc0, hc1⟩ := hB
    have at0 : ∀ {σ : L2.St} {H : Hp} {x y z : V}, σ[0]? = some (some (.ref b)) → H b = some (.lst [x, y, z]) → Ev (tOp (rIxL K) (tVar 0) (tC (.int 0))) σ H x := fun hs hb => ev_op (ev_var hs) ev_c (rv_ixL (SqL.of hb) (atI_nat (j := 0) rfl))
    have at1 : ∀ {σ : L2.St} {H : Hp} {x y z : V}, σ[0]? = some (some (.ref b)) → H b = some (.lst [x, y, z]) → Ev (tOp (rIxL K) (tVar 0) (tC (.int 1))) σ H y := fun hs hb => ev_op (ev_var hs) ev_c (rv_ixL (SqL.of hb) (atI_nat (j := 1) rfl))
    have at2 : ∀ {σ : L2.St} {H : Hp} {x y z : V}, σ[0]? = some (some (.ref b)) → H b = some (.lst [x, y, z]) → Ev (tOp (rIxL K) (tVar 0) (tC (.int 2))) σ H z := fun hs hb => ev_op (ev_var hs) ev_c (rv_ixL (SqL.of hb) (atI_nat (j := 2) rfl))
    refine q_when (b := decide (0 < r)) (et_test (ev_op (at0 rfl hb) ev_c rv_I0)) (fun hp H1 e1 => ?_) fun hp H1 e1 => ?_
    · have hp' : 0 < r := of_decide_eq_true hp
      have hb1 := e1 _ _ hb
      refine at0 rfl hb1 H1 (Ex.refl _) _ fun H2 e2 => ?_
      have hb2 := e2 _ _ hb1
      refine ⟨.int m, rfl, r, m, rfl, ⟨by omega, by omega⟩, fun p np => ?_⟩
      have hpb : p ≠ b := (ne_of_none hb2 np).symm
      refine ⟨p, _, rfl, SqT.of upd_same, rfl, _, _, rfl, .ref b, rfl, b, _, 0, 0, rfl, rfl, by rw [upd_ne hpb.symm]; exact hb2, rfl, _, _, rfl, rfl, ?_⟩
      refine ⟨.int (r % m), rfl, ?_⟩
      have hq : 0 ≤ r / m := Int.ediv_nonneg hr0 (by omega)
      refine q (r % m) _ (Int.emod_nonneg _ (by omega)) (Int.emod_lt_of_pos _ (by omega)) ⟨r / m, sd, c, upd_same, hq, hs0, hs1, hc0, by omega⟩ ?_
      exact ((Keep.of (e1.trans e2)).new np).put (by simp)
    · have hb1 := e1 _ _ hb
      refine q_when (b := false) (et_is (et_test (ev_op (ev_var rfl) (ev_op ev_c ev_c (rv_I ⟨by decide, by decide, by decide⟩)) rv_I0)) (decide_eq_false (by show ¬ (10 : Int) ^ 7 < m; omega))) (fun z => by cases z) fun _ H2 e2 => ?_
      have hb2 := e2 _ _ hb1
      refine q_setL (j := 2) hb2 (ev_op (at2 rfl hb2) ev_c rv_I0) (ev_var rfl) ev_c (by show 2 < 3; decide) fun H3 e3 => ?_
      change tSeq _ _ _ _ (upd H3 b (.lst [.int r, .int sd, .int (c + 1)]))
      have k4 : Keep [b] H (upd H3 b (.lst [.int r, .int sd, .int (c + 1)])) := (Keep.of ((e1.trans e2).trans e3)).put (by simp)
      have hb4 : (upd H3 b (.lst [.int r, .int sd, .int (c + 1)])) b = some (.lst [.int r, .int sd, .int (c + 1)]) := upd_same
      generalize upd H3 b (.lst [.int r, .int sd, .int (c + 1)]) = H4 at k4 hb4
      have hcc : c + 1 ≤ 1000000001 := by omega
      refine q_asg (ev_op ev_c (ev_op (at2 rfl hb4) (at2 rfl hb4) (rv_I (.inl ⟨by omega, by omega⟩))) rv_I0) fun H5 e5 => ?_
      have hb5 := e5 _ _ hb4
      refine q_asg (ev_op (ev_op (ev_op (at1 rfl hb5) (ev_op ev_c (at2 rfl hb5) (rv_I (.inl ⟨by decide, by decide⟩))) rv_I0) (ev_var rfl) (rv_I (.inl ⟨by omega, by omega⟩))) ev_c (rv_I (by decide))) fun H6 e6 => ?_
      have hb6 := e6 _ _ hb5
      generalize ho : ((sd + 39373 * (c + 1)) * (69621 + (c + 1) * (c + 1))) % 2147483587 = once
      have ho1 : 0 ≤ once ∧ once < 2147483587 := by omega
      refine q_asg (ev_op (ev_op (ev_op (ev_var rfl) (ev_op (ev_op (ev_var rfl) ev_c (rv_I (by decide))) ev_c rv_I0) (rv_I (.inl ⟨by omega, by omega⟩))) (at2 rfl hb6) rv_I0) ev_c (rv_I (by decide))) fun H7 e7 => ?_
      generalize ht : (once * (once % 30011 + 5) + (c + 1)) % 2147483563 = twice
      have ht1 : 0 ≤ twice ∧ twice < 2147483563 := by omega
      refine s_ret (ev_op (ev_op (ev_op (ev_op (ev_var rfl) (ev_op (ev_op (ev_var rfl) ev_c (rv_I (by decide))) ev_c rv_I0) (rv_I (.inl ⟨by omega, by omega⟩))) ev_c (rv_I (by decide))) ev_c (rv_I ⟨by decide, by decide⟩)) (ev_var rfl) (rv_I (by show 0 < m; omega))) fun H8 e8 => ?_
      refine q _ H8 (Int.emod_nonneg _ (by omega)) (Int.emod_lt_of_pos _ (by omega)) ⟨r, sd, c + 1, ((e7.trans e8) _ _ (e6 _ _ hb5)), hr0, hs0, hs1, by omega, by omega⟩ (k4.ext (((e5.trans e6).trans e7).trans e8))
def spBox (K : PySem.W.Frag) : Sp := fun vs H Q _ => ∃ (a : Addr) (ns : List Int) (k : Nat), vs = [.ref a, .int (k : Int)] ∧ SqL K H a (ns.map V.int) ∧ k ≤ 1000 ∧ ∀ (b : Addr) (H' : Hp), Same H H' → H b = none → Box H' b 0 → Q (.ref b) H'
theorem ok_law_box (F : Fun K "_law_box" "_law_box" st_law_box f fd) (B : Bl mg) : FnOk P w K mg base CX0 1 f fd ["_law_script", "_law_k"] (spBox K) := by
  refine F.ok sc_law_box (fun vs H Q E h => ?_) (fun cdv A outer s H vs Q E hr h => ?_)
  · obtain ⟨a, ns, k, rfl, _⟩ := h
    rfl
  · obtain ⟨a, ns, k, rfl, hS, hk, q⟩ := h
    refine ⟨_, (pss_cons (ps_set (i := 2) sc_law_box.nd rfl (.inl rfl) (pe_ifExp (pt_cmpR op_lt (pv 1) (pe_callB (lenK K) (by rfl) B.len (by decide +kernel) (pa_cons (pv 0) pa_nil)) (nomark _)) (pe_ix (ixLK K) (pv 0) (pv 1) (fun _ _ => rfl)) pe_int))
 (pss_one (ps_ret (pe_lst (pa_cons (pe_op op_mul (pe_callB call_abs (by rfl) B.abs (by decide +kernel) (pa_cons (pv 2) pa_nil)) (pe_callTy call_int1 (by rfl) B.int (by decide +kernel) (pa_cons (pe_cmpR op_ge (pe_callB call_abs (by rfl) B.abs (by decide +kernel) (pa_cons (pv 2) pa_nil)) (pe_op op_pow pe_int pe_int) (nomark _)) pa_nil))) (pa_cons (pe_op op_mod (pe_op op_mul (pe_op op_add (pe_op op_add (pe_op op_mod (pv 2) pe_int) (pe_op op_mul pe_int (pv 1))) pe_int) pe_int) pe_int) (pa_cons pe_int pa_nil))))))), ?_⟩
    refine q_asg (v := .int (ns.getD k 0)) (ev_if (b := decide ((k : Int) < ((ns.map V.int).length : Int))) (et_test (ev_op (ev_var rfl) (ev_len (ev_var rfl) hS) rv_I0)) (fun hb => ?_) fun hb => ?_) fun H1 e1 => ?_
    · have hb' : (k : Int) < ((ns.map V.int).length : Int) := of_decide_eq_true hb
      have hk2 : k < ns.length := by rw [List.length_map] at hb'; omega
      refine ev_op (ev_var rfl) (ev_var rfl) (rv_ixL hS (atI_nat ?_))
      rw [List.getElem?_map, List.getElem?_eq_getElem hk2, List.getD_eq_getElem?_getD, List.getElem?_eq_getElem hk2] <;> rfl
    · have hb' : ¬ (k : Int) < ((ns.map V.int).length : Int) := of_decide_eq_false hb
      have hk2 : ns.length ≤ k := by rw [List.length_map] at hb'; omega
      rw [List.getD_eq_getElem?_getD, List.getElem?_eq_none hk2]
      exact ev_c
    · generalize ns.getD k 0 = c
      have hab : ∀ {σ : L2.St} {H : Hp}, σ[2]? = some (some (.int c)) → Ev (tCB (fun xs H Q => ∃ i, xs = [V.int i] ∧ Q (V.int (if i < 0 then -i else i)) H) (tCons (tVar 2) tNil)) σ H (.int (if c < 0 then -c else c)) := fun hs => ev_cb1 (ev_var hs) fun H1 Q q => ⟨c, rfl, q⟩
      have hnn : 0 ≤ (if c < 0 then -c else c) := by split <;> omega
      generalize (if c < 0 then -c else c) = ac at hab hnn
      have hbit : ∀ x : Bool, (0 : Int) ≤ (if x = true then 1 else 0) ∧ (if x = true then 1 else 0) ≤ (1 : Int) := fun x => by cases x <;> decide
      refine s_retL (el_lst (ea_cons (ev_op (hab rfl) (ev_cb1 (ev_op (hab rfl) (ev_op ev_c ev_c (rv_I ⟨by decide, by decide, by decide⟩)) rv_I0) fun H1 Q q => .inr ⟨_, rfl, q⟩) (rv_I (.inr ⟨by have := hbit (decide ((10 : Int) ^ (18 : Int).toNat ≤ ac)); omega, by have := hbit (decide ((10 : Int) ^ (18 : Int).toNat ≤ ac)); omega⟩)))
        (ea_cons (ev_op (ev_op (ev_op (ev_op (ev_op (ev_var rfl) ev_c (rv_I (by decide))) (ev_op ev_c (ev_var rfl) (rv_I (.inl ⟨by decide, by decide⟩))) rv_I0) ev_c rv_I0) ev_c (rv_I (.inr ⟨by decide, by decide⟩))) ev_c (rv_I (by decide))) (ea_cons ev_c ea_nil))) (by show 3 ≤ 100000; decide)) fun p H2 np e2 hp => ?_
      refine q p H2 (e1.trans e2) (fresh_back e1 np) ⟨_, _, _, hp, Int.mul_nonneg hnn (hbit _).1, ?_, ?_, Int.le_refl _, Int.le_refl _⟩
      · exact Int.emod_nonneg _ (by decide)
      · exact Int.emod_lt_of_pos _ (by decide)
theorem cut_hi (xs : List V) (n : Nat) : cutV xs none (some (n : Int)) = xs.take n := by
  unfold cutV
  rw [HT.sIx_none, HT.sIx_nat, Nat.sub_zero, List.drop_zero]
  by_cases h : n ≤ xs.length
  · rw [Nat.min_eq_left h]
  · rw [Nat.min_eq_right (by omega), List.take_of_length_le (Nat.le_refl _), List.take_of_length_le (by omega)]
theorem cut_both (xs : List V) (n m : Nat) : cutV xs (some (n : Int)) (some (m : Int)) = (xs.drop n).take (m - n) := by
  unfold cutV
  rw [HT.sIx_nat, HT.sIx_nat]
  by_cases h : n ≤ xs.length
  · rw [Nat.min_eq_left h]
    by_cases h2 : m ≤ xs.length
    · rw [Nat.min_eq_left h2]
    · rw [Nat.min_eq_right (by omega), List.take_of_length_le (by rw [List.length_drop]; omega), List.take_of_length_le (by rw [List.length_drop]; omega)]
  · rw [Nat.min_eq_right (show xs.length ≤ n by omega), List.drop_of_length_le (Nat.le_refl _), List.drop_of_length_le (show xs.length ≤ n by omega), List.take_nil, List.take_nil]
def spFold (K : PySem.W.Frag) : Sp := fun vs H Q _ => ∃ (a : Addr) (ns : List Int) (z : Nat), vs = [.ref a, .int (z : Int)] ∧ SqL K H a (ns.map V.int) ∧ 1 ≤ z ∧ z ≤ 1000 ∧ ns.length ≤ 1000 ∧
  ∀ (l : Addr) (ms : List Int) (H' : Hp), Same H H' → H l = none → H' l = some (.lst (ms.map V.int)) → ms.length = min z ns.length → Q (.ref l) H'
theorem ok_law_folded (F : Fun K "_law_folded" "_law_folded" st_law_folded f fd) (B : Bl mg) : FnOk P w K mg base CX0 1 f fd ["_law_script", "_law_size"] (spFold K) := by
  refine F.ok sc_law_folded (fun vs H Q E h => ?_) (fun cdv A outer s H vs Q E hr h => ?_)
  · obtain ⟨a, ns, z, rfl, _⟩ := h
    rfl
  · obtain ⟨a, ns, z, rfl, hS, hz1, hz2, hl, q⟩ := h
    refine ⟨_, (pss_cons (ps_set (i := 2) sc_law_folded.nd rfl (.inl rfl) (pe_callTy (listK K) (by rfl) B.list (by decide +kernel) (pa_cons (pe_slice (slLK K) (pv 0) po_none (po_some (pv 1))) pa_nil)))
 (pss_cons (ps_for PassesOwn.never rfl (pi_enumK K (by rfl) B.enumerate (pa_cons (pe_slice (slLK K) (pv 0) (po_some (pv 1)) (po_some pe_int)) pa_nil)) (pg_tupK K (n := 2) rfl (pgs_cons (pg_name (i := 3) sc_law_folded.nd rfl (.inl rfl)) (pgs_cons (pg_name (i := 4) sc_law_folded.nd rfl (.inl rfl)) pgs_nil)))
 (pss_one (ps_asg (pe_op op_add (pe_ix (ixLK K) (pv 2) (pe_op op_mod (pv 3) (pv 1)) (fun _ _ => rfl)) (pe_op op_mul (pv 4) (pe_op op_add (pv 3) pe_int))) (pg_sub (pv 2) (pe_op op_mod (pv 3) (pv 1)) set_list))))
 (pss_one (ps_ret (pv 2))))), ?_⟩
    refine el_sl (ev_var rfl) eo_none (eo_some (ev_var rfl)) hS H (Ex.refl _) _ fun p0 H1 np0 e1 hp0 => ⟨p0, _, rfl, .inl (SqL.of hp0), fun l nl => ?_⟩
    rw [cut_hi, ← List.map_take]
    have s1 : Same H (upd H1 l (.lst ((ns.take z).map V.int))) := e1.trans (Ex.new nl)
    have hl0 : H l = none := fresh_back e1 nl
    refine q_forE (el_sl (ev_var rfl) (eo_some (ev_var rfl)) (eo_some ev_c) (s1.seq hS)) (fun p k σ H' => ∃ (ms : List Int) (y3 y4 : Option V), σ = [some (.ref a), some (.int (z : Int)), some (.ref l), y3, y4] ∧ Same H H' ∧ H' l = some (.lst (ms.map V.int)) ∧ ms.length = min z ns.length ∧ H' p = some (.lst (cutV (ns.map V.int) (some (z : Int)) (some 63))) ∧ p ≠ l)
      (fun p H2 np e2 hp => ⟨ns.take z, none, none, rfl, s1.trans e2, e2 _ _ upd_same, by rw [List.length_take], hp, fun h => ?_⟩) (fun p k σ' H' _ hP => ?_) (fun p k x T σ' H' hx hP hT => ?_) (fun p σ' H' hP => ?_)
    · rw [h, upd_same] at np
      cases np
    · obtain ⟨_, _, _, _, _, _, _, hp, _⟩ := hP
      exact SqL.of hp
    · obtain ⟨ms, y3, y4, rfl, sm, hl', len, hp, hpl⟩ := hP
      have hx2 := hx
      rw [show (63 : Int) = ((63 : Nat) : Int) from rfl, cut_both, ← List.map_drop, ← List.map_take] at hx2
      rw [List.getElem?_map, Option.map_eq_some_iff] at hx2
      obtain ⟨n, hn, rfl⟩ := hx2
      have hzn : z < ns.length := by
        have := (List.getElem?_eq_some_iff.mp hn).1
        rw [List.length_take, List.length_drop] at this
        omega
      have hml : ms.length = z := by rw [len]; omega
      have hk63 : k < 1000 := by
        have := (List.getElem?_eq_some_iff.mp hn).1
        rw [List.length_take, List.length_drop] at this
        omega
      have nTl : l ≠ T := ne_of_none hl' hT
      have nTp : p ≠ T := ne_of_none hp hT
      have hj : k % z < (ms.map V.int).length := by rw [List.length_map, hml]; exact Nat.mod_lt _ (by omega)
      have hlT : (upd H' T (.tup [.int (k : Nat), .int n])) l = some (.lst (ms.map V.int)) := by rw [upd_ne nTl]; exact hl'
      have hix : ∀ {σ : L2.St} {H : Hp}, σ[1]? = some (some (.int (z : Int))) → σ[3]? = some (some (.int (k : Nat))) → Ev (tOp (rI (fun _ j => 0 < j) fun i j => .int (i % j)) (tVar 3) (tVar 1)) σ H (.int ((k % z : Nat) : Int)) := fun h1 h2 => ev_is (ev_op (ev_var h2) (ev_var h1) (rv_I (by show (0 : Int) < z; omega))) (by rw [Int.natCast_emod])
      refine s_setL (j := k % z) hlT (v := .int (ms[k % z]'(by rw [List.length_map] at hj; exact hj) + n * ((k : Nat) + 2))) (ev_op (ev_op (ev_var rfl) (hix rfl rfl) (rv_ixL (SqL.of hlT) (atI_nat ?_))) (ev_op (ev_var rfl) (ev_op (ev_var rfl) ev_c rv_I0) (rv_I (.inr ⟨by omega, by omega⟩))) rv_I0) (ev_var rfl) (hix rfl rfl) hj fun H2 e2 => ?_
      · rw [List.getElem?_map, List.getElem?_eq_getElem] <;> rfl
      · refine ⟨ms.set (k % z) (ms[k % z]'(by rw [List.length_map] at hj; exact hj) + n * ((k : Nat) + 2)), _, _, rfl, fun c o ho => ?_, ?_, ?_, ?_, hpl⟩
        · rw [upd_ne (ne_of_none ho hl0)]
          exact e2 _ _ (Ex.new hT _ _ (sm _ _ ho))
        · rw [upd_same, List.map_set]
        · rw [List.length_set]; exact len
        · rw [upd_ne hpl]
          exact e2 _ _ (by rw [upd_ne nTp]; exact hp)
    · obtain ⟨ms, y3, y4, rfl, sm, hl', len, _, _⟩ := hP
      exact s_ret (ev_var rfl) fun H2 e2 => q l ms H2 (sm.trans e2) hl0 (e2 _ _ hl') len
end
end K01

set_option Elab.async false
set_option linter.all false
set_option maxRecDepth 100000
namespace K01
open PySem PySem.Spec PyProof.Rows L2 Evl Cg
section
variable {P : Program} {w : World} {K : PySem.W.Frag} {mg : Str → Option Value} {base : Heap} {f f1 f2 f3 f4 : Addr} {fd fd1 fd2 fd3 fd4 : FuncData}
def spSizes : Sp := fun vs H Q _ => ∃ (b : Addr) (M N : Nat), vs = [.ref b, .int (M : Int)] ∧ Box H b N ∧ N ≤ 900000000 ∧ 1 ≤ M ∧ M ≤ 1000 ∧
  ∀ (t : Addr) (n m : Nat) (H' : Hp), 1 ≤ n → n ≤ M → 1 ≤ m → m ≤ M → H t = none → H' t = some (.tup [.int (n : Int), .int (m : Int)]) → Box H' b (N + 5) → Keep [b] H H' → Q (.ref t) H'
theorem ok_law_sizes (F : Fun K "_law_sizes" "_law_sizes" st_law_sizes f fd) (B : Bl mg) (d_law_take : Df P w K mg base 1 "_law_take" st_law_take ["_law_box_here", "_law_size"] f1 fd1 spTake) : FnOk P w K mg base CX0 2 f fd ["_law_box_here", "_law_most"] spSizes := by
  refine F.ok sc_law_sizes (fun vs H Q E h => ?_) (fun cdv A outer s H vs Q E hr h => ?_)
  · obtain ⟨b, M, N, rfl, _⟩ := h
    rfl
  · obtain ⟨b, M, N, rfl, hB, hN, hM1, hM2, q⟩ := h
    refine ⟨_, (pss_cons (ps_set (i := 2) sc_law_sizes.nd rfl (.inl rfl) (pe_lst (pa_cons (pe_tup (pa_cons (pe_op op_add pe_int (pe_call d_law_take.G (hr.mono (by omega)) (by rfl) d_law_take.g d_law_take.F.kp d_law_take.b .nil pass0 (pa_cons (pv 0) (pa_cons (pe_callB (call_min2 rfl) (by rfl) B.min (by decide +kernel) (pa_cons pe_int (pa_cons (pv 1) pa_nil))) pa_nil)))) (pa_cons (pe_op op_add pe_int (pe_call d_law_take.G (hr.mono (by omega)) (by rfl) d_law_take.g d_law_take.F.kp d_law_take.b .nil pass0 (pa_cons (pv 0) (pa_cons (pe_callB (call_min2 rfl) (by rfl) B.min (by decide +kernel) (pa_cons pe_int (pa_cons (pv 1) pa_nil))) pa_nil)))) pa_nil))) (pa_cons (pe_tup (pa_cons (pv 1) (pa_cons (pv 1) pa_nil))) pa_nil))))
 (pss_cons (ps_expr (pe_bm PySem.F.plainAttrs_list PySem.F.slot_list_append PySem.F.type_list_append mt_append (pv 2) (pa_cons (pe_tup (pa_cons (pe_op op_add pe_int (pe_call d_law_take.G (hr.mono (by omega)) (by rfl) d_law_take.g d_law_take.F.kp d_law_take.b .nil pass0 (pa_cons (pv 0) (pa_cons (pv 1) pa_nil)))) (pa_cons (pe_op op_add pe_int (pe_call d_law_take.G (hr.mono (by omega)) (by rfl) d_law_take.g d_law_take.F.kp d_law_take.b .nil pass0 (pa_cons (pv 0) (pa_cons (pv 1) pa_nil)))) pa_nil))) pa_nil)))
 (pss_one (ps_ret (pe_ix (ixLK K) (pv 2) (pe_ix (ixLK K) (pe_lst (pa_cons pe_int (pa_cons pe_int (pa_cons pe_int (pa_cons pe_int (pa_cons pe_int (pa_cons pe_int pa_nil))))))) (pe_call d_law_take.G (hr.mono (by omega)) (by rfl) d_law_take.g d_law_take.F.kp d_law_take.b .nil pass0 (pa_cons (pv 0) (pa_cons pe_int pa_nil))) (fun _ _ => rfl)) (fun _ _ => rfl)))))), ?_⟩
    have four : ∀ {σ : L2.St} {H : Hp}, σ[1]? = some (some (.int (M : Int))) → Ev (tCB (fun xs H Q => ∃ i j, xs = [V.int i, V.int j] ∧ Q (V.int (if j < i then j else i)) H) (tCons (tC (.int 4)) (tCons (tVar 1) tNil))) σ H (.int (if (M : Int) < 4 then M else 4)) := fun hs => ev_cb2 ev_c (ev_var hs) fun H1 Q q => ⟨4, M, rfl, q⟩
    have h4 : 1 ≤ (if (M : Int) < 4 then (M : Int) else 4) ∧ (if (M : Int) < 4 then (M : Int) else 4) ≤ M := by split <;> omega
    generalize (if (M : Int) < 4 then (M : Int) else 4) = m4 at four h4
    -- (1 + draw, 1 + draw)
    refine r_take rfl (four rfl) hB (by omega) (by omega) (by omega) fun x1 H1 a1 a2 B1 k1 => ⟨1, x1, rfl, rfl, ?_⟩
    refine r_take rfl (four rfl) B1 (by omega) (by omega) (by omega) fun x2 H2 a3 a4 B2 k2 => ⟨1, x2, rfl, rfl, by show 2 ≤ sizeLine; decide, fun t1 nt1 => ?_⟩
    have kA : Keep [b] H (upd H2 t1 (.tup [.int (1 + x1), .int (1 + x2)])) := (k1.trans k2).new nt1
    have BA : Box (upd H2 t1 (.tup [.int (1 + x1), .int (1 + x2)])) b (N + 2) := B2.upd nt1
    have hA : (upd H2 t1 (.tup [.int (1 + x1), .int (1 + x2)])) t1 = some (.tup [.int (1 + x1), .int (1 + x2)]) := upd_same
    have n1 : H t1 = none := by
      cases hh : H t1 with
      | none => rfl
      | some o =>
        have := (k1.trans k2).get (by simpa using (B2.ne nt1)) hh
        rw [nt1] at this
        cases this
    generalize upd H2 t1 (.tup [.int (1 + x1), .int (1 + x2)]) = HA at kA BA hA ⊢
    -- (most, most), the list
    refine ⟨.int M, rfl, .int M, rfl, by show 2 ≤ sizeLine; decide, fun t2 nt2 => ⟨by show 2 ≤ sizeLine; decide, fun l nl => ?_⟩⟩
    have kB : Keep [b] HA (upd (upd HA t2 (.tup [.int M, .int M])) l (.lst [.ref t1, .ref t2])) := ((Keep.refl _ _).new nt2).new nl
    have BB : Box (upd (upd HA t2 (.tup [.int M, .int M])) l (.lst [.ref t1, .ref t2])) b (N + 2) := (BA.upd nt2).upd nl
    have hlB : (upd (upd HA t2 (.tup [.int M, .int M])) l (.lst [.ref t1, .ref t2])) l = some (.lst [.ref t1, .ref t2]) := upd_same
    have ht2B : (upd (upd HA t2 (.tup [.int M, .int M])) l (.lst [.ref t1, .ref t2])) t2 = some (.tup [.int M, .int M]) := Ex.new nl _ _ upd_same
    have n2 : HA t2 = none := nt2
    have nlA : HA l = none := fresh_back (Ex.new nt2) nl
    generalize upd (upd HA t2 (.tup [.int M, .int M])) l (.lst [.ref t1, .ref t2]) = HB at kB BB hlB ht2B ⊢
    have hbn : ∀ {p : Addr}, HA p = none → p ∉ [b] := fun h => by simpa using BA.ne h
    have ht1B : HB t1 = some (.tup [.int (1 + x1), .int (1 + x2)]) := kB.get (by
      have := BA.ne (p := t1)
      intro z
      have z' : t1 = b := by simpa using z
      obtain ⟨r, s, c, g, _⟩ := BA
      rw [← z', hA] at g
      cases g) hA
    -- append
    refine ⟨.ref l, rfl, .inl ⟨rfl, _, SqL.of hlB⟩, ?_⟩
    refine r_take rfl (ev_var rfl) BB (by omega) (by omega) (by omega) fun x3 H3 a5 a6 B3 k3 => ⟨1, x3, rfl, rfl, ?_⟩
    refine r_take rfl (ev_var rfl) B3 (by omega) (by omega) (by omega) fun x4 H4 a7 a8 B4 k4 => ⟨1, x4, rfl, rfl, by show 2 ≤ sizeLine; decide, fun t3 nt3 => ?_⟩
    have k34 := k3.trans k4
    have hl4 : H4 l = some (.lst [.ref t1, .ref t2]) := k34.get (hbn nlA) hlB
    have nl3 : l ≠ t3 := ne_of_none hl4 nt3
    refine ⟨l, _, _, rfl, rfl, by rw [upd_ne nl3]; exact hl4, by show 2 < sizeLine; decide, ?_⟩
    generalize hHC : upd (upd H4 t3 _) l _ = HC
    have g1 : ∀ {p : Addr} {o : HO}, p ∉ [b] → p ≠ l → HB p = some o → HC p = some o := fun h1 h2 h3 => by
      rw [← hHC, upd_ne h2, upd_ne (ne_of_none (k34.get h1 h3) nt3)]
      exact k34.get h1 h3
    have hC1 := g1 (p := t1) (by
      intro z
      have z' : t1 = b := by simpa using z
      obtain ⟨r, s, c, g, _⟩ := BA
      rw [← z', hA] at g
      cases g) (ne_of_none hA nlA) ht1B
    have hC2 := g1 (p := t2) (hbn n2) (ne_of ht2B hlB (fun z => nomatch z)) ht2B
    have hC3 : HC t3 = some (.tup [.int (1 + x3), .int (1 + x4)]) := by
      rw [← hHC, upd_ne nl3.symm, upd_same]
    have BC : Box HC b (N + 4) := by
      obtain ⟨r, s, c, g, g'⟩ := B4.upd (o := .tup [.int (1 + x3), .int (1 + x4)]) nt3
      exact ⟨r, s, c, by rw [← hHC, upd_ne (BA.ne nlA).symm]; exact g, g'⟩
    have kC : Keep [b] H HC := fun p o hq => by
      obtain ⟨q1, q2⟩ := hid_some hq
      have hA' := kA.get q1 q2
      rw [hid_out q1]
      exact g1 q1 (ne_of_none hA' nlA) (kB.get q1 hA')
    have n3 : H t3 = none := by
      cases hh : H t3 with
      | none => rfl
      | some o =>
        have := (kA.trans (kB.trans k34)).get (by simpa using (B4.ne nt3)) hh
        rw [nt3] at this
        cases this
    have n2' : H t2 = none := by
      cases hh : H t2 with
      | none => rfl
      | some o =>
        have := kA.get (hbn n2) hh
        rw [n2] at this
        cases this
    have hlC : HC l = some (.lst [.ref t1, .ref t2, .ref t3]) := by
      rw [← hHC]
      exact upd_same
    have hlb : l ∉ [b] := hbn nlA
    -- which of the three
    refine ⟨.ref l, rfl, by show 6 ≤ sizeLine; decide, fun l2 nl2 => ?_⟩
    refine r_take rfl ev_c (BC.upd nl2) (by omega) (by decide) (by decide) fun x5 H5 a9 a10 B5 k5 => ?_
    have hl2 : (upd HC l2 (.lst [.int 0, .int 0, .int 0, .int 2, .int 2, .int 1])) l2 = some (.lst [.int 0, .int 0, .int 0, .int 2, .int 2, .int 1]) := upd_same
    have hl5 := k5.get (by simpa using BC.ne nl2) hl2
    have get5 : ∀ {p : Addr} {o : HO}, p ∉ [b] → HC p = some o → H5 p = some o := fun h1 h2 => k5.get h1 (Ex.new nl2 _ _ h2)
    have hlst := get5 hlb hlC
    have kF : Keep [b] H H5 := (kC.new nl2).trans k5
    obtain ⟨j, hj, rfl⟩ : ∃ j : Nat, j < 6 ∧ x5 = (j : Int) := ⟨x5.toNat, by omega, by omega⟩
    have e1 : (1 + x1 : Int) = (((1 + x1).toNat : Nat) : Int) := by omega
    have e2 : (1 + x2 : Int) = (((1 + x2).toNat : Nat) : Int) := by omega
    have e3 : (1 + x3 : Int) = (((1 + x3).toNat : Nat) : Int) := by omega
    have e4 : (1 + x4 : Int) = (((1 + x4).toNat : Nat) : Int) := by omega
    have tb1 : t1 ∉ [b] := by
      intro z
      have z' : t1 = b := by simpa using z
      obtain ⟨r, s, c, g, _⟩ := BC
      rw [← z', hC1] at g
      cases g
    have w0 : Q (.ref t1) H5 := q t1 (1 + x1).toNat (1 + x2).toNat H5 (by omega) (by omega) (by omega) (by omega) n1 (by rw [← e1, ← e2]; exact get5 tb1 hC1) B5 kF
    have w1 : Q (.ref t2) H5 := q t2 M M H5 hM1 (Nat.le_refl _) hM1 (Nat.le_refl _) n2' (get5 (hbn n2) hC2) B5 kF
    have tb3 : t3 ∉ [b] := by
      intro z
      have z' : t3 = b := by simpa using z
      obtain ⟨r, s, c, g, _⟩ := BC
      rw [← z', hC3] at g
      cases g
    have w2 : Q (.ref t3) H5 := q t3 (1 + x3).toNat (1 + x4).toNat H5 (by omega) (by omega) (by omega) (by omega) n3 (by rw [← e3, ← e4]; exact get5 tb3 hC3) B5 kF
    have pick : ∀ (i : Nat) (v : V), [V.int 0, .int 0, .int 0, .int 2, .int 2, .int 1][j]? = some (.int (i : Int)) → [V.ref t1, .ref t2, .ref t3][i]? = some v → Q v H5 →
        rIxL K (.ref l2) (.int (j : Int)) H5 (fun y H' => rIxL K (.ref l) y H' Q) := fun i v h1 h2 h3 => ⟨l2, _, _, _, rfl, rfl, SqL.of hl5, atI_nat h1, l, _, _, _, rfl, rfl, SqL.of hlst, atI_nat h2, h3⟩
    match j, hj with
    | 0, _ => exact (pick 0 _ rfl rfl w0)
    | 1, _ => exact (pick 0 _ rfl rfl w0)
    | 2, _ => exact (pick 0 _ rfl rfl w0)
    | 3, _ => exact (pick 2 _ rfl rfl w2)
    | 4, _ => exact (pick 2 _ rfl rfl w2)
    | 5, _ => exact (pick 1 _ rfl rfl w1)
end
end K01

set_option Elab.async false
set_option linter.all false
set_option maxRecDepth 100000
namespace K01
open PySem PySem.Spec PyProof.Rows L2 Evl Cg
section
variable {P : Program} {w : World} {K : PySem.W.Frag} {mg : Str → Option Value} {base : Heap} {f f1 f2 f3 f4 : Addr} {fd fd1 fd2 fd3 fd4 : FuncData}
def spTable : Sp := fun vs H Q _ => ∃ (b : Addr) (n m N : Nat) (bs : List Addr), vs = [.ref b, .int (n : Int), .int (m : Int)] ∧ Box H b N ∧ N ≤ 900000000 ∧ n ≤ 100 ∧ m ≤ 100 ∧ b ∈ bs ∧ (∀ x ∈ bs, H x ≠ none) ∧
  ∀ (T : Addr) (d : PyData) (H' : Hp), TblD n m d → H T = none → Dq (hid bs H') (.ref T) d → Box H' b (N + 1 + m * n) → Keep [b] H H' → Q (.ref T) H'
theorem flat_rep (n : Nat) (x : V) : (List.replicate n [x]).flatten = List.replicate n x := by
  induction n with
  | zero => rfl
  | succ n ih => rw [List.replicate_succ, List.flatten_cons, ih]; rfl
theorem ok_law_table (F : Fun K "_law_table" "_law_table" st_law_table f fd) (B : Bl mg) (d_law_take : Df P w K mg base 1 "_law_take" st_law_take ["_law_box_here", "_law_size"] f1 fd1 spTake) : FnOk P w K mg base CX0 2 f fd ["_law_box_here", "_law_n", "_law_m"] spTable := by
  refine F.ok sc_law_table (fun vs H Q E h => ?_) (fun cdv A outer s H vs Q E hr h => ?_)
  · obtain ⟨b, n, m, N, bs, rfl, _⟩ := h
    rfl
  · obtain ⟨b, n, m, N, bs, rfl, hB, hN, hn, hm, hb, hbs, q⟩ := h
    refine ⟨_, (pss_cons (ps_set (i := 3) sc_law_table.nd rfl (.inr rfl) (pe_call d_law_take.G (hr.mono (by omega)) (by rfl) d_law_take.g d_law_take.F.kp d_law_take.b .nil pass0 (pa_cons (pv 0) (pa_cons pe_int pa_nil))))
 (pss_cons (ps_if (pt_cmpR op_lt (pv 3) pe_int (nomark _))
 (pss_one (ps_ret (pe_lc (own := [("_law_k", 5)]) rfl sc_law_table.nd (pi_range1 (by rfl) B.range (pa_cons (pv 1) pa_nil)) (blkOk_by (own := [("_law_k", 5)]) (by kernel_rfl)) (fun _ _ _ _ _ => (pg_name (i := 5) sc_law_table.nd rfl (.inl rfl))) (fun _ _ _ _ _ => pts_nil) (fun _ _ _ _ _ => (pe_op op_rep (pe_lst (pa_cons (pv 3) pa_nil)) (pv 2))))))
 pss_nil)
 (pss_one (ps_ret (pe_lc (own := [("_law_i", 4)]) rfl sc_law_table.nd (pi_range1 (by rfl) B.range (pa_cons (pv 1) pa_nil)) (blkOk_by (own := [("_law_i", 4)]) (by kernel_rfl)) (fun _ _ _ _ _ => (pg_name (i := 4) sc_law_table.nd rfl (.inl rfl))) (fun _ _ _ _ _ => pts_nil) (fun _ _ _ _ _ => (pe_lc (own := [("_law_j", 6)]) rfl sc_law_table.nd (pi_range1 (by rfl) B.range (pa_cons (pv 2) pa_nil)) (blkOk_by (own := [("_law_j", 6)]) (by kernel_rfl)) (fun _ _ _ _ _ => (pg_name (i := 6) sc_law_table.nd rfl (.inl rfl))) (fun _ _ _ _ _ => pts_nil) (fun _ _ _ _ _ => (pe_callTy call_int1 (by rfl) B.int (by decide +kernel) (pa_cons (pe_cmpR op_lt (pe_call d_law_take.G (hr.mono (by omega)) (by rfl) d_law_take.g d_law_take.F.kp d_law_take.b .nil pass0 (pa_cons (pv 0) (pa_cons pe_int pa_nil))) (pe_ix (ixLK K) (pe_lst (pa_cons pe_int (pa_cons pe_int (pa_cons pe_int pa_nil)))) (pe_op op_mod (pv 3) pe_int) (fun _ _ => rfl)) (nomark _)) pa_nil)))))))))), ?_⟩
    have hmn : m * n ≤ 100 * 100 := Nat.mul_le_mul hm hn
    refine r_take rfl ev_c hB (by omega) (by decide) (by decide) fun mode H1 a1 a2 B1 k1 => ?_
    have live1 : ∀ x ∈ bs, H1 x ≠ none := fun x hx => k1.live B1 (hbs x hx)
    refine q_when (b := decide (mode < 2)) (et_test (ev_op (ev_var rfl) ev_c rv_I0)) (fun hmo H2 e2 => ?_) fun hmo H2 e2 => ?_
    · have hmo' : mode < 2 := of_decide_eq_true hmo
      have B2 := B1.mono e2
      have live2 : ∀ x ∈ bs, H2 x ≠ none := fun x hx => (Keep.of e2).live B2 (live1 x hx)
      refine r_lcB (c := m) (N := N + 1) (fun d => ∃ xs : List PyData, d = .list xs ∧ xs.length = m ∧ ∀ x ∈ xs, x = .int 0 ∨ x = .int 1) hb live2 B2 (ea_cons (ev_var rfl) ea_nil) (by omega) (fun _ => rfl) (fun i H' cs Q' hi hc lc Bi ki k => ?_) fun D ds H' nD BD kD dD len all => ?_
      · refine ⟨.int mode, rfl, by show 1 ≤ sizeLine; decide, fun l nl => ⟨.int m, rfl, l, m, [.int mode], rfl, rfl, upd_same, by omega, by omega, ?_, fun p np => ?_⟩⟩
        · have e : [V.int mode].length * ((m : Int)).toNat = m := by simp
          rw [e]
          exact Nat.le_trans hm (by decide)
        · have e : ((m : Int)).toNat = m := by simp
          rw [e, flat_rep]
          have kk : Keep [b] H' (upd (upd H' l (.lst [.int mode])) p (.lst (List.replicate m (.int mode)))) := ((Keep.refl _ _).new nl).new np
          have np' : H' p = none := fresh_back (Ex.new nl) np
          refine k (.ref p) (.list (List.replicate m (.int mode))) _ ((((Bi.upd nl).upd np).le (by rw [Nat.mul_succ]; omega))) kk (.lst (by rw [hid_out (new_out np' lc), upd_same]) (DqAll.rep (.int mode) m)) ⟨_, rfl, List.length_replicate, fun x hx => ?_⟩
          have ex := List.eq_of_mem_replicate hx
          subst ex
          have hm01 : mode = 0 ∨ mode = 1 := by omega
          rcases hm01 with h | h
          · exact .inl (by rw [h])
          · exact .inr (by rw [h])
      · exact q D (.list ds) H' ⟨ds, rfl, len, all⟩ (k1.free B1 (fresh_back e2 nD)) dD BD ((k1.ext e2).trans kD)
    · have B2 := B1.mono e2
      have live2 : ∀ x ∈ bs, H2 x ≠ none := fun x hx => (Keep.of e2).live B2 (live1 x hx)
      refine r_lcB (c := m) (N := N + 1) (fun d => ∃ xs : List PyData, d = .list xs ∧ xs.length = m ∧ ∀ x ∈ xs, x = .int 0 ∨ x = .int 1) hb live2 B2 (ea_cons (ev_var rfl) ea_nil) (by omega) (fun _ => rfl) (fun i H' cs Q' hi hc lc Bi ki k => ?_) fun D ds H' nD BD kD dD len all => ?_
      · have hmi : m * i ≤ m * n := Nat.mul_le_mul_left m (by omega)
        refine r_lcB (c := 1) (N := N + 1 + m * i) (fun d => d = .int 0 ∨ d = .int 1) (hc b hb) lc Bi (ea_cons (ev_var rfl) ea_nil) (by omega) (fun _ => rfl) (fun j H'' cs' Q'' hj hc' lc' Bj kj k' => ?_) fun D ds H'' nD BD kD dD len all => ?_
        · refine r_take rfl ev_c Bj (by omega) (by decide) (by decide) fun x H3 a3 a4 B3 k3 => ⟨by show 3 ≤ sizeLine; decide, fun l nl => ⟨.int mode, rfl, mode, 3, rfl, rfl, by show (0 : Int) < 3; decide, ?_⟩⟩
          obtain ⟨t, ht⟩ : ∃ t : Int, atI [V.int 1, .int 3, .int 5] (mode % 3) = some (.int t) := by
            have h3 : mode % 3 = 0 ∨ mode % 3 = 1 ∨ mode % 3 = 2 := by omega
            rcases h3 with h | h | h
            · rw [h]; exact ⟨1, rfl⟩
            · rw [h]; exact ⟨3, rfl⟩
            · rw [h]; exact ⟨5, rfl⟩
          refine ⟨l, _, _, .int t, rfl, rfl, SqL.of upd_same, ht, x, t, rfl, rfl, .inr ⟨_, rfl, ?_⟩⟩
          refine k' _ (.int (if decide (x < t) = true then 1 else 0)) _ (((B3.upd nl).le (by omega))) (k3.new nl) (.int _) ?_
          cases decide (x < t)
          · exact .inl rfl
          · exact .inr rfl
        · exact k (.ref D) (.list ds) H'' (BD.le (by rw [Nat.mul_succ]; omega)) kD dD ⟨ds, rfl, len, all⟩
      · exact q D (.list ds) H' ⟨ds, rfl, len, all⟩ (k1.free B1 (fresh_back e2 nD)) dD BD ((k1.ext e2).trans kD)
end
end K01

set_option Elab.async false
set_option linter.all false
set_option maxRecDepth 100000
set_option maxHeartbeats 1000000
namespace K01
open PySem PySem.Spec PyProof.Rows L2 Evl Cg
abbrev st_law_bent : Stmt := topS 17
theorem sc_law_bent : FnScope ["_law_box_here", "_law_table_here", "_law_behind", "_law_some", "_law_new", "_law_way", "_law_at", "_law_row", "_law_ahead", "_law_spot", "_law_odd"] ["_law_box_here", "_law_table_here"] (defScope st_law_bent) := ⟨rfl, rfl, rfl, by decide +kernel, rfl, by decide +kernel, by decide +kernel⟩
def ItemG (x : PyData) : Prop := okD x = true ∧ x.depth ≤ 1
def RowG (R : Nat) (r : PyData) : Prop := okD r = true ∧ r.depth ≤ 2 ∧ wz r ≤ R
theorem rowL {R : Nat} {xs : List PyData} : RowG R (.list xs) ↔ (∀ x ∈ xs, ItemG x) ∧ wzAll xs + 3 ≤ R := by
  constructor
  · rintro ⟨h1, h2, h3⟩
    have h2' : PyData.depthAll xs ≤ 1 := Nat.le_of_succ_le_succ h2
    exact ⟨fun x hx => ⟨okAll_iff.mp h1 x hx, depthAll_iff.mp h2' x hx⟩, h3⟩
  · rintro ⟨h1, h2⟩
    exact ⟨okAll_iff.mpr fun x hx => (h1 x hx).1, Nat.succ_le_succ (depthAll_iff.mpr fun x hx => (h1 x hx).2), h2⟩
theorem rowT {R : Nat} {xs : List PyData} (h : RowG R (.list xs)) : RowG R (.tuple xs) := h
theorem RowG.le {R S : Nat} {r : PyData} (h : RowG R r) (hs : R ≤ S) : RowG S r := ⟨h.1, h.2.1, Nat.le_trans h.2.2 hs⟩
def oddsD : List PyData := [.int 2, .int (-1), .bool true, .bool false, .none, .str "1", .str "", .tuple [.int 0], .list [.int 1], .int (10 ^ 30), .int 1, .int 0]
theorem odds_ok : ∀ d ∈ oddsD, ItemG d ∧ wz d ≤ 103 := by
  have h : (oddsD.all fun d => okD d && decide (d.depth ≤ 1) && decide (wz d ≤ 103)) = true := by decide +kernel
  intro d hd
  have h1 := List.all_eq_true.mp h d hd
  rw [Bool.and_eq_true, Bool.and_eq_true] at h1
  exact ⟨⟨h1.1.1, of_decide_eq_true h1.1.2⟩, of_decide_eq_true h1.2⟩
section
variable {P : Program} {w : World} {K : PySem.W.Frag} {mg : Str → Option Value} {base : Heap} {f f1 f2 f3 f4 : Addr} {fd fd1 fd2 fd3 fd4 : FuncData}
def spBent : Sp := fun vs H Q _ => ∃ (b T : Addr) (N R : Nat) (bs : List Addr) (rows : List PyData), vs = [.ref b, .ref T] ∧ Box H b N ∧ N ≤ 900000000 ∧ b ∈ bs ∧ Live bs H ∧ Dq (hid bs H) (.ref T) (.list rows) ∧ rows ≠ [] ∧ rows.length ≤ 100 ∧ 3 ≤ R ∧ R ≤ 10000 ∧ (∀ r ∈ rows, RowG R r) ∧
  ∀ (T' : Addr) (rows' : List PyData) (H' : Hp), rows' ≠ [] → rows'.length ≤ rows.length + 1 → (∀ r ∈ rows', RowG (2 * R + 110) r) → Dq (hid bs H') (.ref T') (.list rows') → Box H' b (N + 4) → Keep [b] H H' → Q (.ref T') H'
theorem bent_tail {b : Addr} {N n R L : Nat} {bs : List Addr} {cs : List PyData} {H H0 : Hp} {Q : VK} {σ : L2.St} {v3 : V} (h0 : σ[0]? = some (some (.ref b))) (h3 : σ[3]? = some (some v3)) (h4 : 4 < σ.length) (hb : b ∈ bs) (hB : Box H b n) (hn : n ≤ N + 3) (hN : N ≤ 900000000) (lv : Live bs H) (k0 : Keep [b] H0 H)
    (hd : Dq (hid bs H) v3 (.list cs)) (hne : cs ≠ []) (hlen : cs.length ≤ 1000) (hR : R ≤ 10000) (hL : L ≤ 1000) (hc : ∀ c ∈ cs, ∃ rows, c = .list rows ∧ rows.length ≤ L + 1 ∧ ∀ r ∈ rows, RowG (2 * R + 110) r)
    (q : ∀ (T' : Addr) (rows' : List PyData) (H' : Hp), rows' ≠ [] → rows'.length ≤ L + 1 → (∀ r ∈ rows', RowG (2 * R + 110) r) → Dq (hid bs H') (.ref T') (.list rows') → Box H' b (N + 4) → Keep [b] H0 H' → Q (.ref T') H') :
    tSeq (tAsg (tOp (rIxL K) (tVar 3) (tCall spTake [] E0 (tCons (tVar 0) (tCons (tCB (rLenS K) (tCons (tVar 3) tNil)) tNil)))) (gName 4)) (tRet (tIf (tTest (tOp (rNeD K) (tVar 4) (tLst tNil))) (tVar 4) (tLst (tCons (tLst tNil) tNil)))) { nx := fun _ H' => Q .non H', rt := Q } σ H := by
  have hpos : 0 < cs.length := List.length_pos_iff.mpr hne
  refine q_pick h0 hb (eq_var h3 hd) (ev_lenQ (bs := bs) (eq_var h3 hd)) hB (by omega) (by omega) (by omega) (by omega) fun j hj x H1 dx B1 k1 => ?_
  obtain ⟨rows, er, lr, gr⟩ := hc _ (List.getElem_mem hj)
  rw [er] at dx
  have lv1 := lv.keep k1 B1
  have hs4 : (σ.set 4 (some x))[4]? = some (some x) := List.getElem?_set_self h4
  have okr : SeqAt.shaped (.list rows) = true := shaped_ok (okAll_iff.mpr fun r hr => (gr r hr).1) (by
    have : PyData.depthAll rows ≤ 2 := depthAll_iff.mpr fun r hr => (gr r hr).2.1
    show PyData.depthAll rows + 1 ≤ 64
    omega)
  have tst := et_test (ev_neQ (K := K) (eq_var hs4 dx) (eq_lst lv1 qa_nil (Nat.zero_le _)) okr (show SeqAt.shaped (.list []) = true by decide +kernel))
  rw [eqv_nil] at tst
  cases hr : rows.isEmpty with
  | true =>
    rw [hr] at tst
    refine s_retQ (bs := bs) (d := .list [.list []]) (eq_if tst (fun z => by cases z) fun _ => eq_lst lv1 (qa_cons (eq_lst lv1 qa_nil (Nat.zero_le _)) qa_nil) (by show 1 ≤ 1000000; decide)) fun v H2 e2 d2 => ?_
    obtain ⟨p2, xs2, rfl, _, _⟩ := d2.list_inv
    refine q p2 [.list []] H2 (List.cons_ne_nil _ _) (by show 1 ≤ L + 1; omega) (fun r hr => ?_) d2 ((B1.mono e2).le (by omega)) ((k0.trans k1).ext e2)
    rw [List.mem_singleton.mp hr]
    exact rowL.mpr ⟨(fun _ z => nomatch z), by show 0 + 3 ≤ _; omega⟩
  | false =>
    rw [hr] at tst
    refine s_retQ (bs := bs) (d := .list rows) (eq_if tst (fun _ => eq_var hs4 dx) fun z => by cases z) fun v H2 e2 d2 => ?_
    obtain ⟨p2, xs2, rfl, _, _⟩ := d2.list_inv
    exact q p2 rows H2 (fun z => by rw [z] at hr; cases hr) lr gr d2 ((B1.mono e2).le (by omega)) ((k0.trans k1).ext e2)
theorem ok_law_bent (F : Fun K "_law_bent" "_law_bent" st_law_bent f fd) (B : Bl mg) (d_law_take : Df P w K mg base 1 "_law_take" st_law_take ["_law_box_here", "_law_size"] f1 fd1 spTake) : FnOk P w K mg base CX0 2 f fd ["_law_box_here", "_law_table_here"] spBent := by
  refine F.ok sc_law_bent (fun vs H Q E h => ?_) (fun cdv A outer s H vs Q E hr h => ?_)
  · obtain ⟨b, T, N, R, bs, rows, rfl, _⟩ := h
    rfl
  · obtain ⟨b, T, N, R, bs, rows, rfl, hB, hN, hb, lv, hT, hne, hlen, hR3, hR, hG, q⟩ := h
    refine ⟨_, (pss_cons (ps_par (i := 5) (j := 6) (by rfl) sc_law_bent.nd rfl rfl (by decide) rfl rfl (pa_cons (pe_call d_law_take.G (hr.mono (by omega)) (by rfl) d_law_take.g d_law_take.F.kp d_law_take.b .nil pass0 (pa_cons (pv 0) (pa_cons pe_int pa_nil))) (pa_cons (pe_call d_law_take.G (hr.mono (by omega)) (by rfl) d_law_take.g d_law_take.F.kp d_law_take.b .nil pass0 (pa_cons (pv 0) (pa_cons (pe_callB (lenK K) (by rfl) B.len (by decide +kernel) (pa_cons (pv 1) pa_nil)) pa_nil))) pa_nil)) (by rfl))
 (pss_cons (ps_par (i := 7) (j := 8) (by rfl) sc_law_bent.nd rfl rfl (by decide) rfl rfl (pa_cons (pe_ix (ixLK K) (pv 1) (pv 6) (fun _ _ => rfl)) (pa_cons (pe_slice (slLK K) (pv 1) po_none (po_some (pv 6))) pa_nil)) (by rfl))
 (pss_cons (ps_set (i := 2) sc_law_bent.nd rfl (.inl rfl) (pe_slice (slLK K) (pv 1) (po_some (pe_op op_add (pv 6) pe_int)) po_none))
 (pss_cons (ps_if (PW.pt (pw_and (pt_cmpR op_lt (pv 5) pe_int (nomark _)) (pw_and (pt_val (pe_callB (isiK K) (by rfl) B.isinstance (by decide +kernel) (pa_cons (pv 7) (pa_cons (pe_bltn (v := .ty "list") (by rfl) B.list (by decide +kernel) rfl) pa_nil)))) (pw_and1 (pt_cmpR (neDK K hr.units) (pv 7) (pe_lst pa_nil) (nomark _))))))
 (pss_cons (ps_set (i := 9) sc_law_bent.nd rfl (.inl rfl) (pe_call d_law_take.G (hr.mono (by omega)) (by rfl) d_law_take.g d_law_take.F.kp d_law_take.b .nil pass0 (pa_cons (pv 0) (pa_cons (pe_callB (lenK K) (by rfl) B.len (by decide +kernel) (pa_cons (pv 7) pa_nil)) pa_nil))))
 (pss_cons (ps_set (i := 10) sc_law_bent.nd rfl (.inl rfl) (pe_ix (ixLK K) (pe_lst (pa_cons pe_int (pa_cons (pe_un un_neg pe_int) (pa_cons pe_bl (pa_cons pe_bl (pa_cons pe_non (pa_cons pe_str (pa_cons pe_str (pa_cons (pe_tup (pa_cons pe_int pa_nil)) (pa_cons (pe_lst (pa_cons pe_int pa_nil)) (pa_cons (pe_op op_pow pe_int pe_int) (pa_cons pe_int (pa_cons pe_int pa_nil))))))))))))) (pe_call d_law_take.G (hr.mono (by omega)) (by rfl) d_law_take.g d_law_take.F.kp d_law_take.b .nil pass0 (pa_cons (pv 0) (pa_cons pe_int pa_nil))) (fun _ _ => rfl)))
 (pss_one (ps_ret (pe_op op_cat (pe_op op_cat (pv 8) (pe_lst (pa_cons (pe_op op_cat (pe_op op_cat (pe_slice (slLK K) (pv 7) po_none (po_some (pv 9))) (pe_lst (pa_cons (pv 10) pa_nil))) (pe_slice (slLK K) (pv 7) (po_some (pe_op op_add (pv 9) pe_int)) po_none)) pa_nil))) (pv 2))))))
 pss_nil)
 (pss_cons (ps_set (i := 3) sc_law_bent.nd rfl (.inl rfl) (pe_lst (pa_cons (pe_op op_cat (pv 8) (pv 2)) (pa_cons (pe_op op_cat (pe_op op_cat (pv 8) (pe_lst (pa_cons (pv 7) (pa_cons (pv 7) pa_nil)))) (pv 2)) (pa_cons (pe_op op_cat (pe_op op_cat (pv 8) (pe_lst (pa_cons (pe_lst pa_nil) pa_nil))) (pv 2)) pa_nil)))))
 (pss_cons (ps_if (pt_val (pe_callB (isiK K) (by rfl) B.isinstance (by decide +kernel) (pa_cons (pv 7) (pa_cons (pe_bltn (v := .ty "list") (by rfl) B.list (by decide +kernel) rfl) pa_nil))))
 (pss_cons (ps_set (i := 3) sc_law_bent.nd rfl (.inl rfl) (pe_op op_cat (pv 3) (pe_lst (pa_cons (pe_op op_cat (pe_op op_cat (pv 8) (pe_lst (pa_cons (pe_op op_cat (pv 7) (pe_slice (slLK K) (pv 7) po_none (po_some pe_int))) pa_nil))) (pv 2)) (pa_cons (pe_op op_cat (pe_op op_cat (pv 8) (pe_lst (pa_cons (pe_slice (slLK K) (pv 7) (po_some pe_int) po_none) pa_nil))) (pv 2)) pa_nil)))))
 (pss_one (ps_set (i := 3) sc_law_bent.nd rfl (.inl rfl) (pe_op op_cat (pv 3) (pe_lst (pa_cons (pe_op op_cat (pe_op op_cat (pv 8) (pe_lst (pa_cons (pe_callTy (tupK K) (by rfl) B.tuple (by decide +kernel) (pa_cons (pv 7) pa_nil)) pa_nil))) (pv 2)) (pa_cons (pe_op op_rep (pe_lst (pa_cons (pe_op op_cat (pv 7) (pe_lst (pa_cons pe_int pa_nil))) pa_nil)) (pe_callB (lenK K) (by rfl) B.len (by decide +kernel) (pa_cons (pv 1) pa_nil))) pa_nil)))))))
 pss_nil)
 (pss_cons (ps_set (i := 4) sc_law_bent.nd rfl (.inl rfl) (pe_ix (ixLK K) (pv 3) (pe_call d_law_take.G (hr.mono (by omega)) (by rfl) d_law_take.g d_law_take.F.kp d_law_take.b .nil pass0 (pa_cons (pv 0) (pa_cons (pe_callB (lenK K) (by rfl) B.len (by decide +kernel) (pa_cons (pv 3) pa_nil)) pa_nil))) (fun _ _ => rfl)))
 (pss_one (ps_ret (pe_ifExp (pt_cmpR (neDK K hr.units) (pv 4) (pe_lst pa_nil) (nomark _)) (pv 4) (pe_lst (pa_cons (pe_lst pa_nil) pa_nil)))))))))))), ?_⟩
    have hpos : 0 < rows.length := List.length_pos_iff.mpr hne
    -- way, at
    refine r_take rfl ev_c hB (by omega) (by decide) (by decide) fun way H1 a1 a2 B1 k1 => ?_
    have T1 := (keep_up hb k1).dq hT
    have lv1 := lv.keep k1 B1
    refine r_take rfl (ev_lenQ (bs := bs) (eq_var rfl T1)) B1 (by omega) (by omega) (by omega) fun ati H2 a3 a4 B2 k2 => ⟨_, _, rfl, ?_⟩
    have T2 := (keep_up hb k2).dq T1
    have lv2 := lv1.keep k2 B2
    have k02 := k1.trans k2
    obtain ⟨at', rfl⟩ : ∃ j : Nat, ati = (j : Int) := ⟨ati.toNat, by omega⟩
    have hat : at' < rows.length := by omega
    have g0 : atI rows (at' : Int) = some rows[at'] := atI_nat (List.getElem?_eq_getElem hat)
    have hrow : RowG R rows[at'] := hG _ (List.getElem_mem hat)
    generalize rows[at'] = row at g0 hrow
    have hah : ∀ r ∈ rows.take at', RowG R r := fun r hr => hG r (List.mem_of_mem_take hr)
    have hbe : ∀ r ∈ rows.drop (at' + 1), RowG R r := fun r hr => hG r (List.mem_of_mem_drop hr)
    have lah : (rows.take at').length + (rows.drop (at' + 1)).length + 1 = rows.length := by rw [List.length_take, List.length_drop]; omega
    -- row, ahead, behind
    refine q_parQ (bs := bs) (d := row) (d2 := .list (rows.take at')) (qa_cons (eq_ix (eq_var rfl T2) (ev_var rfl) g0) (qa_cons (by rw [← cut_to]; exact eq_sl lv2 (eq_var rfl T2) eo_none (eo_some (ev_var rfl))) qa_nil)) fun vr va H3 e3 dr da => ?_
    refine q_asgQ (bs := bs) (d := .list (rows.drop (at' + 1))) (by rw [← cut_from, Int.natCast_succ]; exact eq_sl (lv2.mono e3) (eq_var rfl (T2.mono (same_hid e3))) (eo_some (ev_op (ev_var rfl) ev_c rv_I0)) eo_none) fun vb H4 e4 db => ?_
    have T4 := (T2.mono (same_hid e3)).mono (same_hid e4)
    have dr4 := dr.mono (same_hid e4)
    have da4 := da.mono (same_hid e4)
    have lv4 := (lv2.mono e3).mono e4
    have B4 := (B2.mono e3).mono e4
    have k4 := (k02.ext e3).ext e4
    generalize rows.take at' = ah at hah lah da da4
    generalize rows.drop (at' + 1) = be at hbe lah db
    clear T2 T1 dr da lv1 lv2 k02 k1 k2 e3 e4 B1 B2
    have cand : ∀ mid : List PyData, (∀ r ∈ mid, RowG (2 * R + 110) r) → mid.length ≤ 2 → (ah ++ mid ++ be).length ≤ rows.length + 1 ∧ ∀ r ∈ ah ++ mid ++ be, RowG (2 * R + 110) r := fun mid h1 h2 => ⟨by rw [List.length_append, List.length_append]; omega, fun r hr => by
      rcases List.mem_append.mp hr with hr | hr
      · rcases List.mem_append.mp hr with hr | hr
        · exact (hah r hr).le (by omega)
        · exact h1 r hr
      · exact (hbe r hr).le (by omega)⟩
    have one : ∀ {x : PyData}, RowG (2 * R + 110) x → ∀ r ∈ [x], RowG (2 * R + 110) r := fun h r hr => by
      rw [List.mem_singleton.mp hr]
      exact h
    have hrow' : RowG (2 * R + 110) row := hrow.le (by omega)
    have hnil : RowG (2 * R + 110) (.list []) := rowL.mpr ⟨(fun _ z => nomatch z), by show 0 + 3 ≤ _; omega⟩
    have cand0 : (ah ++ be).length ≤ rows.length + 1 ∧ ∀ r ∈ ah ++ be, RowG (2 * R + 110) r := by
      have := cand [] (fun _ z => nomatch z) (by decide)
      rw [List.append_nil] at this
      exact this
    -- one place otherwise, or one of some
    have three : ∀ {σ : L2.St} {H : Hp}, Live bs H → σ[7]? = some (some vr) → σ[8]? = some (some va) → σ[2]? = some (some vb) → Dq (hid bs H) vr row → Dq (hid bs H) va (.list ah) → Dq (hid bs H) vb (.list be) →
        EvQ bs (tLst (tCons (tOp rCat (tVar 8) (tVar 2)) (tCons (tOp rCat (tOp rCat (tVar 8) (tLst (tCons (tVar 7) (tCons (tVar 7) tNil)))) (tVar 2)) (tCons (tOp rCat (tOp rCat (tVar 8) (tLst (tCons (tLst tNil) tNil))) (tVar 2)) tNil)))) σ H
          (.list [.list (ah ++ be), .list (ah ++ [row, row] ++ be), .list (ah ++ [.list []] ++ be)]) := fun l h7 h8 h2 d7 d8 d2 =>
      eq_lst l (qa_cons (eq_cat l (eq_var h8 d8) (eq_var h2 d2) (by omega)) (qa_cons (eq_cat l (eq_cat l (eq_var h8 d8) (eq_lst l (qa_cons (eq_var h7 d7) (qa_cons (eq_var h7 d7) qa_nil)) (by show 2 ≤ _; decide)) (by show ah.length + 2 ≤ _; omega)) (eq_var h2 d2) (by rw [List.length_append]; show ah.length + 2 + _ ≤ _; omega))
        (qa_cons (eq_cat l (eq_cat l (eq_var h8 d8) (eq_lst l (qa_cons (eq_lst l qa_nil (by decide)) qa_nil) (by show 1 ≤ _; decide)) (by show ah.length + 1 ≤ _; omega)) (eq_var h2 d2) (by rw [List.length_append]; show ah.length + 1 + _ ≤ _; omega)) qa_nil))) (by show 3 ≤ _; decide)
    have c3 : ∀ c ∈ [PyData.list (ah ++ be), .list (ah ++ [row, row] ++ be), .list (ah ++ [.list []] ++ be)], ∃ rs, c = .list rs ∧ rs.length ≤ rows.length + 1 ∧ ∀ r ∈ rs, RowG (2 * R + 110) r := fun c hc => by
      have hc' : c = .list (ah ++ be) ∨ c = .list (ah ++ [row, row] ++ be) ∨ c = .list (ah ++ [.list []] ++ be) := by simpa using hc
      rcases hc' with rfl | rfl | rfl
      · exact ⟨_, rfl, cand0⟩
      · exact ⟨_, rfl, cand [row, row] (fun r hr => by
          have e : r = row := by simpa using hr
          subst e
          exact hrow') (by show 2 ≤ 2; decide)⟩
      · exact ⟨_, rfl, cand _ (one hnil) (by show 1 ≤ 2; decide)⟩
    by_cases hl : isList row = true
    · obtain ⟨xs, rfl⟩ : ∃ xs, row = .list xs := by
        cases row with
        | list xs => exact ⟨xs, rfl⟩
        | _ => cases hl
      obtain ⟨hit, hwz⟩ := rowL.mp hrow
      have okrow : SeqAt.shaped (.list xs) = true := shaped_ok hrow.1 (Nat.le_trans hrow.2.1 (by decide))
      have hxl : xs.length ≤ 10000 := by
        have := len_wz xs
        omega
      refine q_when (b := decide (way < 4) && (true && !xs.isEmpty)) (et_and (et_test (ev_op (ev_var rfl) ev_c rv_I0)) fun _ => et_and (et_B (ev_isiQ (bs := bs) (eq_var rfl dr4) (kit_list _))) fun _ => et_is (et_test (ev_neQ (eq_var rfl dr4) (eq_lst lv4 qa_nil (by decide)) okrow (by decide +kernel))) (by rw [eqv_nil])) (fun hc H5 e5 => ?_) fun hc H5 e5 => ?_
      · have hxe : xs.isEmpty = false := by
          cases hx : xs.isEmpty with
          | false => rfl
          | true => rw [hx] at hc; simp at hc
        have hx0 : 0 < xs.length := by
          cases xs with
          | nil => cases hxe
          | cons _ _ => simp
        have B5 := B4.mono e5
        have dr5 := dr4.mono (same_hid e5)
        refine q_take rfl (ev_lenQ (bs := bs) (eq_var rfl dr5)) B5 (by omega) (by omega) (by omega) fun spot H6 a6 B6 k6 => ?_
        have lv6 := (lv4.mono e5).keep k6 B6
        have odds : ∀ {σ : L2.St}, EvQ bs (tLst (tCons (tC (.int 2)) (tCons (tUn (rU fun i => .int (-i)) (tC (.int 1))) (tCons (tC (.bl true)) (tCons (tC (.bl false)) (tCons (tC .non) (tCons (tC (.str "1")) (tCons (tC (.str "")) (tCons (tTup (tCons (tC (.int 0)) tNil)) (tCons (tLst (tCons (tC (.int 1)) tNil)) (tCons (tOp (rI CPow fun i j => .int (i ^ j.toNat)) (tC (.int 10)) (tC (.int 30))) (tCons (tC (.int 1)) (tCons (tC (.int 0)) tNil))))))))))))) σ H6 (.list oddsD) :=
          eq_lst lv6 (qa_cons (eq_int ev_c) (qa_cons (eq_int (ev_un ev_c ru_neg)) (qa_cons (eq_bl ev_c) (qa_cons (eq_bl ev_c) (qa_cons (eq_non ev_c) (qa_cons (eq_str ev_c) (qa_cons (eq_str ev_c) (qa_cons (eq_tup lv6 (qa_cons (eq_int ev_c) qa_nil) (by decide)) (qa_cons (eq_lst lv6 (qa_cons (eq_int ev_c) qa_nil) (by decide)) (qa_cons (eq_int (ev_op ev_c ev_c (rv_I ⟨by decide, by decide, by decide⟩))) (qa_cons (eq_int ev_c) (qa_cons (eq_int ev_c) qa_nil)))))))))))) (by decide)
        refine q_pick rfl hb odds ev_c B6 (by omega) (by decide) (by decide) (by decide) fun oj hoj odd H8 dodd B8 k8 => ?_
        obtain ⟨godd1, godd2⟩ := odds_ok _ (List.getElem_mem hoj)
        generalize oddsD[oj] = oddd at dodd godd1 godd2
        have up : ∀ {v : V} {d : PyData}, Dq (hid bs H4) v d → Dq (hid bs H8) v d := fun h => (keep_up hb k8).dq ((keep_up hb k6).dq (h.mono (same_hid e5)))
        have lv8 := lv6.keep k8 B8
        have dr8 := up dr4
        have da8 := up da4
        have db8 := up db
        have hlt : spot < xs.length := by omega
        refine s_retQ (bs := bs) (d := .list (ah ++ [.list (xs.take spot ++ [oddd] ++ xs.drop (spot + 1))] ++ be)) (eq_cat lv8 (eq_cat lv8 (eq_var rfl da8) (eq_lst lv8 (qa_cons (eq_cat lv8 (eq_cat lv8 (by rw [← cut_to]; exact eq_sl lv8 (eq_var rfl dr8) eo_none (eo_some (ev_var rfl))) (eq_lst lv8 (qa_cons (eq_var rfl dodd) qa_nil) (by show 1 ≤ _; decide)) (by rw [List.length_take]; show _ + 1 ≤ _; omega)) (by rw [← cut_from, Int.natCast_succ]; exact eq_sl lv8 (eq_var rfl dr8) (eo_some (ev_op (ev_var rfl) ev_c rv_I0)) eo_none) (by rw [List.length_append, List.length_take, List.length_drop]; show _ + 1 + _ ≤ _; omega)) qa_nil) (by show 1 ≤ _; decide)) (by show ah.length + 1 ≤ _; omega)) (eq_var rfl db8) (by rw [List.length_append]; show ah.length + 1 + _ ≤ _; omega)) fun v H9 e9 d9 => ?_
        obtain ⟨p9, x9, rfl, _, _⟩ := d9.list_inv
        have hnew : RowG (2 * R + 110) (.list (xs.take spot ++ [oddd] ++ xs.drop (spot + 1))) := rowL.mpr ⟨fun x hx => by
          rcases List.mem_append.mp hx with hx | hx
          · rcases List.mem_append.mp hx with hx | hx
            · exact hit x (List.mem_of_mem_take hx)
            · have e : x = oddd := by simpa using hx
              subst e
              exact godd1
          · exact hit x (List.mem_of_mem_drop hx), by
          rw [wzAll_append, wzAll_append]
          have w1 := wzAll_split spot xs
          have w2 := wzAll_drop1 xs spot
          show _ + (wz oddd + 2 + 0) + _ + 3 ≤ _
          omega⟩
        obtain ⟨c1, c2⟩ := cand _ (one hnew) (by show 1 ≤ 2; decide)
        exact q p9 _ H9 (by simp) c1 c2 d9 (((B8.mono e9)).le (by omega)) ((((k4.ext e5).trans k6).trans k8).ext e9)
      · have lv5 := lv4.mono e5
        have dr5 := dr4.mono (same_hid e5)
        refine q_asgQ (three lv5 rfl rfl rfl dr5 (da4.mono (same_hid e5)) (db.mono (same_hid e5))) fun v3 H6 e6 d3 => ?_
        have e56 := e5.trans e6
        have lv6 := lv4.mono e56
        refine q_when (b := true) (et_B (ev_isiQ (bs := bs) (eq_var rfl (dr4.mono (same_hid e56))) (kit_list _))) (fun _ H7 e7 => ?_) fun z => by cases z
        have e57 := e56.trans e7
        have lv7 := lv4.mono e57
        have dr7 := dr4.mono (same_hid e57)
        have da7 := da4.mono (same_hid e57)
        have db7 := db.mono (same_hid e57)
        refine q_asgQ (bs := bs) (d := .list ([.list (ah ++ be), .list (ah ++ [.list xs, .list xs] ++ be), .list (ah ++ [.list []] ++ be)] ++ [.list (ah ++ [.list (xs ++ xs.take 1)] ++ be), .list (ah ++ [.list (xs.drop 1)] ++ be)])) (eq_cat lv7 (eq_var rfl (d3.mono (same_hid e7))) (eq_lst lv7 (qa_cons (eq_cat lv7 (eq_cat lv7 (eq_var rfl da7) (eq_lst lv7 (qa_cons (eq_cat lv7 (eq_var rfl dr7) (by rw [← cut_to]; exact eq_sl lv7 (eq_var rfl dr7) eo_none (eo_some ev_c)) (by rw [List.length_take]; omega)) qa_nil) (by show 1 ≤ _; decide)) (by show ah.length + 1 ≤ _; omega)) (eq_var rfl db7) (by rw [List.length_append]; show ah.length + 1 + _ ≤ _; omega))
          (qa_cons (eq_cat lv7 (eq_cat lv7 (eq_var rfl da7) (eq_lst lv7 (qa_cons (by rw [← cut_from]; exact eq_sl lv7 (eq_var rfl dr7) (eo_some ev_c) eo_none) qa_nil) (by show 1 ≤ _; decide)) (by show ah.length + 1 ≤ _; omega)) (eq_var rfl db7) (by rw [List.length_append]; show ah.length + 1 + _ ≤ _; omega)) qa_nil)) (by show 2 ≤ _; decide)) (by show 3 + 2 ≤ _; decide)) fun v4 H8 e8 d4 => ?_
        have e58 := e57.trans e8
        have lv8 := lv4.mono e58
        have dr8 := dr4.mono (same_hid e58)
        have da8 := da4.mono (same_hid e58)
        have db8 := db.mono (same_hid e58)
        have T8 := T4.mono (same_hid e58)
        refine s_asgQ (bs := bs) (d := .list (([.list (ah ++ be), .list (ah ++ [.list xs, .list xs] ++ be), .list (ah ++ [.list []] ++ be)] ++ [.list (ah ++ [.list (xs ++ xs.take 1)] ++ be), .list (ah ++ [.list (xs.drop 1)] ++ be)]) ++ [.list (ah ++ [.tuple xs] ++ be), .list (List.replicate rows.length (.list (xs ++ [.int 0])))])) (eq_cat lv8 (eq_var rfl d4) (eq_lst lv8 (qa_cons (eq_cat lv8 (eq_cat lv8 (eq_var rfl da8) (eq_lst lv8 (qa_cons (eq_tupleL lv8 (eq_var rfl dr8)) qa_nil) (by show 1 ≤ _; decide)) (by show ah.length + 1 ≤ _; omega)) (eq_var rfl db8) (by rw [List.length_append]; show ah.length + 1 + _ ≤ _; omega))
          (qa_cons (by rw [← rep_one]; exact eq_rep lv8 (eq_lst lv8 (qa_cons (eq_cat lv8 (eq_var rfl dr8) (eq_lst lv8 (qa_cons (eq_int ev_c) qa_nil) (by show 1 ≤ _; decide)) (by show xs.length + 1 ≤ _; omega)) qa_nil) (by show 1 ≤ _; decide)) (ev_lenQ (bs := bs) (eq_var rfl T8)) (by omega) (by show 1 * _ ≤ _; omega)) qa_nil)) (by show 2 ≤ _; decide)) (by show 3 + 2 + 2 ≤ _; decide)) fun v5 H9 e9 d5 => ?_
        refine bent_tail (N := N) (n := N + 2) (R := R) (L := rows.length) rfl rfl (by show 4 < 11; decide) hb ((B4.mono e58).mono e9) (by omega) hN (lv8.mono e9) ((k4.ext e58).ext e9) d5 (by simp) (by show 3 + 2 + 2 ≤ 1000; decide) hR (by omega) (fun c hc => ?_) q
        rcases List.mem_append.mp hc with hc | hc
        · rcases List.mem_append.mp hc with hc | hc
          · exact c3 c hc
          · have hc' : c = .list (ah ++ [.list (xs ++ xs.take 1)] ++ be) ∨ c = .list (ah ++ [.list (xs.drop 1)] ++ be) := by simpa using hc
            rcases hc' with rfl | rfl
            · refine ⟨_, rfl, cand _ (one (rowL.mpr ⟨fun x hx => ?_, ?_⟩)) (by show 1 ≤ 2; decide)⟩
              · rcases List.mem_append.mp hx with hx | hx
                · exact hit x hx
                · exact hit x (List.mem_of_mem_take hx)
              · rw [wzAll_append]
                have := wzAll_split 1 xs
                omega
            · refine ⟨_, rfl, cand _ (one (rowL.mpr ⟨fun x hx => hit x (List.mem_of_mem_drop hx), ?_⟩)) (by show 1 ≤ 2; decide)⟩
              have := wzAll_split 1 xs
              omega
        · have hc' : c = .list (ah ++ [.tuple xs] ++ be) ∨ c = .list (List.replicate rows.length (.list (xs ++ [.int 0]))) := by simpa using hc
          rcases hc' with rfl | rfl
          · exact ⟨_, rfl, cand _ (one (rowT hrow')) (by show 1 ≤ 2; decide)⟩
          · refine ⟨_, rfl, by rw [List.length_replicate]; omega, fun r hr => ?_⟩
            rw [List.eq_of_mem_replicate hr]
            refine rowL.mpr ⟨fun x hx => ?_, ?_⟩
            · rcases List.mem_append.mp hx with hx | hx
              · exact hit x hx
              · rw [List.mem_singleton.mp hx]
                exact ⟨rfl, Nat.zero_le _⟩
            · rw [wzAll_append]
              show _ + (2 + 2 + 0) + 3 ≤ _
              omega
    · have hl' : isList row = false := by simpa using hl
      refine q_when (b := decide (way < 4) && (false && false)) (et_and (et_test (ev_op (ev_var rfl) ev_c rv_I0)) fun _ => et_and (et_is (et_B (ev_isiQ (bs := bs) (eq_var rfl dr4) (kit_list _))) hl') fun z => by cases z) (fun hc => by simp at hc) fun _ H5 e5 => ?_
      have lv5 := lv4.mono e5
      refine q_asgQ (three lv5 rfl rfl rfl (dr4.mono (same_hid e5)) (da4.mono (same_hid e5)) (db.mono (same_hid e5))) fun v3 H6 e6 d3 => ?_
      have e56 := e5.trans e6
      refine q_when (b := false) (et_is (et_B (ev_isiQ (bs := bs) (eq_var rfl (dr4.mono (same_hid e56))) (kit_list _))) hl') (fun z => by cases z) fun _ H7 e7 => ?_
      exact bent_tail (N := N) (n := N + 2) (R := R) (L := rows.length) rfl rfl (by show 4 < 11; decide) hb ((B4.mono e56).mono e7) (by omega) hN ((lv4.mono e56).mono e7) ((k4.ext e56).ext e7) (d3.mono (same_hid e7)) (by simp) (by show 3 ≤ 1000; decide) hR (by omega) c3 q
end
end K01

set_option Elab.async false
set_option linter.all false
set_option maxRecDepth 100000
set_option maxHeartbeats 1000000
namespace K01
open PySem PySem.Spec PyProof.Rows L2 Evl Cg
abbrev st_law_right : Stmt := topS 18
theorem sc_law_right : FnScope ["_law_box_here", "_law_table_here", "_law_things", "_law_turn", "_law_thing", "_law_n", "_law_m", "_law_other", "_law_kept", "_law_found", "_law_row"] ["_law_box_here"] (defScope st_law_right) := ⟨rfl, rfl, rfl, by decide +kernel, rfl, by decide +kernel, by decide +kernel⟩
def ThG (d : PyData) : Prop := okD d = true ∧ d.depth ≤ 10 ∧ wz d ≤ 80000
theorem thRows {R : Nat} {rows : List PyData} (h : ∀ r ∈ rows, RowG R r) (hR : R ≤ 600) (hl : rows.length ≤ 20) : ThG (.list rows) := by
  refine ⟨okAll_iff.mpr fun r hr => (h r hr).1, ?_, ?_⟩
  · have : PyData.depthAll rows ≤ 2 := depthAll_iff.mpr fun r hr => (h r hr).2.1
    show PyData.depthAll rows + 1 ≤ 10
    omega
  · have h1 := wzAll_le fun r hr => (h r hr).2.2
    have h2 : (R + 2) * rows.length ≤ 602 * 20 := Nat.mul_le_mul (by omega) hl
    show wzAll rows + 3 ≤ 80000
    omega
theorem tbl_rows {n m : Nat} {d : PyData} (h : TblD n m d) (hm : m ≤ 12) : ∃ rows, d = .list rows ∧ rows.length = n ∧ ∀ r ∈ rows, RowG 51 r ∧ isRow m r = true ∧ ∃ xs, r = .list xs ∧ xs.length = m := by
  obtain ⟨rows, rfl, hn, hr⟩ := h
  refine ⟨rows, rfl, hn, fun r h => ?_⟩
  obtain ⟨xs, rfl, hm', hx⟩ := hr r h
  have bit : ∀ x ∈ xs, okD x = true ∧ x.depth ≤ 0 ∧ wz x ≤ 2 ∧ isMark x = true := fun x h => by
    rcases hx x h with rfl | rfl
    · exact ⟨rfl, Nat.le_refl _, Nat.le_refl _, rfl⟩
    · exact ⟨rfl, Nat.le_refl _, Nat.le_refl _, rfl⟩
  refine ⟨rowL.mpr ⟨fun x h => ⟨(bit x h).1, Nat.le_trans (bit x h).2.1 (by decide)⟩, ?_⟩, ?_, xs, rfl, hm'⟩
  · have h1 := wzAll_le fun x h => (bit x h).2.2.1
    rw [hm'] at h1
    omega
  · show (decide ((xs.length : Int) = (m : Int)) && xs.all isMark) = true
    rw [hm', decide_eq_true rfl, Bool.true_and]
    exact List.all_eq_true.mpr fun x h => (bit x h).2.2.2
theorem tbl_is {n m : Nat} {d : PyData} (h : TblD n m d) (h1 : 1 ≤ n) (h2 : n ≤ 12) (h3 : 1 ≤ m) (h4 : m ≤ 12) : isTable d = true := by
  obtain ⟨rows, rfl, hn, hr⟩ := tbl_rows h h4
  cases rows with
  | nil => simp at hn; omega
  | cons x r =>
    obtain ⟨_, _, xs, rfl, hx⟩ := hr x (List.mem_cons_self ..)
    have e : (PyData.list xs :: r).all (isRow xs.length) = true := List.all_eq_true.mpr fun y hy => by rw [hx]; exact (hr y hy).2.1
    show (isSize ((r.length : Int) + 1) && isSize xs.length && (PyData.list xs :: r).all (isRow xs.length)) = true
    rw [e, Bool.and_true]
    have hn' : r.length + 1 = n := by simpa using hn
    unfold isSize
    rw [decide_eq_true (show (1 : Int) ≤ (r.length : Int) + 1 by omega), decide_eq_true (show (r.length : Int) + 1 ≤ 12 by omega), decide_eq_true (show (1 : Int) ≤ (xs.length : Int) by omega), decide_eq_true (show (xs.length : Int) ≤ 12 by omega)] <;> rfl
def tupOf : PyData → PyData
  | .list xs => .tuple xs
  | d => d
def things1 (rows : List PyData) : List PyData := [.list rows, .tuple rows, .list (rows.map tupOf), .list [], .list [.list []], .list [.list [.int 0]], .list [.list [.int 1]], .none, .int 1, .str "", .str "01"]
def things2 : List PyData := [.list [.int 0], .tuple [.tuple [.int 1]]]
def zs (n : Nat) : PyData := .list (List.replicate n (.int 0))
def things3 : List PyData := [.list (List.replicate 12 (zs 12)), .list (List.replicate 13 (zs 12)), .list (List.replicate 12 (zs 13)), .list (List.replicate 12 (.list [.int 1])), .list (List.replicate 13 (.list [.int 1])), .list [.list (List.replicate 12 (.int 1))], .bool true]
theorem things_ok {rows : List PyData} (h : ∀ r ∈ rows, RowG 51 r) (hl : rows.length ≤ 12) (ht : ∀ r ∈ rows, ∃ xs, r = .list xs) : ∀ d ∈ things1 rows ++ things2 ++ things3, ThG d := by
  have h0 : ThG (.list rows) := thRows h (by decide) (by omega)
  have h1 : ThG (.list (rows.map tupOf)) := thRows (R := 51) (fun r hr => by
    obtain ⟨y, hy, rfl⟩ := List.mem_map.mp hr
    obtain ⟨xs, rfl⟩ := ht y hy
    exact rowT (h _ hy)) (by decide) (by rw [List.length_map]; omega)
  have hs : (([.list [], .list [.list []], .list [.list [.int 0]], .list [.list [.int 1]], .none, .int 1, .str "", .str "01"] ++ things2 ++ things3 : List PyData).all fun d => okD d && decide (d.depth ≤ 10) && decide (wz d ≤ 80000)) = true := by decide +kernel
  intro d hd
  have hd' : d = .list rows ∨ d = .tuple rows ∨ d = .list (rows.map tupOf) ∨ d ∈ ([.list [], .list [.list []], .list [.list [.int 0]], .list [.list [.int 1]], .none, .int 1, .str "", .str "01"] ++ things2 ++ things3 : List PyData) := by
    have e : things1 rows ++ things2 ++ things3 = .list rows :: .tuple rows :: .list (rows.map tupOf) :: ([.list [], .list [.list []], .list [.list [.int 0]], .list [.list [.int 1]], .none, .int 1, .str "", .str "01"] ++ things2 ++ things3) := rfl
    rw [e] at hd
    rcases List.mem_cons.mp hd with z | hd
    · exact .inl z
    · rcases List.mem_cons.mp hd with z | hd
      · exact .inr (.inl z)
      · rcases List.mem_cons.mp hd with z | hd
        · exact .inr (.inr (.inl z))
        · exact .inr (.inr (.inr hd))
  rcases hd' with rfl | rfl | rfl | hd
  · exact h0
  · exact h0
  · exact h1
  · have h2 := List.all_eq_true.mp hs d hd
    rw [Bool.and_eq_true, Bool.and_eq_true] at h2
    exact ⟨h2.1.1, of_decide_eq_true h2.1.2, of_decide_eq_true h2.2⟩
section
variable {P : Program} {w : World} {K : PySem.W.Frag} {mg : Str → Option Value} {base : Heap} {f f1 f2 f3 f4 f5 f6 : Addr} {fd fd1 fd2 fd3 fd4 fd5 fd6 : FuncData}
def spRight : Sp := fun vs H Q _ => ∃ b : Addr, vs = [.ref b] ∧ Box H b 0 ∧ ∀ H' : Hp, Keep [b] H H' → Q (.bl true) H'
theorem ok_law_right (F : Fun K "_law_right" "_law_right" st_law_right f fd) (B : Bl mg) (d_law_take : Df P w K mg base 1 "_law_take" st_law_take ["_law_box_here", "_law_size"] f1 fd1 spTake) (d_law_sizes : Df P w K mg base 2 "_law_sizes" st_law_sizes ["_law_box_here", "_law_most"] f2 fd2 spSizes)
    (d_law_table : Df P w K mg base 2 "_law_table" st_law_table ["_law_box_here", "_law_n", "_law_m"] f3 fd3 spTable) (d_law_bent : Df P w K mg base 2 "_law_bent" st_law_bent ["_law_box_here", "_law_table_here"] f4 fd4 spBent) (d_is_table : Df P w K mg base 5 "is_table" st_is_table ["thing"] f5 fd5 (spS isTable))
    (d_law_is_table : Df P w K mg base 2 "_law_is_table" st_law_is_table ["_law_thing"] f6 fd6 (spS isTable)) : FnG P w K mg base 6 f fd ["_law_box_here"] spRight := by
  refine fnG F sc_law_right (fun vs H Q E h => ?_) (fun cv A outer s H vs Q E hg hr h => ?_)
  · obtain ⟨b, rfl, _⟩ := h
    rfl
  · obtain ⟨b, rfl, hB, q⟩ := h
    refine ⟨_, (pss_cons (ps_asg (pe_call d_law_sizes.G (hr.mono (by omega)) (by rfl) d_law_sizes.g d_law_sizes.F.kp d_law_sizes.b .nil pass0 (pa_cons (pv 0) (pa_cons pe_int pa_nil))) (pg_tupK K (n := 2) rfl (pgs_cons (pg_name (i := 5) sc_law_right.nd rfl (.inl rfl)) (pgs_cons (pg_name (i := 6) sc_law_right.nd rfl (.inl rfl)) pgs_nil))))
 (pss_cons (ps_set (i := 1) sc_law_right.nd rfl (.inl rfl) (pe_call d_law_table.G (hr.mono (by omega)) (by rfl) d_law_table.g d_law_table.F.kp d_law_table.b .nil pass0 (pa_cons (pv 0) (pa_cons (pv 5) (pa_cons (pv 6) pa_nil)))))
 (pss_cons (ps_set (i := 2) sc_law_right.nd rfl (.inl rfl) (pe_lst (pa_cons (pv 1) (pa_cons (pe_callTy (tupK K) (by rfl) B.tuple (by decide +kernel) (pa_cons (pv 1) pa_nil)) (pa_cons (pe_lc (own := [("_law_row", 10)]) rfl sc_law_right.nd (pi_listK K (pv 1)) (blkOk_by (own := [("_law_row", 10)]) (by kernel_rfl)) (fun _ _ _ _ _ => (pg_name (i := 10) sc_law_right.nd rfl (.inl rfl))) (fun _ _ _ _ _ => pts_nil) (fun _ _ _ _ _ => (pe_callTy (tupK K) (by rfl) B.tuple (by decide +kernel) (pa_cons (pv 10) pa_nil)))) (pa_cons (pe_lst pa_nil) (pa_cons (pe_lst (pa_cons (pe_lst pa_nil) pa_nil)) (pa_cons (pe_lst (pa_cons (pe_lst (pa_cons pe_int pa_nil)) pa_nil)) (pa_cons (pe_lst (pa_cons (pe_lst (pa_cons pe_int pa_nil)) pa_nil)) (pa_cons pe_non (pa_cons pe_int (pa_cons pe_str (pa_cons pe_str pa_nil)))))))))))))
 (pss_cons (ps_set (i := 2) sc_law_right.nd rfl (.inl rfl) (pe_op op_cat (pv 2) (pe_lst (pa_cons (pe_lst (pa_cons pe_int pa_nil)) (pa_cons (pe_tup (pa_cons (pe_tup (pa_cons pe_int pa_nil)) pa_nil)) pa_nil)))))
 (pss_cons (ps_set (i := 2) sc_law_right.nd rfl (.inl rfl) (pe_op op_cat (pv 2) (pe_lst (pa_cons (pe_op op_rep (pe_lst (pa_cons (pe_op op_rep (pe_lst (pa_cons pe_int pa_nil)) pe_int) pa_nil)) pe_int) (pa_cons (pe_op op_rep (pe_lst (pa_cons (pe_op op_rep (pe_lst (pa_cons pe_int pa_nil)) pe_int) pa_nil)) pe_int) (pa_cons (pe_op op_rep (pe_lst (pa_cons (pe_op op_rep (pe_lst (pa_cons pe_int pa_nil)) pe_int) pa_nil)) pe_int) (pa_cons (pe_op op_rep (pe_lst (pa_cons (pe_lst (pa_cons pe_int pa_nil)) pa_nil)) pe_int) (pa_cons (pe_op op_rep (pe_lst (pa_cons (pe_lst (pa_cons pe_int pa_nil)) pa_nil)) pe_int) (pa_cons (pe_lst (pa_cons (pe_op op_rep (pe_lst (pa_cons pe_int pa_nil)) pe_int) pa_nil)) (pa_cons pe_bl pa_nil))))))))))
 (pss_cons (ps_for PassesOwn.never rfl (pi_range1 (by rfl) B.range (pa_cons pe_int pa_nil)) (pg_name (i := 3) sc_law_right.nd rfl (.inl rfl))
 (pss_cons (ps_set (i := 7) sc_law_right.nd rfl (.inl rfl) (pe_call d_law_bent.G (hr.mono (by omega)) (by rfl) d_law_bent.g d_law_bent.F.kp d_law_bent.b .nil pass0 (pa_cons (pv 0) (pa_cons (pv 1) pa_nil))))
 (pss_one (ps_expr (pe_bm PySem.F.plainAttrs_list PySem.F.slot_list_append PySem.F.type_list_append mt_append (pv 2) (pa_cons (pe_ifExp (pt_cmpR op_eq (pe_call d_law_take.G (hr.mono (by omega)) (by rfl) d_law_take.g d_law_take.F.kp d_law_take.b .nil pass0 (pa_cons (pv 0) (pa_cons pe_int pa_nil))) pe_int (nomark _)) (pe_call d_law_bent.G (hr.mono (by omega)) (by rfl) d_law_bent.g d_law_bent.F.kp d_law_bent.b .nil pass0 (pa_cons (pv 0) (pa_cons (pv 7) pa_nil))) (pv 7)) pa_nil))))))
 (pss_cons (ps_for PassesOwn.never rfl (pi_listK K (pv 2)) (pg_name (i := 4) sc_law_right.nd rfl (.inl rfl))
 (pss_cons (ps_par (i := 8) (j := 9) (by rfl) sc_law_right.nd rfl rfl (by decide) rfl rfl (pa_cons (pe_callB (reprK K hg hr.units) (by rfl) B.repr (by decide +kernel) (pa_cons (pv 4) pa_nil)) (pa_cons (pe_call d_is_table.G (hr.mono (by omega)) (by rfl) d_is_table.g d_is_table.F.kp d_is_table.b .nil pass0 (pa_cons (pv 4) pa_nil)) pa_nil)) (by rfl))
 (pss_one (ps_if (PW.pt (pw_or (pt_not (pt_val (pe_callB (isiK K) (by rfl) B.isinstance (by decide +kernel) (pa_cons (pv 9) (pa_cons (pe_bltn (v := .ty "bool") (by rfl) B.bool (by decide +kernel) rfl) pa_nil))))) (pw_or (pt_cmpR op_ne (pv 9) (pe_call d_law_is_table.G (hr.mono (by omega)) (by rfl) d_law_is_table.g d_law_is_table.F.kp d_law_is_table.b .nil pass0 (pa_cons (pv 4) pa_nil)) (nomark _)) (pw_or1 (pt_cmpR op_ne (pe_callB (reprK K hg hr.units) (by rfl) B.repr (by decide +kernel) (pa_cons (pv 4) pa_nil)) (pv 8) (nomark _))))))
 (pss_one (ps_ret pe_bl))
 pss_nil))))
 (pss_one (ps_ret (pe_call d_is_table.G (hr.mono (by omega)) (by rfl) d_is_table.g d_is_table.F.kp d_is_table.b .nil pass0 (pa_cons (pv 1) pa_nil))))))))))), ?_⟩
    -- sizes
    refine ⟨.ref b, rfl, b, 12, 0, rfl, hB, by decide, by decide, by decide, fun t n m H1 n1 n2 m1 m2 nt ht B1 k1 => ?_⟩
    refine ⟨t, _, rfl, SqT.of ht, rfl, _, _, rfl, _, _, rfl, rfl, ?_⟩
    -- the table
    refine ⟨.ref b, rfl, .int n, rfl, .int m, rfl, b, n, m, 5, [b], rfl, B1, by decide, by omega, by omega, List.mem_singleton.mpr rfl, (fun x hx => by rw [List.mem_singleton.mp hx]; exact B1.is), fun T d H2 hd nT dT B2 k2 => ?_⟩
    have hmn : m * n ≤ 12 * 12 := Nat.mul_le_mul m2 n2
    have B2 : Box H2 b 200 := B2.le (by omega)
    have k02 := k1.trans k2
    have htrue := tbl_is hd n1 n2 m1 m2
    obtain ⟨rows, rfl, hrl, hrows⟩ := tbl_rows hd m2
    have hne : rows ≠ [] := fun z => by rw [z] at hrl; simp at hrl; omega
    have lv2 : Live [b] H2 := fun x hx => by rw [List.mem_singleton.mp hx]; exact B2.is
    -- the things
    have ones : ∀ {σ : L2.St} {H : Hp} {i : Int}, Live [b] H → EvQ [b] (tLst (tCons (tC (.int i)) tNil)) σ H (.list [.int i]) := fun l => eq_lst l (qa_cons (eq_int ev_c) qa_nil) (by show 1 ≤ _; decide)
    have one1 : ∀ {σ : L2.St} {H : Hp} {i : Int}, Live [b] H → EvQ [b] (tLst (tCons (tLst (tCons (tC (.int i)) tNil)) tNil)) σ H (.list [.list [.int i]]) := fun l => eq_lst l (qa_cons (ones l) qa_nil) (by show 1 ≤ _; decide)
    have many : ∀ {σ : L2.St} {H : Hp} {ta : TE} {d : PyData} (n : Nat), Live [b] H → n ≤ 1000 → EvQ [b] ta σ H d → EvQ [b] (tOp rRep (tLst (tCons ta tNil)) (tC (.int (n : Int)))) σ H (.list (List.replicate n d)) := fun n l hn h => by
      rw [← rep_one]
      exact eq_rep l (eq_lst l (qa_cons h qa_nil) (by show 1 ≤ _; decide)) ev_c (by omega) (by show 1 * n ≤ _; omega)
    refine q_asgQ (bs := [b]) (d := .list (things1 rows)) (eq_lst lv2 (qa_cons (eq_var rfl dT) (qa_cons (eq_tupleL lv2 (eq_var rfl dT)) (qa_cons (eq_lc tupOf lv2 (eq_var rfl dT) (by omega) (fun _ => rfl) fun cs x d H3 e3 hc l3 hm hx => ?_)
      (qa_cons (eq_lst lv2 qa_nil (Nat.zero_le _)) (qa_cons (eq_lst lv2 (qa_cons (eq_lst lv2 qa_nil (Nat.zero_le _)) qa_nil) (by show 1 ≤ _; decide)) (qa_cons (one1 lv2) (qa_cons (one1 lv2) (qa_cons (eq_non ev_c) (qa_cons (eq_int ev_c) (qa_cons (eq_str ev_c) (qa_cons (eq_str ev_c) qa_nil))))))))))) (by show 11 ≤ _; decide)) fun v1 H3 e3 d1 => ?_
    · obtain ⟨_, _, xs, rfl, _⟩ := hrows d hm
      exact eq_tupleL l3 (eq_var rfl hx)
    have lv3 := lv2.mono e3
    refine q_asgQ (bs := [b]) (d := .list (things1 rows ++ things2)) (eq_cat lv3 (eq_var rfl d1) (eq_lst lv3 (qa_cons (ones lv3) (qa_cons (eq_tup lv3 (qa_cons (eq_tup lv3 (qa_cons (eq_int ev_c) qa_nil) (by show 1 ≤ _; decide)) qa_nil) (by show 1 ≤ _; decide)) qa_nil)) (by show 2 ≤ _; decide)) (by show 11 + 2 ≤ _; decide)) fun v2 H4 e4 d2 => ?_
    have lv4 := lv3.mono e4
    refine q_asgN (bs := [b]) (ds := things1 rows ++ things2 ++ things3) (en_cat (eq_var rfl d2) (eq_lst lv4 (qa_cons (many 12 lv4 (by decide) (many 12 lv4 (by decide) (eq_int ev_c))) (qa_cons (many 13 lv4 (by decide) (many 12 lv4 (by decide) (eq_int ev_c))) (qa_cons (many 12 lv4 (by decide) (many 13 lv4 (by decide) (eq_int ev_c))) (qa_cons (many 12 lv4 (by decide) (ones lv4)) (qa_cons (many 13 lv4 (by decide) (ones lv4)) (qa_cons (eq_lst lv4 (qa_cons (many 12 lv4 (by decide) (eq_int ev_c)) qa_nil) (by show 1 ≤ _; decide)) (qa_cons (eq_bl ev_c) qa_nil))))))) (by show 7 ≤ _; decide)) (by show 11 + 2 + 7 ≤ _; decide)) fun L xs0 H5 nL e5 hL0 dL0 => ?_
    have e25 := (e3.trans e4).trans e5
    have nL2 : H2 L = none := fresh_back (e3.trans e4) nL
    have B5 := B2.mono e25
    have k5 : Keep [b] H H5 := k02.ext e25
    have nLH : H L = none := k02.free B2 nL2
    have hLb : L ≠ b := B2.ne nL2
    have dT5 : Dq (hid [L, b] H5) (.ref T) (.list rows) := by
      have h1 : Same (hid [b] H2) (hid [L, b] H5) := fun a o q => by
        obtain ⟨q1, q2⟩ := hid_some q
        have hne : a ≠ L := ne_of_none q2 nL2
        rw [hid_out (fun z => (List.mem_cons.mp z).elim hne q1)]
        exact e25 _ _ q2
      exact dT.mono h1
    have hth := things_ok (fun r hr => (hrows r hr).1) (by omega) (fun r hr => let ⟨_, _, xs, e, _⟩ := hrows r hr; ⟨xs, e⟩)
    have hlen0 : (things1 rows ++ things2 ++ things3).length = 20 := rfl
    generalize things1 rows ++ things2 ++ things3 = ds0 at dL0 hth hlen0
    have keepL : ∀ {H H' : Hp}, Keep [b] H H' → Keep [L, b] H H' := fun k => k.more fun x hx => List.mem_cons_of_mem _ hx
    -- ten bent ones
    refine q_forR1 (ea_cons ev_c ea_nil) ⟨by decide, by decide⟩ (fun i σ H' => ∃ (y3 y7 : Option V) (xs : List V) (ds : List PyData), σ = [some (.ref b), some (.ref T), some (.ref L), y3, none, some (.int (n : Int)), some (.int (m : Int)), y7, none, none, none] ∧ H' L = some (.lst xs) ∧ DqAll (hid [L, b] H') xs ds ∧ (∀ d ∈ ds, ThG d) ∧ ds.length = 20 + i ∧ Box H' b (200 + 10 * i) ∧ Keep [b] H H' ∧ Dq (hid [L, b] H') (.ref T) (.list rows))
      (fun H6 e6 => ⟨none, none, xs0, ds0, rfl, e6 _ _ hL0, dL0.mono (same_hid e6), hth, hlen0, B5.mono e6, k5.ext e6, dT5.mono (same_hid e6)⟩) (fun i σ' H' hi hP => ?_) (fun σ' H' hP => ?_)
    · obtain ⟨y3, y7, xs, ds, rfl, hL, dL, hds, hlen, hB', k', dT'⟩ := hP
      have lv' : Live [L, b] H' := fun x hx => by
        rcases List.mem_cons.mp hx with rfl | hx
        · rw [hL]; exact fun z => nomatch z
        · rw [List.mem_singleton.mp hx]; exact hB'.is
      have add : ∀ (Tn : Addr) (rn : List PyData) (H8 : Hp) (y y' : Option V), ThG (.list rn) → Dq (hid [L, b] H8) (.ref Tn) (.list rn) → Box H8 b (200 + 10 * (i + 1)) → Keep [b] H' H8 →
          ∃ l xs' v, V.ref L = .ref l ∧ [V.ref Tn] = [v] ∧ H8 l = some (.lst xs') ∧ xs'.length < sizeLine ∧ ∃ (y3 y7 : Option V) (xs : List V) (ds : List PyData), [some (.ref b), some (.ref T), some (.ref L), y, none, some (.int (n : Int)), some (.int (m : Int)), y', none, none, none] = [some (.ref b), some (.ref T), some (.ref L), y3, none, some (.int (n : Int)), some (.int (m : Int)), y7, none, none, none] ∧
            (upd H8 l (.lst (xs' ++ [v]))) L = some (.lst xs) ∧ DqAll (hid [L, b] (upd H8 l (.lst (xs' ++ [v])))) xs ds ∧ (∀ d ∈ ds, ThG d) ∧ ds.length = 20 + (i + 1) ∧ Box (upd H8 l (.lst (xs' ++ [v]))) b (200 + 10 * (i + 1)) ∧ Keep [b] H (upd H8 l (.lst (xs' ++ [v]))) ∧ Dq (hid [L, b] (upd H8 l (.lst (xs' ++ [v])))) (.ref T) (.list rows) := fun Tn rn H8 y y' hg' hd' hB8 k8 => by
        have hL8 : H8 L = some (.lst xs) := k8.get (by simpa using hLb) hL
        have kp : Keep [L, b] H8 (upd H8 L (.lst (xs ++ [.ref Tn]))) := (Keep.refl _ _).put (List.mem_cons_self ..)
        refine ⟨L, xs, .ref Tn, rfl, rfl, hL8, ?_, y, y', xs ++ [.ref Tn], ds ++ [.list rn], rfl, upd_same, ((keepL k8).dqAll dL |>.mono kp).append (.cons (hd'.mono kp) .nil), ?_, ?_, hB8.put hLb, (k'.trans k8).putNew nLH, ((keepL k8).dq dT').mono kp⟩
        · rw [dL.len, hlen]
          exact Nat.lt_of_le_of_lt (show 20 + i ≤ 1000 by omega) (by decide)
        · intro d hd
          rcases List.mem_append.mp hd with hd | hd
          · exact hds d hd
          · rw [List.mem_singleton.mp hd]; exact hg'
        · rw [List.length_append, hlen]; rfl
      refine ⟨.ref b, rfl, .ref T, rfl, b, T, 200 + 10 * i, 51, [L, b], rows, rfl, hB', by omega, List.mem_cons_of_mem _ (List.mem_cons_self ..), lv', dT', hne, by omega, by decide, by decide, (fun r hr => (hrows r hr).1), fun T1 rows1 H6 ne1 len1 g1 d1 B6 k6 => ?_⟩
      have hL6 : H6 L = some (.lst xs) := k6.get (by simpa using hLb) hL
      refine ⟨.ref L, rfl, .inl ⟨rfl, _, SqL.of hL6⟩, ?_⟩
      refine r_take rfl ev_c B6 (by omega) (by decide) (by decide) fun x H7 a1 a2 B7 k7 => ⟨rfl, _, rfl, ite2 (fun _ => ?_) (fun _ => ?_)⟩
      · have lv7 : Live [L, b] H7 := (lv'.keep k6 B6).keep k7 B7
        refine ⟨.ref b, rfl, .ref T1, rfl, b, T1, 200 + 10 * i + 4 + 1, 212, [L, b], rows1, rfl, B7, by omega, List.mem_cons_of_mem _ (List.mem_cons_self ..), lv7, (keepL k7).dq d1, ne1, by omega, by decide, by decide, g1, fun T2 rows2 H8 ne2 len2 g2 d2 B8 k8 => ?_⟩
        exact add T2 rows2 H8 _ _ (thRows g2 (by decide) (by omega)) d2 (B8.le (by omega)) ((k6.trans k7).trans k8)
      · exact ⟨.ref T1, rfl, add T1 rows1 H7 _ _ (thRows g1 (by decide) (by omega)) ((keepL k7).dq d1) (B7.le (by omega)) (k6.trans k7)⟩
    · obtain ⟨y3, y7, xs, ds, rfl, hL, dL, hds, hlen, hB', k', dT'⟩ := hP
      refine q_forLn (ev_var rfl) (SqL.of hL) (fun i σ H2 => ∃ y4 y8 y9 : Option V, σ = [some (.ref b), some (.ref T), some (.ref L), y3, y4, some (.int (n : Int)), some (.int (m : Int)), y7, y8, y9, none] ∧ Same H' H2) (fun H1 e1 => ⟨none, none, none, rfl, e1⟩) (fun i σ' H2 _ hP => ?_) (fun i x σ' H2 hx hP => ?_) (fun σ' H2 hP => ?_)
      · obtain ⟨_, _, _, _, e⟩ := hP
        exact SqL.of (e _ _ hL)
      · obtain ⟨y4, y8, y9, rfl, e⟩ := hP
        obtain ⟨d, gd, dx⟩ := dL.get hx
        obtain ⟨o1, o2, o3⟩ := hds d (List.mem_of_getElem? gd)
        have dx2 := dx.mono (same_hid (bs := [L, b]) e)
        have rep : ∀ {σ : L2.St} {H : Hp}, σ[4]? = some (some x) → Dq (hid [L, b] H) x d → Ev (tCB (rReprD K) (tCons (tVar 4) tNil)) σ H (.str d.shown) := fun hs h => ev_reprQ (eq_var hs h) o1 (by omega) (by omega)
        have ist : ∀ {σ : L2.St} {H : Hp}, σ[4]? = some (some x) → Dq (hid [L, b] H) x d → Ev (tCall (spS isTable) [] E0 (tCons (tVar 4) tNil)) σ H (.bl (isTable d)) := fun hs h => ev_call (ea_cons (ev_var hs) ea_nil) fun H1 e1 Q q E => ⟨x, d, rfl, dq_vis (h.mono (same_hid e1)), o3, q⟩
        refine q_parQ (bs := [L, b]) (d := .str d.shown) (d2 := .bool (isTable d)) (qa_cons (eq_str (rep rfl dx2)) (qa_cons (eq_bl (ist rfl dx2)) qa_nil)) fun v u H3 e3 dv du => ?_
        cases dv
        cases du
        have dx3 := dx2.mono (same_hid e3)
        refine s_when (b := false) (et_is (et_or (a := false) (et_is (et_not (et_B (ev_isiQ (bs := [L, b]) (eq_var rfl (.bl _)) (kit_bool _)))) rfl) fun _ => et_or (a := false) (et_is (et_test (ev_op (ev_var rfl) (ist rfl dx3) (rv_ne rfl))) (by rw [decide_eq_true rfl]; rfl)) fun _ => et_test (ev_op (rep rfl dx3) (ev_var rfl) (rv_ne rfl))) (by rw [decide_eq_true rfl]; rfl)) (fun z => by cases z) fun _ H4 e4 => ?_
        exact ⟨_, _, _, rfl, (e.trans e3).trans e4⟩
      · obtain ⟨y4, y8, y9, rfl, e⟩ := hP
        refine s_ret (v := .bl true) (ev_is (ev_call (ea_cons (ev_var rfl) ea_nil) fun H1 e1 Q q E => ⟨_, .list rows, rfl, dq_vis ((dT'.mono (same_hid e)).mono (same_hid e1)), ?_, q⟩) (by rw [htrue])) fun H3 e3 => q H3 ((k'.ext e).ext e3)
        exact (thRows (fun r hr => (hrows r hr).1) (by decide) (by omega)).2.2
end
end K01

set_option Elab.async false
set_option linter.all false
set_option maxRecDepth 100000
set_option maxHeartbeats 1000000
namespace K01
open PySem PySem.Spec PyProof.Rows L2 Evl Cg
abbrev st_law : Stmt := topS 19
theorem sc_law : FnScope ["_law_script", "_law_cells", "_law_k"] ["_law_script"] (defScope st_law) := ⟨rfl, rfl, rfl, by decide +kernel, rfl, by decide +kernel, by decide +kernel⟩
section
variable {P : Program} {w : World} {K : PySem.W.Frag} {mg : Str → Option Value} {base : Heap} {f f1 f2 f3 f4 f5 f6 : Addr} {fd fd1 fd2 fd3 fd4 fd5 fd6 : FuncData}
def spLaw (K : PySem.W.Frag) : Sp := fun vs H Q _ => ∃ (a : Addr) (ns : List Int), vs = [.ref a] ∧ SqL K H a (ns.map V.int) ∧ ns.length ≤ 63 ∧ ∀ H', Q (.bl true) H'
theorem ok_law (F : Fun K "law" "law" st_law f fd) (B : Bl mg) (d_law_folded : Df P w K mg base 1 "_law_folded" st_law_folded ["_law_script", "_law_size"] f1 fd1 (spFold K)) (d_law_box : Df P w K mg base 1 "_law_box" st_law_box ["_law_script", "_law_k"] f2 fd2 (spBox K))
    (d_law_right : DfG P w K mg base 6 "_law_right" st_law_right ["_law_box_here"] f3 fd3 spRight) : FnG P w K mg base 7 f fd ["_law_script"] (spLaw K) := by
  refine fnG F sc_law (fun vs H Q E h => ?_) (fun cv A outer s H vs Q E hg hr h => ?_)
  · obtain ⟨a, ns, rfl, _⟩ := h
    rfl
  · obtain ⟨a, ns, rfl, hS, hl, q⟩ := h
    refine ⟨_, (pss_cons (ps_set (i := 1) sc_law.nd rfl (.inr rfl) (pe_call d_law_folded.G (hr.mono (by omega)) (by rfl) d_law_folded.g d_law_folded.F.kp d_law_folded.b .nil pass0 (pa_cons (pv 0) (pa_cons pe_int pa_nil))))
 (pss_one (ps_ret (pe_callB (allK K) (by rfl) B.all (by decide +kernel) (pa_cons (pe_lc (own := [("_law_k", 2)]) rfl sc_law.nd (pi_range1 (by rfl) B.range (pa_cons (pe_callB (call_max2 rfl) (by rfl) B.max (by decide +kernel) (pa_cons pe_int (pa_cons (pe_callB (lenK K) (by rfl) B.len (by decide +kernel) (pa_cons (pv 1) pa_nil)) pa_nil))) pa_nil)) (blkOk_by (own := [("_law_k", 2)]) (by kernel_rfl)) (fun _ _ _ _ _ => (pg_name (i := 2) sc_law.nd rfl (.inl rfl))) (fun _ _ _ _ _ => pts_nil) (fun _ _ _ _ _ => (pe_callG d_law_right.G hg (hr.mono (by omega)) (by rfl) d_law_right.g d_law_right.F.kp d_law_right.b (pa_cons (pe_call d_law_box.G (hr.mono (by omega)) (by rfl) d_law_box.g d_law_box.F.kp d_law_box.b .nil pass0 (pa_cons (pv 1) (pa_cons (pv 2) pa_nil))) pa_nil)))) pa_nil))))), ?_⟩
    refine ⟨.ref a, rfl, a, ns, 6, rfl, hS, by decide, by decide, by omega, fun l ms H1 e1 nl hl1 hlen => ?_⟩
    refine r_lawAll (ev_max1 rfl hl1) (by rw [List.length_map]; omega) (fun _ => rfl) (fun i H2 Q2 hi e2 k2 => ?_) fun H2 _ => q H2
    rw [List.length_map] at hi
    refine ⟨.ref l, rfl, .int (i : Int), rfl, l, ms, i, rfl, SqL.of (e2 _ _ hl1), by omega, fun b H3 e3 nb hB => ⟨b, rfl, hB, fun H4 k4 => k2 H4 (same_box e3 nb k4)⟩⟩
end
theorem all_mk {l : PySem.W.OpenLaw} {w : World} {K : PySem.W.Frag} {h : Heap} {mg : Str → Option Value} {fa : Addr} (X : K.In h) (G : h.Ns mainGlobals mg) (hfa : mg "law" = some (.ref fa))
    {f0 : Addr} {od0 an0 : Option Addr} {sl0 : Array (Option Value)} {oc0 kV0 dc0 pm0 cd0 ct0 : Value}
    {f1 : Addr} {od1 an1 : Option Addr} {sl1 : Array (Option Value)} {oc1 kV1 dc1 pm1 cd1 ct1 : Value}
    {f2 : Addr} {od2 an2 : Option Addr} {sl2 : Array (Option Value)} {oc2 kV2 dc2 pm2 cd2 ct2 : Value}
    {f3 : Addr} {od3 an3 : Option Addr} {sl3 : Array (Option Value)} {oc3 kV3 dc3 pm3 cd3 ct3 : Value}
    {f4 : Addr} {od4 an4 : Option Addr} {sl4 : Array (Option Value)} {oc4 kV4 dc4 pm4 cd4 ct4 : Value}
    {f5 : Addr} {od5 an5 : Option Addr} {sl5 : Array (Option Value)} {oc5 kV5 dc5 pm5 cd5 ct5 : Value}
    {f6 : Addr} {od6 an6 : Option Addr} {sl6 : Array (Option Value)} {oc6 kV6 dc6 pm6 cd6 ct6 : Value}
    {f7 : Addr} {od7 an7 : Option Addr} {sl7 : Array (Option Value)} {oc7 kV7 dc7 pm7 cd7 ct7 : Value}
    {f8 : Addr} {od8 an8 : Option Addr} {sl8 : Array (Option Value)} {oc8 kV8 dc8 pm8 cd8 ct8 : Value}
    {f9 : Addr} {od9 an9 : Option Addr} {sl9 : Array (Option Value)} {oc9 kV9 dc9 pm9 cd9 ct9 : Value}
    {f10 : Addr} {od10 an10 : Option Addr} {sl10 : Array (Option Value)} {oc10 kV10 dc10 pm10 cd10 ct10 : Value}
    {f11 : Addr} {od11 an11 : Option Addr} {sl11 : Array (Option Value)} {oc11 kV11 dc11 pm11 cd11 ct11 : Value}
    {f12 : Addr} {od12 an12 : Option Addr} {sl12 : Array (Option Value)} {oc12 kV12 dc12 pm12 cd12 ct12 : Value}
    {f13 : Addr} {od13 an13 : Option Addr} {sl13 : Array (Option Value)} {oc13 kV13 dc13 pm13 cd13 ct13 : Value}
    {f14 : Addr} {od14 an14 : Option Addr} {sl14 : Array (Option Value)} {oc14 kV14 dc14 pm14 cd14 ct14 : Value}
    {f15 : Addr} {od15 an15 : Option Addr} {sl15 : Array (Option Value)} {oc15 kV15 dc15 pm15 cd15 ct15 : Value}
    {tk0 : Tok}
    (a0 : PySem.W.nsIn K mainGlobals "is_number" = some (some (.ref f0))) (l0 : K.lookup f0 = some ⟨oc0, od0, .func (PySem.W.fnOf "is_number" "is_number" (defArgs st_is_number) (defBody st_is_number) (defScope st_is_number) .none kV0 dc0 pm0 an0 cd0 ct0), sl0⟩) (c0 : PySem.W.codeIn K cd0 "is_number" = true) (k0 : PySem.W.keepIn K (.ref f0) = true)
    (a1 : PySem.W.nsIn K mainGlobals "is_between" = some (some (.ref f1))) (l1 : K.lookup f1 = some ⟨oc1, od1, .func (PySem.W.fnOf "is_between" "is_between" (defArgs st_is_between) (defBody st_is_between) (defScope st_is_between) .none kV1 dc1 pm1 an1 cd1 ct1), sl1⟩) (c1 : PySem.W.codeIn K cd1 "is_between" = true) (k1 : PySem.W.keepIn K (.ref f1) = true)
    (a2 : PySem.W.nsIn K mainGlobals "is_size" = some (some (.ref f2))) (l2 : K.lookup f2 = some ⟨oc2, od2, .func (PySem.W.fnOf "is_size" "is_size" (defArgs st_is_size) (defBody st_is_size) (defScope st_is_size) .none kV2 dc2 pm2 an2 cd2 ct2), sl2⟩) (c2 : PySem.W.codeIn K cd2 "is_size" = true) (k2 : PySem.W.keepIn K (.ref f2) = true)
    (a3 : PySem.W.nsIn K mainGlobals "is_mark" = some (some (.ref f3))) (l3 : K.lookup f3 = some ⟨oc3, od3, .func (PySem.W.fnOf "is_mark" "is_mark" (defArgs st_is_mark) (defBody st_is_mark) (defScope st_is_mark) .none kV3 dc3 pm3 an3 cd3 ct3), sl3⟩) (c3 : PySem.W.codeIn K cd3 "is_mark" = true) (k3 : PySem.W.keepIn K (.ref f3) = true)
    (a4 : PySem.W.nsIn K mainGlobals "is_row" = some (some (.ref f4))) (l4 : K.lookup f4 = some ⟨oc4, od4, .func (PySem.W.fnOf "is_row" "is_row" (defArgs st_is_row) (defBody st_is_row) (defScope st_is_row) .none kV4 dc4 pm4 an4 cd4 ct4), sl4⟩) (c4 : PySem.W.codeIn K cd4 "is_row" = true) (k4 : PySem.W.keepIn K (.ref f4) = true)
    (a5 : PySem.W.nsIn K mainGlobals "is_table" = some (some (.ref f5))) (l5 : K.lookup f5 = some ⟨oc5, od5, .func (PySem.W.fnOf "is_table" "is_table" (defArgs st_is_table) (defBody st_is_table) (defScope st_is_table) .none kV5 dc5 pm5 an5 cd5 ct5), sl5⟩) (c5 : PySem.W.codeIn K cd5 "is_table" = true) (k5 : PySem.W.keepIn K (.ref f5) = true)
    (a6 : PySem.W.nsIn K mainGlobals "_law_box" = some (some (.ref f6))) (l6 : K.lookup f6 = some ⟨oc6, od6, .func (PySem.W.fnOf "_law_box" "_law_box" (defArgs st_law_box) (defBody st_law_box) (defScope st_law_box) .none kV6 dc6 pm6 an6 cd6 ct6), sl6⟩) (c6 : PySem.W.codeIn K cd6 "_law_box" = true) (k6 : PySem.W.keepIn K (.ref f6) = true)
    (a7 : PySem.W.nsIn K mainGlobals "_law_take" = some (some (.ref f7))) (l7 : K.lookup f7 = some ⟨oc7, od7, .func (PySem.W.fnOf "_law_take" "_law_take" (defArgs st_law_take) (defBody st_law_take) (defScope st_law_take) .none kV7 dc7 pm7 an7 cd7 ct7), sl7⟩) (c7 : PySem.W.codeIn K cd7 "_law_take" = true) (k7 : PySem.W.keepIn K (.ref f7) = true)
    (a8 : PySem.W.nsIn K mainGlobals "_law_folded" = some (some (.ref f8))) (l8 : K.lookup f8 = some ⟨oc8, od8, .func (PySem.W.fnOf "_law_folded" "_law_folded" (defArgs st_law_folded) (defBody st_law_folded) (defScope st_law_folded) .none kV8 dc8 pm8 an8 cd8 ct8), sl8⟩) (c8 : PySem.W.codeIn K cd8 "_law_folded" = true) (k8 : PySem.W.keepIn K (.ref f8) = true)
    (a9 : PySem.W.nsIn K mainGlobals "_law_sizes" = some (some (.ref f9))) (l9 : K.lookup f9 = some ⟨oc9, od9, .func (PySem.W.fnOf "_law_sizes" "_law_sizes" (defArgs st_law_sizes) (defBody st_law_sizes) (defScope st_law_sizes) .none kV9 dc9 pm9 an9 cd9 ct9), sl9⟩) (c9 : PySem.W.codeIn K cd9 "_law_sizes" = true) (k9 : PySem.W.keepIn K (.ref f9) = true)
    (a10 : PySem.W.nsIn K mainGlobals "_law_table" = some (some (.ref f10))) (l10 : K.lookup f10 = some ⟨oc10, od10, .func (PySem.W.fnOf "_law_table" "_law_table" (defArgs st_law_table) (defBody st_law_table) (defScope st_law_table) .none kV10 dc10 pm10 an10 cd10 ct10), sl10⟩) (c10 : PySem.W.codeIn K cd10 "_law_table" = true) (k10 : PySem.W.keepIn K (.ref f10) = true)
    (a11 : PySem.W.nsIn K mainGlobals "_law_is_bit" = some (some (.ref f11))) (l11 : K.lookup f11 = some ⟨oc11, od11, .func (PySem.W.fnOf "_law_is_bit" "_law_is_bit" (defArgs st_law_is_bit) (defBody st_law_is_bit) (defScope st_law_is_bit) .none kV11 dc11 pm11 an11 cd11 ct11), sl11⟩) (c11 : PySem.W.codeIn K cd11 "_law_is_bit" = true) (k11 : PySem.W.keepIn K (.ref f11) = true)
    (a12 : PySem.W.nsIn K mainGlobals "_law_is_table" = some (some (.ref f12))) (l12 : K.lookup f12 = some ⟨oc12, od12, .func (PySem.W.fnOf "_law_is_table" "_law_is_table" (defArgs st_law_is_table) (defBody st_law_is_table) (defScope st_law_is_table) .none kV12 dc12 pm12 an12 cd12 ct12), sl12⟩) (c12 : PySem.W.codeIn K cd12 "_law_is_table" = true) (k12 : PySem.W.keepIn K (.ref f12) = true)
    (a13 : PySem.W.nsIn K mainGlobals "_law_bent" = some (some (.ref f13))) (l13 : K.lookup f13 = some ⟨oc13, od13, .func (PySem.W.fnOf "_law_bent" "_law_bent" (defArgs st_law_bent) (defBody st_law_bent) (defScope st_law_bent) .none kV13 dc13 pm13 an13 cd13 ct13), sl13⟩) (c13 : PySem.W.codeIn K cd13 "_law_bent" = true) (k13 : PySem.W.keepIn K (.ref f13) = true)
    (a14 : PySem.W.nsIn K mainGlobals "_law_right" = some (some (.ref f14))) (l14 : K.lookup f14 = some ⟨oc14, od14, .func (PySem.W.fnOf "_law_right" "_law_right" (defArgs st_law_right) (defBody st_law_right) (defScope st_law_right) .none kV14 dc14 pm14 an14 cd14 ct14), sl14⟩) (c14 : PySem.W.codeIn K cd14 "_law_right" = true) (k14 : PySem.W.keepIn K (.ref f14) = true)
    (a15 : PySem.W.nsIn K mainGlobals "law" = some (some (.ref f15))) (l15 : K.lookup f15 = some ⟨oc15, od15, .func (PySem.W.fnOf "law" "law" (defArgs st_law) (defBody st_law) (defScope st_law) .none kV15 dc15 pm15 an15 cd15 ct15), sl15⟩) (c15 : PySem.W.codeIn K cd15 "law" = true) (k15 : PySem.W.keepIn K (.ref f15) = true)
    (v0 : PySem.W.nsIn K mainGlobals "MOST_PLACES" = some (some (.int 12 tk0)))
    (z0 : PySem.W.nsIn K mainGlobals "int" = some none)
    (z1 : PySem.W.nsIn K mainGlobals "bool" = some none)
    (z2 : PySem.W.nsIn K mainGlobals "list" = some none)
    (z3 : PySem.W.nsIn K mainGlobals "tuple" = some none)
    (z4 : PySem.W.nsIn K mainGlobals "str" = some none)
    (z5 : PySem.W.nsIn K mainGlobals "len" = some none)
    (z6 : PySem.W.nsIn K mainGlobals "all" = some none)
    (z7 : PySem.W.nsIn K mainGlobals "isinstance" = some none)
    (z8 : PySem.W.nsIn K mainGlobals "range" = some none)
    (z9 : PySem.W.nsIn K mainGlobals "enumerate" = some none)
    (z10 : PySem.W.nsIn K mainGlobals "zip" = some none)
    (z11 : PySem.W.nsIn K mainGlobals "repr" = some none)
    (z12 : PySem.W.nsIn K mainGlobals "abs" = some none)
    (z13 : PySem.W.nsIn K mainGlobals "min" = some none)
    (z14 : PySem.W.nsIn K mainGlobals "max" = some none)
    (z15 : PySem.W.nsIn K mainGlobals "divmod" = some none) :
    ∃ fd : FuncData, (∀ (s : Shared) (v : Value), BindsTo s fd ⟨[v], []⟩ [("_law_script", v)]) ∧ ∀ base : Heap, K.In base → base.Ns mainGlobals mg → FnG l.prog w K mg base 7 fa fd ["_law_script"] (spLaw K) := by
  have e := hfa.symm.trans (PySem.W.mg_of X G a15)
  cases e
  have F_is_number := fun_mk (st := st_is_number) l0 c0 k0
  have b_is_number := F_is_number.binds (ps := ["thing"]) fun _ _ _ _ _ _ us hl => match us, hl with | [_], _ => rfl
  have g_is_number := PySem.W.mg_of X G a0
  have F_is_between := fun_mk (st := st_is_between) l1 c1 k1
  have b_is_between := F_is_between.binds (ps := ["thing", "least", "most"]) fun _ _ _ _ _ _ us hl => match us, hl with | [_, _, _], _ => rfl
  have g_is_between := PySem.W.mg_of X G a1
  have F_is_size := fun_mk (st := st_is_size) l2 c2 k2
  have b_is_size := F_is_size.binds (ps := ["thing"]) fun _ _ _ _ _ _ us hl => match us, hl with | [_], _ => rfl
  have g_is_size := PySem.W.mg_of X G a2
  have F_is_mark := fun_mk (st := st_is_mark) l3 c3 k3
  have b_is_mark := F_is_mark.binds (ps := ["thing"]) fun _ _ _ _ _ _ us hl => match us, hl with | [_], _ => rfl
  have g_is_mark := PySem.W.mg_of X G a3
  have F_is_row := fun_mk (st := st_is_row) l4 c4 k4
  have b_is_row := F_is_row.binds (ps := ["thing", "outlets"]) fun _ _ _ _ _ _ us hl => match us, hl with | [_, _], _ => rfl
  have g_is_row := PySem.W.mg_of X G a4
  have F_is_table := fun_mk (st := st_is_table) l5 c5 k5
  have b_is_table := F_is_table.binds (ps := ["thing"]) fun _ _ _ _ _ _ us hl => match us, hl with | [_], _ => rfl
  have g_is_table := PySem.W.mg_of X G a5
  have F_law_box := fun_mk (st := st_law_box) l6 c6 k6
  have b_law_box := F_law_box.binds (ps := ["_law_script", "_law_k"]) fun _ _ _ _ _ _ us hl => match us, hl with | [_, _], _ => rfl
  have g_law_box := PySem.W.mg_of X G a6
  have F_law_take := fun_mk (st := st_law_take) l7 c7 k7
  have b_law_take := F_law_take.binds (ps := ["_law_box_here", "_law_size"]) fun _ _ _ _ _ _ us hl => match us, hl with | [_, _], _ => rfl
  have g_law_take := PySem.W.mg_of X G a7
  have F_law_folded := fun_mk (st := st_law_folded) l8 c8 k8
  have b_law_folded := F_law_folded.binds (ps := ["_law_script", "_law_size"]) fun _ _ _ _ _ _ us hl => match us, hl with | [_, _], _ => rfl
  have g_law_folded := PySem.W.mg_of X G a8
  have F_law_sizes := fun_mk (st := st_law_sizes) l9 c9 k9
  have b_law_sizes := F_law_sizes.binds (ps := ["_law_box_here", "_law_most"]) fun _ _ _ _ _ _ us hl => match us, hl with | [_, _], _ => rfl
  have g_law_sizes := PySem.W.mg_of X G a9
  have F_law_table := fun_mk (st := st_law_table) l10 c10 k10
  have b_law_table := F_law_table.binds (ps := ["_law_box_here", "_law_n", "_law_m"]) fun _ _ _ _ _ _ us hl => match us, hl with | [_, _, _], _ => rfl
  have g_law_table := PySem.W.mg_of X G a10
  have F_law_is_bit := fun_mk (st := st_law_is_bit) l11 c11 k11
  have b_law_is_bit := F_law_is_bit.binds (ps := ["_law_thing"]) fun _ _ _ _ _ _ us hl => match us, hl with | [_], _ => rfl
  have g_law_is_bit := PySem.W.mg_of X G a11
  have F_law_is_table := fun_mk (st := st_law_is_table) l12 c12 k12
  have b_law_is_table := F_law_is_table.binds (ps := ["_law_thing"]) fun _ _ _ _ _ _ us hl => match us, hl with | [_], _ => rfl
  have g_law_is_table := PySem.W.mg_of X G a12
  have F_law_bent := fun_mk (st := st_law_bent) l13 c13 k13
  have b_law_bent := F_law_bent.binds (ps := ["_law_box_here", "_law_table_here"]) fun _ _ _ _ _ _ us hl => match us, hl with | [_, _], _ => rfl
  have g_law_bent := PySem.W.mg_of X G a13
  have F_law_right := fun_mk (st := st_law_right) l14 c14 k14
  have b_law_right := F_law_right.binds (ps := ["_law_box_here"]) fun _ _ _ _ _ _ us hl => match us, hl with | [_], _ => rfl
  have g_law_right := PySem.W.mg_of X G a14
  have F_law := fun_mk (st := st_law) l15 c15 k15
  have b_law := F_law.binds (ps := ["_law_script"]) fun _ _ _ _ _ _ us hl => match us, hl with | [_], _ => rfl
  have g_law := PySem.W.mg_of X G a15
  have C_MOST_PLACES := PySem.W.mg_of X G v0
  have B : Bl mg := ⟨PySem.W.mg_none_of X G z0, PySem.W.mg_none_of X G z1, PySem.W.mg_none_of X G z2, PySem.W.mg_none_of X G z3, PySem.W.mg_none_of X G z4, PySem.W.mg_none_of X G z5, PySem.W.mg_none_of X G z6, PySem.W.mg_none_of X G z7, PySem.W.mg_none_of X G z8, PySem.W.mg_none_of X G z9, PySem.W.mg_none_of X G z10, PySem.W.mg_none_of X G z11, PySem.W.mg_none_of X G z12, PySem.W.mg_none_of X G z13, PySem.W.mg_none_of X G z14, PySem.W.mg_none_of X G z15⟩
  refine ⟨PySem.W.fnOf "law" "law" (defArgs st_law) (defBody st_law) (defScope st_law) .none kV15 dc15 pm15 an15 cd15 ct15, fun s v => .of_eq rfl, fun base _ _ => ?_⟩
  have G_take := ok_law_take (P := l.prog) (w := w) (base := base) F_law_take B
  have G_box := ok_law_box (P := l.prog) (w := w) (base := base) F_law_box B
  have G_fold := ok_law_folded (P := l.prog) (w := w) (base := base) F_law_folded B
  have D_take : Df l.prog w K mg base 1 _ _ _ _ _ _ := ⟨F_law_take, g_law_take, b_law_take, G_take⟩
  have D_box : Df l.prog w K mg base 1 _ _ _ _ _ _ := ⟨F_law_box, g_law_box, b_law_box, G_box⟩
  have D_fold : Df l.prog w K mg base 1 _ _ _ _ _ _ := ⟨F_law_folded, g_law_folded, b_law_folded, G_fold⟩
  have D_sizes : Df l.prog w K mg base 2 _ _ _ _ _ _ := ⟨F_law_sizes, g_law_sizes, b_law_sizes, ok_law_sizes F_law_sizes B D_take⟩
  have D_table : Df l.prog w K mg base 2 _ _ _ _ _ _ := ⟨F_law_table, g_law_table, b_law_table, ok_law_table F_law_table B D_take⟩
  have D_bent : Df l.prog w K mg base 2 _ _ _ _ _ _ := ⟨F_law_bent, g_law_bent, b_law_bent, ok_law_bent F_law_bent B D_take⟩
  have D_num : Df l.prog w K mg base 1 _ _ _ _ _ _ := ⟨F_is_number, g_is_number, b_is_number, ok_is_number F_is_number B⟩
  have D_btw : Df l.prog w K mg base 2 _ _ _ _ _ _ := ⟨F_is_between, g_is_between, b_is_between, ok_is_between F_is_between B D_num⟩
  have D_size : Df l.prog w K mg base 3 _ _ _ _ _ _ := ⟨F_is_size, g_is_size, b_is_size, ok_is_size F_is_size B C_MOST_PLACES D_btw⟩
  have D_mark : Df l.prog w K mg base 3 _ _ _ _ _ _ := ⟨F_is_mark, g_is_mark, b_is_mark, ok_is_mark F_is_mark B D_btw⟩
  have D_row : Df l.prog w K mg base 4 _ _ _ _ _ _ := ⟨F_is_row, g_is_row, b_is_row, ok_is_row F_is_row B D_mark⟩
  have D_tab : Df l.prog w K mg base 5 _ _ _ _ _ _ := ⟨F_is_table, g_is_table, b_is_table, ok_is_table F_is_table B D_size D_row⟩
  have D_bit : Df l.prog w K mg base 1 _ _ _ _ _ _ := ⟨F_law_is_bit, g_law_is_bit, b_law_is_bit, ok_law_is_bit F_law_is_bit B⟩
  have D_ltab : Df l.prog w K mg base 2 _ _ _ _ _ _ := ⟨F_law_is_table, g_law_is_table, b_law_is_table, ok_law_is_table F_law_is_table B D_bit⟩
  have D_right : DfG l.prog w K mg base 6 _ _ _ _ _ _ := ⟨F_law_right, g_law_right, b_law_right, ok_law_right F_law_right B D_take D_sizes D_table D_bent D_tab D_ltab⟩
  exact ok_law F_law B D_fold D_box D_right
end K01
open PySem PySem.W PyProof.Rows
set_option maxHeartbeats 0 in
theorem PySem.Challenge.cw_crossgrants_k01_tables_or_not_holds : PySem.Challenge.rw_crossgrants_k01_tables_or_not.Holds := by
  w_on; o_law; k_head; (case hw => w_witness2)
  k_fill
  refine Cg.walkG (l := PySem.Challenge.rw_crossgrants_k01_tables_or_not) (n := 63) (k := 7) (x := "_law_script") (sp := K01.spLaw) rfl (by decide) rfl ⟨rfl, by decide, by decide⟩ (fun w h Y => PySem.W.kIn_of Y) ?F (fun K H a ns hl hS => ⟨a, ns, rfl, hS, hl, fun _ => rfl⟩)
  case F =>
    intro w mg fa h KX G hmg
    refine' K01.all_mk KX G hmg ?a0 ?l0 ?c0 ?k0 ?a1 ?l1 ?c1 ?k1 ?a2 ?l2 ?c2 ?k2 ?a3 ?l3 ?c3 ?k3 ?a4 ?l4 ?c4 ?k4 ?a5 ?l5 ?c5 ?k5 ?a6 ?l6 ?c6 ?k6 ?a7 ?l7 ?c7 ?k7 ?a8 ?l8 ?c8 ?k8 ?a9 ?l9 ?c9 ?k9 ?a10 ?l10 ?c10 ?k10 ?a11 ?l11 ?c11 ?k11 ?a12 ?l12 ?c12 ?k12 ?a13 ?l13 ?c13 ?k13 ?a14 ?l14 ?c14 ?k14 ?a15 ?l15 ?c15 ?k15 ?v0 ?z0 ?z1 ?z2 ?z3 ?z4 ?z5 ?z6 ?z7 ?z8 ?z9 ?z10 ?z11 ?z12 ?z13 ?z14 ?z15
    (case a0 => k_is); (case l0 => k_is); (case c0 => k_is); (case k0 => k_is); (case a1 => k_is); (case l1 => k_is); (case c1 => k_is); (case k1 => k_is); (case a2 => k_is); (case l2 => k_is); (case c2 => k_is); (case k2 => k_is); (case a3 => k_is); (case l3 => k_is); (case c3 => k_is); (case k3 => k_is); (case a4 => k_is); (case l4 => k_is); (case c4 => k_is); (case k4 => k_is); (case a5 => k_is); (case l5 => k_is); (case c5 => k_is); (case k5 => k_is); (case a6 => k_is); (case l6 => k_is); (case c6 => k_is); (case k6 => k_is); (case a7 => k_is); (case l7 => k_is); (case c7 => k_is); (case k7 => k_is); (case a8 => k_is); (case l8 => k_is); (case c8 => k_is); (case k8 => k_is); (case a9 => k_is); (case l9 => k_is); (case c9 => k_is); (case k9 => k_is); (case a10 => k_is); (case l10 => k_is); (case c10 => k_is); (case k10 => k_is); (case a11 => k_is); (case l11 => k_is); (case c11 => k_is); (case k11 => k_is); (case a12 => k_is); (case l12 => k_is); (case c12 => k_is); (case k12 => k_is); (case a13 => k_is); (case l13 => k_is); (case c13 => k_is); (case k13 => k_is); (case a14 => k_is); (case l14 => k_is); (case c14 => k_is); (case k14 => k_is); (case a15 => k_is); (case l15 => k_is); (case c15 => k_is); (case k15 => k_is); (case v0 => k_is); (case z0 => k_is); (case z1 => k_is); (case z2 => k_is); (case z3 => k_is); (case z4 => k_is); (case z5 => k_is); (case z6 => k_is); (case z7 => k_is); (case z8 => k_is); (case z9 => k_is); (case z10 => k_is); (case z11 => k_is); (case z12 => k_is); (case z13 => k_is); (case z14 => k_is); (case z15 => k_is)
