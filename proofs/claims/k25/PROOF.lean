import PyProof.Rows.All
import Wide.All
import OpenK.AllK
import Wide.FinOn
import HandS.Base
import HandS.Call
import HandS.List
import HandS.Comp
import HandS.Ends
import HandS.Words
import HandS.Codes
import HandS.TupAny
import HandS.More
import HandS.Iter
import HandS.Text
import HandS.Dict
import HandS.WordsList
import HandS.Evl
import HandS.TupMul
import HandS.IsInst
import HandS.Walk
import HandS.DictComp
import HandS.WordsDict
import HandS.TupSets
import HandS.SortRule
import HandS.DictTup
import KE.SortKeyHeap
import KE.KSortKey
import HandS.SortKw
import KE.SortData
import HandS.Deep
import HandS.Star
import HandS.Property
import HandS.MakeKwOnly
import PyProof.ListRange
import PySem.Challenge.RW_listnames_k25_whole_who_can_mean_a_name
set_option Elab.async false
set_option linter.all false
set_option maxRecDepth 100000
namespace LN
open PySem PySem.Spec PyProof.Rows L2

/-! calls around which no text of a container is being made -/
abbrev Quiet (A : Around) : Prop := A.guards = some []

structure FnQ (P : Program) (w : World) (K : PySem.W.Frag) (mg : Str → Option Value) (base : Heap) (k : Nat) (f : Addr) (fd : FuncData) (ps : List Str) (sp : Sp) : Prop where
  size : ∀ vs H Q, sp vs H Q E0 → vs.length = ps.length
  go : ∀ (A : Around) (outer : List Env) (s : Shared) (H : Hp) (us : List Value) (vs : List V) (Q : VK), Quiet A → Room k A → Env0 P w K mg base A outer s H →
    BindsTo s fd ⟨us, []⟩ (ps.zip us) → Vals vs us → sp vs H Q E0 → codeAny (model P w) A (.call (.ref f) ⟨us, []⟩) (CR CX0 outer P w H s Q E0) s

section
variable {P : Program} {w : World} {K : PySem.W.Frag} {mg : Str → Option Value} {base : Heap}
theorem okQ {x qual : Str} {st : Stmt} {f : Addr} {fd : FuncData} {N ps : List Str} {k : Nat} {sp : Sp} (F : Fun K x qual st f fd) (S : FnScope N ps (defScope st))
    (size : ∀ vs H Q, sp vs H Q E0 → vs.length = ps.length)
    (body : ∀ (cdv : Value) (A : Around) (outer : List Env) (s : Shared) (H : Hp) (vs : List V) (Q : VK), Quiet A →
      Room k (A.deeper (envOfC qual (defScope st) s.heap.objs.size f cdv)) → sp vs H Q E0 →
      ∃ t, PSs (cxOf CX0 P w K mg base N qual (defScope st) f cdv A outer s H E0).nox (defBody st) t ∧ t { nx := fun _ H' => Q .non H', rt := Q } (start N vs) H) :
    FnQ P w K mg base (k + 1) f fd ps sp := by
  obtain ⟨oc, od, kV, doc, pm, an, cdv, ct, osl, rfl, lk, hcd⟩ := F.ex
  constructor
  · exact size
  intro A outer s H us vs Q quiet room env binds rel want
  have inHeap : K.In s.heap := env.mod.kin.keeps (fun b o e => (env.bs b o e).1)
  have noLim : s.heap.NoLimit := env.mod.nolimit.keeps (fun b o e => (env.bs b o e).1)
  have kinds : ∀ y ∈ ps.zip us, (defScope st).names.lookup y.1 = some .local ∨
      ((defScope st).names.lookup y.1 = some .cell ∧ ((cellsFrom (s.heap.objs.size + 1) (defScope st).names []).lookup y.1).isSome = true) := by
    intro y hy
    cases S.par y.1 (List.of_mem_zip (show (y.1, y.2) ∈ ps.zip us from hy)).1 with
    | inl q => exact .inl q
    | inr q => exact .inr ⟨q, PySem.W.cellsFrom_some _ _ _ (.inl q)⟩
  apply codeAny_call_function room.depth (inHeap _ _ lk) rfl S.co S.gen rfl (PySem.W.codeRec_of inHeap hcd) (binds _ _ _ _ _)
  apply wpAny_newFunctionEnv_cells S.kind kinds
  intro env' henv s1 entered
  subst henv
  refine ⟨noLim.keeps entered.toInCall.keep, codeAny_func ?_⟩
  obtain ⟨t, rule, reads⟩ := body cdv A outer s H vs Q quiet (room.deeper _) want
  have inv := inv_start (CX := CX0) (E := E0) S room.hd env (size _ _ _ want) rel entered
  refine wpAny_mono (rule.nox.run [] s1 (start N vs) H _ inv reads) ?_ (fun e s' hs => hs)
  intro fl s' hs
  cases fl with
  | ret u =>
    obtain ⟨v, σ', H', J, rv, q⟩ := hs
    exact ⟨v, H', J.os, J.bare, J.base, J.hok, rv, q⟩
  | next =>
    obtain ⟨σ', H', J, q⟩ := hs
    exact ⟨V.non, H', J.os, J.bare, J.base, J.hok, rfl, q⟩
  | brk =>
    obtain ⟨_, _, _, q⟩ := hs
    cases q
  | cont =>
    obtain ⟨_, _, _, q⟩ := hs
    cases q
end

section
variable {X : Cx} {k : Nat} {f : Addr} {fd : FuncData} {ps : List Str} {sp : Sp} {x : Str} {p pos : Pos} {e : Expr} {es : List Expr} {t : TA}
theorem callQ (F : FnQ X.prog X.w X.K X.mg X.base k f fd ps sp) (quiet : Quiet X.A) (room : Room k X.A) (hg : Gl X x) (hm : X.mg x = some (.ref f)) (hk : PySem.W.keepIn X.K (.ref f) = true)
    (hb : Binds X.K fd ps []) (args : PA X (e :: es) t) (hdb : (x == ("__debug__" : Str)) = false := by decide) (he : starEach (e :: es) X.env = (false, eval e X.env) :: starEach es X.env := by rfl)
    (hpl : (backTo pos (starEach es X.env)).any (·.1) = false := by rfl) : PE X (.Call (.Name x p) (e :: es) [] pos) (tCall sp [] E0 t) := by
  constructor
  intro pins s σ H Q inv want
  apply wpAny_Call_Name_kw (ld_glob inv hg hm _ hdb)
  apply PySem.W.callWith_K (h₀ := X.base) inv.ok.mod.kin hk _ he hpl
  refine thn (args.run pos pins s σ H _ inv want) ?_
  rintro us s1 ⟨vs, H1, I1, r, q⟩
  refine ⟨I1.kIn, ?_⟩
  rw [List.append_nil] at q
  have hl : us.length = ps.length := r.length.symm.trans (F.size _ _ _ q)
  have hbs := hb s1 us I1.kIn (by rw [List.append_nil]; exact hl)
  rw [List.append_nil] at hbs
  refine wpAny_call (codeAny_mono (F.go X.A X.stack s1 H1 us vs Q quiet room I1.env0 hbs r q) ?_)
  intro r' s' hq
  cases r' with
  | error e => cases (show False from hq)
  | ok fl =>
    cases fl with
    | ret u => exact I1.after hq
    | next => cases (show False from hq)
    | brk => cases (show False from hq)
    | cont => cases (show False from hq)

theorem cr_repr (quiet : Quiet X.A) (hu : X.A.units + 70 < cLine) : CallR X (.builtin "repr") (fun xs H Q => ∃ x d, xs = [x] ∧ Dp X.K H x d ∧ d.showable = true ∧ d.hasDict = false ∧ d.depth ≤ 60 ∧ d.shown.length ≤ sizeLine ∧ Q (.str d.shown) H) := by
  intro pins s σ H xs us Q inv rel want
  obtain ⟨x, d, rfl, hd, h1, h2, h3, h4, q⟩ := want
  obtain ⟨u, rfl, ru⟩ := vals1 rel
  obtain ⟨as, rd⟩ := Dp.reads inv d _ _ hd ru
  have fin : ∀ tk t, EP X pins σ Q (.str d.shown t) { s with toks := tk } := fun tk t => ⟨.str d.shown, H, inv.tok _, ⟨t, rfl⟩, q⟩
  cases hd with
  | non =>
    obtain rfl : u = Value.none := ru
    exact PySem.P.repr_of_none (fin _ _)
  | bl b =>
    obtain rfl : u = Value.bool b := ru
    exact PySem.P.repr_of_bool (fin _ _)
  | int i =>
    obtain ⟨t, rfl⟩ := ru
    exact PySem.P.repr_of_int (of_decide_eq_true h1) (fin _ _)
  | str z =>
    obtain ⟨t, rfl⟩ := ru
    exact PySem.P.repr_of_str (fin _ _) h4
  | lst q1 q2 =>
    cases ru
    refine repr_of_reads' rd h1 (PyData.noDict_hsm h2) quiet (by omega) (fun _ _ e => e) ?_ h4
    intro h' u tk hk
    exact ⟨.str (PyData.list _).shown, H, inv.un (t' := tk) (Un.kept hk) (inv.hok.kept hk), ⟨u, rfl⟩, q⟩
  | tup q1 q2 =>
    cases ru
    refine repr_of_reads' rd h1 (PyData.noDict_hsm h2) quiet (by omega) (fun _ _ e => e) ?_ h4
    intro h' u tk hk
    exact ⟨.str (PyData.tuple _).shown, H, inv.un (t' := tk) (Un.kept hk) (inv.hok.kept hk), ⟨u, rfl⟩, q⟩
end
end LN

namespace LN
open PySem PySem.Spec PyProof.Rows L2

section
variable {P : Program} {w : World} {K : PySem.W.Frag} {mg mb : Str → Option Value} {k : Nat} {fa a : Addr} {fd : FuncData} {x : Str} {sp : Sp} {s₁ : Shared} {vs : List Value} {ns : List Int}
abbrev EndsTrue (s₁ : Shared) : Result → Shared → Prop := fun r s' => r = .ok (.ret (.bool true)) ∧ PySem.OldK s₁.heap s'.heap ∧ s'.os = s₁.os ∧ AllBare s'.gens

theorem law_over (inHeap : K.In s₁.heap) (top : s₁.heap.Ns mainGlobals mg) (blt : s₁.heap.Ns builtinsNs mb) (bltIs : ∀ x : Str, x ≠ "__name__" → mb x = bootBuiltins x) (lim : s₁.heap.NoLimit) (gens : s₁.gens = #[])
    (script : s₁.heap.get? a = some { cls := .type "list", data := .seq vs.toArray }) (room : Room k callerA)
    (F : ∀ base : Heap, K.In base → base.Ns mainGlobals mg → FnQ P w K mg base k fa fd [x] sp) (bind : ∀ (s : Shared) (u : Value), BindsTo s fd ⟨[u], []⟩ [(x, u)])
    (H : Hp) (only : Only H) (held : HOk P w H s₁.heap) (there : ∀ b, H b ≠ none → b = a) (off : H a ≠ none → K.lookup a = none) (want : sp [.ref a] H (fun v _ => v = .bl true) E0) :
    codeAny (model P w) callerA (.call (.ref fa) ⟨[.ref a], []⟩) (EndsTrue s₁) s₁ := by
  have stay : ∀ {b : Addr} {o : Obj}, s₁.heap.get? b = some o → H b = none → (hidT s₁.heap H).get? b = some o := fun e n => hidT_get e n
  have notDict : ∀ {b : Addr} {o : Obj} {es : Array DictEntry} {ep : Nat}, s₁.heap.get? b = some o → o.data = .dict es ep → H b = none := by
    intro b o es ep e d
    cases q : H b with
    | none => rfl
    | some u =>
      have eb := there b (by rw [q]; exact Option.some_ne_none u)
      rw [eb, script] at e
      cases e
      cases (show Data.seq vs.toArray _ = Data.dict es ep from d)
  have spaces : ∀ {b : Addr} {m : Str → Option Value}, s₁.heap.Ns b m → (hidT s₁.heap H).Ns b m := by
    rintro b m ⟨o, es, ep, e, d, r⟩
    exact ⟨o, es, ep, stay e (notDict e d), d, r⟩
  have inHid : K.In (hidT s₁.heap H) := by
    intro b o e
    refine stay (inHeap b o e) ?_
    cases q : H b with
    | none => rfl
    | some u =>
      have eb := there b (by rw [q]; exact Option.some_ne_none u)
      have z := off (by rw [← eb, q]; exact Option.some_ne_none u)
      rw [eb, z] at e
      cases e
  have md : Mod K mg (hidT s₁.heap H) := by
    obtain ⟨mc, l1, l2⟩ := lim
    exact ⟨inHid, spaces top, ⟨mb, spaces blt, bltIs⟩, ⟨mc, spaces l1, l2⟩⟩
  have env : Env0 P w K mg (hidT s₁.heap H) callerA [] s₁ H := by
    refine ⟨rfl, md, fun b o e => of_hidT e, Nat.le_of_eq (hidT_size _ _), trivial, ?_, held, .of_eq gens⟩
    intro b hb
    exact absurd (show b ∈ ([] : List Addr) from hb) List.not_mem_nil
  refine codeAny_mono ((F _ inHid (spaces top)).go callerA [] s₁ H [.ref a] [.ref a] _ rfl room env (bind s₁ (.ref a)) (.cons rfl .nil) want) ?_
  intro r s' h
  cases r with
  | error e => cases (show False from h)
  | ok fl =>
    cases fl with
    | next => cases (show False from h)
    | brk => cases (show False from h)
    | cont => cases (show False from h)
    | ret u =>
      obtain ⟨v, H', os, bare, un, held', rv, q⟩ := h
      obtain rfl : v = .bl true := q
      obtain rfl : u = Value.bool true := rv
      refine ⟨rfl, OldK.of_keep ?_, os, bare⟩
      intro b o e
      cases q : H b with
      | none => exact un.keep b o e q (fun z => absurd (show b ∈ ([] : List Addr) from z) List.not_mem_nil) List.not_mem_nil
      | some u =>
        cases only b with
        | inl z => rw [q] at z; cases z
        | inr z =>
          obtain ⟨ob, xs, z⟩ := z
          obtain ⟨e1, _⟩ := held b _ z
          obtain ⟨e2, _⟩ := held' b _ (un.frzs b ob _ z)
          rw [e] at e1
          cases e1
          exact e2

theorem law_callQ (inHeap : K.In s₁.heap) (top : s₁.heap.Ns mainGlobals mg) (blt : s₁.heap.Ns builtinsNs mb) (bltIs : ∀ x : Str, x ≠ "__name__" → mb x = bootBuiltins x) (lim : s₁.heap.NoLimit) (gens : s₁.gens = #[])
    (script : s₁.heap.get? a = some { cls := .type "list", data := .seq vs.toArray }) (whole : IntsAre vs ns) (size : ns.length ≤ sizeLine) (room : Room k callerA)
    (F : ∀ base : Heap, K.In base → base.Ns mainGlobals mg → FnQ P w K mg base k fa fd [x] sp) (bind : ∀ (s : Shared) (u : Value), BindsTo s fd ⟨[u], []⟩ [(x, u)])
    (want : ∀ H : Hp, Only H → SqL K H a (ns.map V.int) → sp [.ref a] H (fun v _ => v = .bl true) E0) :
    codeAny (model P w) callerA (.call (.ref fa) ⟨[.ref a], []⟩) (EndsTrue s₁) s₁ := by
  have rv := vals_ints whole
  cases hk : K.lookup a with
  | some o =>
    have e := inHeap a o hk
    rw [script] at e
    cases e
    have sq : SqL K (fun _ => none) a (ns.map V.int) := by
      refine .inr ⟨_, vs.toArray, _, hk, rfl, rfl, rfl, ?_, by simpa using rv⟩
      rw [List.size_toArray, whole.length]
      exact size
    exact law_over inHeap top blt bltIs lim gens script room F bind (fun _ => none) (fun _ => .inl rfl) (fun b u z => nomatch (show (none : Option HO) = some u from z)) (fun b z => absurd rfl z) (fun z => absurd rfl z) (want _ (fun _ => .inl rfl) sq)
  | none =>
    let H : Hp := fun b => if b = a then some (.frz { cls := .type "list", data := .seq vs.toArray } (.lst (ns.map V.int))) else none
    have ha : H a = some (.frz { cls := .type "list", data := .seq vs.toArray } (.lst (ns.map V.int))) := if_pos rfl
    have hb : ∀ b, b ≠ a → H b = none := fun b n => if_neg n
    have only : Only H := by
      intro b
      by_cases e : b = a
      · rw [e]; exact .inr ⟨_, _, ha⟩
      · exact .inl (hb b e)
    refine law_over inHeap top blt bltIs lim gens script room F bind H only ?_ ?_ (fun _ => hk) (want H only (.inl (.inr ⟨_, ha⟩)))
    · intro b u z
      by_cases e : b = a
      · subst e
        rw [ha] at z
        cases z
        exact ⟨script, by rw [List.length_map]; exact size, vs, _, rv, script⟩
      · rw [hb b e] at z
        cases z
    · intro b z
      by_cases e : b = a
      · exact e
      · exact absurd (hb b e) z
end

theorem walk_ofQ {l : PySem.W.OpenLaw} {n k : Nat} {q : Program} {loose : List Str} {XP : (Str → Option Value) → Heap → Prop} {YP : World → Heap → Prop} {d : DefRec} {K : Params → PySem.W.Frag} {sp : World → Sp} {x : Str}
    (most : l.most = some n) (few : n ≤ sizeLine) (plain : d.params.defaults = []) (room : Room k callerA) (hY : ∀ (w : World) (h : Heap), YP w h → (K w.params).In h)
    (F : ∀ (w : World) (mg : Str → Option Value) (fa : Addr) (h : Heap), (K w.params).In h → h.Ns mainGlobals mg → mg d.name = some (.ref fa) →
      ∃ fd : FuncData, (∀ (s : Shared) (u : Value), BindsTo s fd ⟨[u], []⟩ [(x, u)]) ∧
        ∀ base : Heap, (K w.params).In base → base.Ns mainGlobals mg → FnQ l.prog w (K w.params) mg base k fa fd [x] (sp w))
    (want : ∀ (w : World) (H : Hp) (a : Addr) (ns : List Int), ns.length ≤ n → Only H → SqL (K w.params) H a (ns.map V.int) → sp w [.ref a] H (fun v _ => v = .bl true) E0) :
    PySem.W.WalkO q loose XP YP l.row.toRowW d [] (fun f vs => PySem.call f vs) := by
  apply Att.attach_call most plain
  intro w s₀ s₁ mg mb fa o pm cd doc a vs ns G Y ho hd hcd hmg hobj whole len gens
  obtain ⟨fd, bind, hF⟩ := F w mg fa _ (hY w _ Y) G.T.g hmg
  exact law_callQ (hY w _ Y) G.T.g G.T.b G.T.builtins G.T.nolimit gens hobj whole (Nat.le_trans len few) room hF bind (fun H only sq => want w H a ns len only sq)
end LN

namespace LN
open PySem PySem.Spec PyProof.Rows L2
theorem same_put {H : Hp} {p : Addr} {o : HO} (h : H p = none) : Same H (upd H p o) := fun b x e => by
  rw [upd_ne (ne_of_none e h)]
  exact e
theorem upd_own {H : Hp} {p : Addr} {o : HO} (h : H p = some o) : upd H p o = H := by
  funext b
  by_cases e : b = p
  · rw [e, upd_same, h]
  · rw [upd_ne e]

section
variable {X : Cx}
/-- xs[i], i counted from 0, where the store of xs[i] op= e reads it -/
theorem get_list : PGet X (fun x y H Q => ∃ p xs i v, x = .ref p ∧ y = .int (i : Nat) ∧ i < 1000 ∧ H p = some (.lst xs) ∧ xs[i]? = some v ∧ Q v H) := by
  intro pins s σ H o i ov iv Q inv ro ri want
  obtain ⟨p, xs, j, v, rfl, rfl, small, hp, at_, q⟩ := want
  obtain rfl : ov = Value.ref p := ro
  obtain ⟨t, rfl⟩ := ri
  obtain ⟨its, r, pl, hz⟩ := inv.list (.inl (.inl hp))
  obtain ⟨u, eu, ru⟩ := r.get at_
  refine wpAny_getItem_list pl.isList (Int.natCast_nonneg _) (by omega) (by simpa using eu) ?_
  exact ⟨v, H, inv, ru, q⟩

/-- text * int -/
theorem op_mulStr : OpR X (binaryOp .Mult) (fun x y H Q => ∃ z n, x = .str z ∧ y = .int n ∧ MulOk z n ∧ Q (.str (Txt.mul z n)) H) := by
  intro pins s σ H x y v u Q inv rx ry want
  obtain ⟨z, n, rfl, rfl, ok, q⟩ := want
  obtain ⟨t, rfl⟩ := rx
  obtain ⟨t', rfl⟩ := ry
  refine SB.mul ok ?_
  intro t'' k
  exact ⟨.str _, H, inv.tok _, ⟨_, rfl⟩, q⟩
end

/-- the bag of a law: four places; what is drawn next hangs on the first three -/
def Bag (b bc : Addr) (H : Hp) : Prop := ∃ (x0 x1 x2 : Int) (ns : List Int), bc ≠ b ∧ H b = some (.lst [.int x0, .int x1, .int x2, .ref bc]) ∧ H bc = some (.lst (ns.map V.int)) ∧ 0 ≤ x1 ∧ x1 < 2147483647 ∧ 0 ≤ x2
theorem Bag.same {b bc : Addr} {H H' : Hp} (h : Bag b bc H) (s : Same H H') : Bag b bc H' := by
  obtain ⟨x0, x1, x2, ns, h1, h2, h3, h4⟩ := h
  exact ⟨x0, x1, x2, ns, h1, s _ _ h2, s _ _ h3, h4⟩
/-- all that was tracked, but the bag, is as it was; the bag is one -/
structure Drew (b bc : Addr) (H H' : Hp) : Prop where
  bag : Bag b bc H'
  keep : ∀ a o, a ≠ b → H a = some o → H' a = some o
  held : ∀ a, H a ≠ none → H' a ≠ none
theorem Drew.refl {b bc : Addr} {H : Hp} (h : Bag b bc H) : Drew b bc H H := ⟨h, fun _ _ _ e => e, fun _ e => e⟩
theorem Drew.trans {b bc : Addr} {H H1 H2 : Hp} (h : Drew b bc H H1) (g : Drew b bc H1 H2) : Drew b bc H H2 := ⟨g.bag, fun a o n e => g.keep a o n (h.keep a o n e), fun a e => g.held a (h.held a e)⟩
theorem Drew.same {b bc : Addr} {H H1 H2 : Hp} (h : Drew b bc H H1) (g : Same H1 H2) : Drew b bc H H2 := ⟨h.bag.same g, fun a o n e => g a o (h.keep a o n e), fun a e z => by
  have := h.held a e
  cases q : H1 a with
  | none => exact this q
  | some o => rw [g a o q] at z; cases z⟩
theorem same_drew {b bc : Addr} {H H1 H2 : Hp} (g : Same H H1) (h : Drew b bc H1 H2) : Drew b bc H H2 := ⟨h.bag, fun a o n e => h.keep a o n (g a o e), fun a e z => by
  cases q : H a with
  | none => exact e q
  | some o => exact h.held a (by rw [g a o q]; exact Option.some_ne_none o) z⟩
theorem Drew.free {b bc : Addr} {H H' : Hp} (h : Drew b bc H H') {p : Addr} (e : H' p = none) : H p = none := by
  cases q : H p with
  | none => rfl
  | some o => exact absurd e (h.held p (by rw [q]; exact Option.some_ne_none o))
def spBag (K : PySem.W.Frag) : Sp := fun vs H Q _ => ∃ (a : Addr) (ns : List Int), vs = [.ref a] ∧ SqL K H a (ns.map V.int) ∧ ns.length ≤ 63 ∧ ∀ H' b bc, Same H H' → H b = none → H bc = none → Bag b bc H' → Q (.ref b) H'
def spTake : Sp := fun vs H Q _ => ∃ (b bc : Addr) (m : Nat), vs = [.ref b, .int m] ∧ Bag b bc H ∧ 1 ≤ m ∧ m < 1073741824 ∧ ∀ H' (r : Nat), Drew b bc H H' → r < m → Q (.int r) H'
end LN

namespace LN
open PySem PySem.Spec PyProof.Rows L2

/-! data that can be compared and shown: dep bounds how deep it is, n how long its text -/
structure Good (d : PyData) (dep n : Nat) : Prop where
  lay : d.canLay0 = true
  shows : d.showable = true
  deep : d.depth ≤ dep
  len : d.shown.length ≤ n
theorem Good.mono {d : PyData} {a b n m : Nat} (g : Good d a n) (h : a ≤ b) (h' : n ≤ m) : Good d b m := ⟨g.lay, g.shows, Nat.le_trans g.deep h, Nat.le_trans g.len h'⟩
theorem Good.bool (b : Bool) : Good (.bool b) 0 5 := by cases b <;> exact ⟨rfl, rfl, Nat.le_refl _, by decide⟩
theorem Good.none : Good .none 0 5 := ⟨rfl, rfl, Nat.le_refl _, by decide⟩
theorem Good.str {x : Str} {m : Nat} (h : PyData.strOk x = true) (l : x.length ≤ m) : Good (.str x) 0 (10 * m + 2) := by
  refine ⟨h, rfl, Nat.le_refl _, ?_⟩
  have k := StrLaws.reprText_len x (fun c hc => by
    have := Array.all_eq_true_iff_forall_mem.mp h c (Array.mem_def.mpr hc)
    have := of_decide_eq_true this
    omega)
  show (reprText x).length ≤ _
  omega
theorem piled_le {n : Nat} : ∀ {ds : List PyData}, (∀ d ∈ ds, d.shown.length ≤ n) → piled (PyData.shownAll ds) ≤ ds.length * (n + 2)
  | [], _ => Nat.zero_le _
  | d :: ds, h => by
    have ih := piled_le (ds := ds) fun x hx => h x (List.mem_cons_of_mem _ hx)
    have h1 := h d List.mem_cons_self
    show piled (d.shown :: PyData.shownAll ds) ≤ _
    rw [piled_cons, List.length_cons, Nat.succ_mul]
    omega
theorem listText_le (ts : List Str) : (listText ts).length ≤ 2 + piled ts := by
  cases ts with
  | nil => exact Nat.le_refl 2
  | cons t r =>
    have h := textFrom_length_pos r 1 (("[" : Str) ++ (if (0 : Nat) > 0 then ", " else "" : String) ++ t) (Nat.succ_pos 0)
    have e : (listText (t :: r)).length = (textFrom 1 (("[" : Str) ++ (if (0 : Nat) > 0 then ", " else "" : String) ++ t) r).length + 1 := by
      unfold listText
      rw [strLen_append]
      rfl
    have e2 : ((("[" : Str) ++ (if (0 : Nat) > 0 then ", " else "" : String) ++ t)).length = 1 + t.length := by
      rw [strLen_append, strLen_append]
      rfl
    rw [e, h, e2, piled_cons]
    omega
theorem tupleText_le (ts : List Str) : (tupleText ts).length ≤ 3 + piled ts := by
  unfold tupleText
  rw [strLen_append, strLen_append]
  have e1 : ((("(" : String) : Str)).length = 1 := rfl
  have e3 : (((if ts.length == 1 then ",)" else ")" : String) : Str)).length ≤ 2 := by split <;> decide
  rw [e1]
  by_cases h : ts = []
  · subst h
    have : (Str.join (", " : String) []).length = 0 := rfl
    omega
  · have := join_length_add ts h
    omega
theorem all_lay {ds : List PyData} (h : ∀ d ∈ ds, d.canLay0 = true) : PyData.canLayAll0 ds = true := by
  induction ds with
  | nil => rfl
  | cons d ds ih =>
    show (d.canLay0 && PyData.canLayAll0 ds) = true
    rw [h d List.mem_cons_self, ih fun x hx => h x (List.mem_cons_of_mem _ hx)]
    rfl
theorem all_shows {ds : List PyData} (h : ∀ d ∈ ds, d.showable = true) : PyData.showableAll ds = true := by
  induction ds with
  | nil => rfl
  | cons d ds ih =>
    show (d.showable && PyData.showableAll ds) = true
    rw [h d List.mem_cons_self, ih fun x hx => h x (List.mem_cons_of_mem _ hx)]
    rfl
theorem all_deep {ds : List PyData} {k : Nat} (h : ∀ d ∈ ds, d.depth ≤ k) : PyData.depthAll ds ≤ k := by
  induction ds with
  | nil => exact Nat.zero_le _
  | cons d ds ih =>
    show max d.depth (PyData.depthAll ds) ≤ k
    exact Nat.max_le.mpr ⟨h d List.mem_cons_self, ih fun x hx => h x (List.mem_cons_of_mem _ hx)⟩
theorem Good.list {ds : List PyData} {k n m : Nat} (h : ∀ d ∈ ds, Good d k n) (l : ds.length ≤ m) : Good (.list ds) (k + 1) (2 + m * (n + 2)) := by
  refine ⟨all_lay fun d hd => (h d hd).lay, all_shows fun d hd => (h d hd).shows, Nat.succ_le_succ (all_deep fun d hd => (h d hd).deep), ?_⟩
  show (listText (PyData.shownAll ds)).length ≤ _
  have h1 := listText_le (PyData.shownAll ds)
  have h2 := piled_le fun d hd => (h d hd).len
  have h3 := Nat.mul_le_mul_right (n + 2) l
  omega
theorem Good.tuple {ds : List PyData} {k n m : Nat} (h : ∀ d ∈ ds, Good d k n) (l : ds.length ≤ m) : Good (.tuple ds) (k + 1) (3 + m * (n + 2)) := by
  refine ⟨all_lay fun d hd => (h d hd).lay, all_shows fun d hd => (h d hd).shows, Nat.succ_le_succ (all_deep fun d hd => (h d hd).deep), ?_⟩
  show (tupleText (PyData.shownAll ds)).length ≤ _
  have h1 := tupleText_le (PyData.shownAll ds)
  have h2 := piled_le fun d hd => (h d hd).len
  have h3 := Nat.mul_le_mul_right (n + 2) l
  omega
theorem Good.shaped {d : PyData} {k n : Nat} (g : Good d k n) (h : k ≤ 60) : SeqAt.shaped d = true := by
  unfold SeqAt.shaped
  rw [g.lay, decide_eq_true (Nat.le_trans g.deep (Nat.le_trans h (by decide)))]
  rfl
theorem Good.noDict {d : PyData} {k n : Nat} (g : Good d k n) : d.hasDict = false := PyData.hasDict_of_canLay d g.lay
theorem Good.self {d : PyData} {k n : Nat} (g : Good d k n) : PyData.eqv d d = true := SeqAt.eqv_refl d g.lay

/-! labels and names -/
structure Lab (x : Str) : Prop where
  ok : PyData.strOk x = true
  few : x.length ≤ 20
abbrev Labs (l : List Str) : Prop := ∀ x ∈ l, Lab x
def nameD (l : List Str) : PyData := .tuple (l.map PyData.str)
theorem good_name {l : List Str} (h : Labs l) (n : l.length ≤ 100) : Good (nameD l) 1 20500 := by
  have g : ∀ d ∈ l.map PyData.str, Good d 0 202 := fun d hd => by
    obtain ⟨x, hx, rfl⟩ := List.mem_map.mp hd
    exact Good.str (h x hx).ok (h x hx).few
  exact (Good.tuple g (m := 100) (by rw [List.length_map]; exact n)).mono (Nat.le_refl _) (by decide)
theorem good_names {ls : List (List Str)} (h : ∀ l ∈ ls, Labs l ∧ l.length ≤ 100) (n : ls.length ≤ 100) : Good (.list (ls.map nameD)) 2 2100000 := by
  have g : ∀ d ∈ ls.map nameD, Good d 1 20500 := fun d hd => by
    obtain ⟨x, hx, rfl⟩ := List.mem_map.mp hd
    exact good_name (h x hx).1 (h x hx).2
  exact (Good.list g (m := 100) (by rw [List.length_map]; exact n)).mono (Nat.le_refl _) (by decide)
theorem good_bools {bs : List Bool} (n : bs.length ≤ 1000) : Good (.list (bs.map PyData.bool)) 1 7002 := by
  have g : ∀ d ∈ bs.map PyData.bool, Good d 0 5 := fun d hd => by
    obtain ⟨x, _, rfl⟩ := List.mem_map.mp hd
    exact Good.bool x
  exact (Good.list g (m := 1000) (by rw [List.length_map]; exact n)).mono (Nat.le_refl _) (by decide)
theorem Labs.take {l : List Str} (h : Labs l) (n : Nat) : Labs (l.take n) := fun x hx => h x (List.mem_of_mem_take hx)
theorem Labs.drop {l : List Str} (h : Labs l) (n : Nat) : Labs (l.drop n) := fun x hx => h x (List.mem_of_mem_drop hx)
theorem Labs.append {l m : List Str} (h : Labs l) (g : Labs m) : Labs (l ++ m) := fun x hx => (List.mem_append.mp hx).elim (h x) (g x)
theorem Labs.cons {x : Str} {l : List Str} (h : Lab x) (g : Labs l) : Labs (x :: l) := fun y hy => (List.mem_cons.mp hy).elim (fun e => e ▸ h) (g y)
theorem Labs.nil : Labs [] := fun _ h => absurd h List.not_mem_nil

section
variable {K : PySem.W.Frag} {H H' : Hp}
theorem same_rd {a : Addr} {o : HO} (s : Same H H') (h : Rd H a o) : Rd H' a o := h.elim (fun e => .inl (s _ _ e)) fun ⟨u, e⟩ => .inr ⟨u, s _ _ e⟩
theorem same_seqT {a : Addr} {xs : List V} (s : Same H H') (h : SqT K H a xs) : SqT K H' a xs := h.elim (fun e => .inl (same_rd s e)) .inr
mutual
theorem dp_same (s : Same H H') : ∀ {d : PyData} {v : V}, Dp K H v d → Dp K H' v d
  | _, _, .non => .non
  | _, _, .bl b => .bl b
  | _, _, .int i => .int i
  | _, _, .str x => .str x
  | _, _, .lst q r => .lst (Same.seq s q) (dpa_same s r)
  | _, _, .tup q r => .tup (same_seqT s q) (dpa_same s r)
theorem dpa_same (s : Same H H') : ∀ {ds : List PyData} {vs : List V}, DpAll K H vs ds → DpAll K H' vs ds
  | _, _, .nil => .nil
  | _, _, .cons q r => .cons (dp_same s q) (dpa_same s r)
end
theorem dpa_append : ∀ {vs ws : List V} {ds es : List PyData}, DpAll K H vs ds → DpAll K H ws es → DpAll K H (vs ++ ws) (ds ++ es)
  | _, _, _, _, .nil, g => g
  | _, _, _, _, .cons q r, g => .cons q (dpa_append r g)
theorem dpa_len : ∀ {vs : List V} {ds : List PyData}, DpAll K H vs ds → vs.length = ds.length
  | _, _, .nil => rfl
  | _, _, .cons _ r => congrArg Nat.succ (dpa_len r)
theorem dpa_snoc {vs : List V} {ds : List PyData} {v : V} {d : PyData} (h : DpAll K H vs ds) (g : Dp K H v d) : DpAll K H (vs ++ [v]) (ds ++ [d]) := dpa_append h (.cons g .nil)
theorem dp_strs : ∀ l : List Str, DpAll K H (l.map V.str) (l.map PyData.str)
  | [] => .nil
  | x :: l => .cons (.str x) (dp_strs l)
theorem dp_bools : ∀ l : List Bool, DpAll K H (l.map V.bl) (l.map PyData.bool)
  | [] => .nil
  | x :: l => .cons (.bl x) (dp_bools l)
/-- the name l stands at a -/
abbrev Nm (K : PySem.W.Frag) (H : Hp) (a : Addr) (l : List Str) : Prop := SqT K H a (l.map V.str)
theorem nm_dp {a : Addr} {l : List Str} (h : Nm K H a l) : Dp K H (.ref a) (nameD l) := .tup h (dp_strs l)
theorem Drew.nm {b bc a : Addr} {l : List Str} (s : Drew b bc H H') (hb : ∃ xs, H b = some (.lst xs)) (h : Nm K H a l) : Nm K H' a l := by
  obtain ⟨xs, hb⟩ := hb
  rcases h with (h | ⟨o, h⟩) | h
  · exact .inl (.inl (s.keep a _ (ne_of h hb (by intro z; cases z)) h))
  · exact .inl (.inr ⟨o, s.keep a _ (ne_of h hb (by intro z; cases z)) h⟩)
  · exact .inr h
theorem Bag.lst {b bc : Addr} (h : Bag b bc H) : ∃ xs, H b = some (.lst xs) := by
  obtain ⟨_, _, _, _, _, h, _⟩ := h
  exact ⟨_, h⟩
end

/-- a def of the text, by its name -/
structure Df (K : PySem.W.Frag) (mg : Str → Option Value) (x : Str) (st : Stmt) (ps : List Str) (f : Addr) (fd : FuncData) : Prop where
  F : Fun K x x st f fd
  g : mg x = some (.ref f)
  b : Binds K fd ps []
section
variable {X : Cx} {k : Nat} {f : Addr} {fd : FuncData} {ps : List Str} {sp : Sp} {x : Str} {st : Stmt} {p pos : Pos} {e : Expr} {es : List Expr} {t : TA}
theorem pcall (D : Df X.K X.mg x st ps f fd) (G : FnOk X.prog X.w X.K X.mg X.base CX0 k f fd ps sp) (hr : Room k X.A) (ha : PA X (e :: es) t) (hg : Gl X x := by rfl) (hdb : (x == ("__debug__" : Str)) = false := by decide)
    (he : starEach (e :: es) X.env = (false, eval e X.env) :: starEach es X.env := by rfl) (hpl : (backTo pos (starEach es X.env)).any (·.1) = false := by rfl) : PE X (.Call (.Name x p) (e :: es) [] pos) (tCall sp [] E0 t) :=
  pe_call G hr hg D.g D.F.kp D.b .nil pass0 ha hdb he hpl
theorem qcall (D : Df X.K X.mg x st ps f fd) (G : FnQ X.prog X.w X.K X.mg X.base k f fd ps sp) (q : Quiet X.A) (hr : Room k X.A) (ha : PA X (e :: es) t) (hg : Gl X x := by rfl) (hdb : (x == ("__debug__" : Str)) = false := by decide)
    (he : starEach (e :: es) X.env = (false, eval e X.env) :: starEach es X.env := by rfl) (hpl : (backTo pos (starEach es X.env)).any (·.1) = false := by rfl) : PE X (.Call (.Name x p) (e :: es) [] pos) (tCall sp [] E0 t) :=
  callQ G q hr hg D.g D.F.kp D.b ha hdb he hpl
end
/-- two things with the same data are alike -/
def spAlike (K : PySem.W.Frag) : Sp := fun vs H Q _ => ∃ (x y : V) (d : PyData) (k n : Nat), vs = [x, y] ∧ Dp K H x d ∧ Dp K H y d ∧ Good d k n ∧ k ≤ 60 ∧ n ≤ sizeLine ∧ Q (.bl true) H
end LN
namespace LN
open PySem PySem.Spec PyProof.Rows L2
section
variable {K : PySem.W.Frag} {H H' : Hp}
theorem drew_seq {b bc l : Addr} {xs : List V} (s : Drew b bc H H') (n : l ≠ b) (h : SqL K H l xs) : SqL K H' l xs := by
  rcases h with (h | ⟨o, h⟩) | h
  · exact .inl (.inl (s.keep l _ n h))
  · exact .inl (.inr ⟨o, s.keep l _ n h⟩)
  · exact .inr h
end
def spPick (K : PySem.W.Frag) : Sp := fun vs H Q _ => ∃ (b bc l : Addr) (xs : List V), vs = [.ref b, .ref l] ∧ Bag b bc H ∧ l ≠ b ∧ SqL K H l xs ∧ 1 ≤ xs.length ∧ xs.length ≤ 1000 ∧ ∀ H' (i : Nat) v, Drew b bc H H' → xs[i]? = some v → Q v H'
def spUnder (K : PySem.W.Frag) : Sp := fun vs H Q _ => ∃ (a c : Addr) (n t : List Str), vs = [.ref a, .ref c] ∧ Nm K H a n ∧ Nm K H c t ∧ Labs n ∧ Labs t ∧ n.length ≤ 100 ∧ t.length ≤ 100 ∧ ∀ H', Same H H' → Q (.bl (decide (t <:+ n))) H'
def spBeneath (K : PySem.W.Frag) : Sp := fun vs H Q _ => ∃ (a c : Addr) (n t : List Str), vs = [.ref a, .ref c] ∧ Nm K H a n ∧ Nm K H c t ∧ Labs n ∧ Labs t ∧ n.length ≤ 100 ∧ t.length ≤ 100 ∧ ∀ H', Same H H' → Q (.bl (decide (t.length < n.length ∧ t <:+ n))) H'
def tails (n : List Str) : List (List Str) := (List.range (n.length + 1)).map fun k => n.drop k
def spTops (K : PySem.W.Frag) : Sp := fun vs H Q _ => ∃ (a : Addr) (n : List Str), vs = [.ref a] ∧ Nm K H a n ∧ Labs n ∧ n.length ≤ 100 ∧ ∀ H' p vs, Same H H' → H p = none → H' p = some (.lst vs) → DpAll K H' vs ((tails n).map nameD) → Q (.ref p) H'
theorem eqv_str (x y : Str) : PyData.eqv (.str x) (.str y) = decide (x = y) := by
  show (x == y) = decide (x = y)
  by_cases h : x = y
  · subst h
    simp
  · simp [h]
theorem eqv_strs : ∀ (a b : List Str), PyData.eqvAll (a.map PyData.str) (b.map PyData.str) = decide (a = b)
  | [], [] => rfl
  | [], _ :: _ => rfl
  | _ :: _, [] => rfl
  | x :: a, y :: b => by
    show (PyData.eqv (.str x) (.str y) && PyData.eqvAll (a.map PyData.str) (b.map PyData.str)) = _
    rw [eqv_str, eqv_strs a b]
    by_cases h : x = y
    · by_cases g : a = b <;> simp [h, g]
    · simp [h]
theorem eqv_name (a b : List Str) : PyData.eqv (nameD a) (nameD b) = decide (a = b) := eqv_strs a b
end LN
namespace LN
open PySem PySem.Spec PyProof.Rows L2
section
variable {K : PySem.W.Frag} {H H' : Hp}
/-! data without lists: what the change of a list does not touch -/
mutual
def noLst : PyData → Bool
  | .list _ => false
  | .tuple xs => noLsts xs
  | _ => true
def noLsts : List PyData → Bool
  | [] => true
  | d :: ds => noLst d && noLsts ds
end
mutual
theorem dp_put {D : Addr} {ys zs : List V} (e : H D = some (.lst ys)) : ∀ {d : PyData} {v : V}, Dp K H v d → noLst d = true → Dp K (upd H D (.lst zs)) v d
  | _, _, .non, _ => .non
  | _, _, .bl b, _ => .bl b
  | _, _, .int i, _ => .int i
  | _, _, .str x, _ => .str x
  | _, _, .lst q r, h => absurd h (by simp [noLst])
  | _, _, .tup q r, h => by
    refine .tup ?_ (dpa_put e r (by simpa [noLst] using h))
    rcases q with (q | ⟨o, q⟩) | q
    · exact .inl (.inl (by rw [upd_ne (ne_of q e (by intro z; cases z))]; exact q))
    · exact .inl (.inr ⟨o, by rw [upd_ne (ne_of q e (by intro z; cases z))]; exact q⟩)
    · exact .inr q
theorem dpa_put {D : Addr} {ys zs : List V} (e : H D = some (.lst ys)) : ∀ {ds : List PyData} {vs : List V}, DpAll K H vs ds → noLsts ds = true → DpAll K (upd H D (.lst zs)) vs ds
  | _, _, .nil, _ => .nil
  | _, _, .cons q r, h => by
    have h' : (noLst _ && noLsts _) = true := h
    rw [Bool.and_eq_true] at h'
    exact .cons (dp_put e q h'.1) (dpa_put e r h'.2)
end
theorem strs_noLst : ∀ l : List Str, noLsts (l.map PyData.str) = true
  | [] => rfl
  | x :: l => strs_noLst l
theorem names_noLst : ∀ ls : List (List Str), noLsts (ls.map nameD) = true
  | [] => rfl
  | l :: ls => by
    show (noLsts (l.map PyData.str) && noLsts (ls.map nameD)) = true
    rw [strs_noLst, names_noLst ls]
    rfl
end
end LN
namespace LN
open PySem PySem.Spec PyProof.Rows L2
theorem strOk_cat {x y : Str} (h : PyData.strOk x = true) (g : PyData.strOk y = true) : PyData.strOk (x ++ y) = true := by
  have h' : x.cps.all (· < 0x110000) = true := h
  have g' : y.cps.all (· < 0x110000) = true := g
  show (x.cps ++ y.cps).all (· < 0x110000) = true
  rw [Array.all_append, h', g']
  rfl
theorem mulOk0 (x : Str) : MulOk x 0 := ⟨by decide, fun h => absurd (by decide) h, fun h => absurd (by decide) h⟩
theorem mulOk1 (x : Str) : MulOk x 1 := ⟨by decide, fun _ h => absurd h (by simp), fun _ h => absurd h (by simp)⟩
theorem mul_0 (x : Str) : Txt.mul x 0 = Str.empty := rfl
theorem mul_1 (x : Str) : Txt.mul x 1 = x := rfl
theorem mul_few {x : Str} {k : Int} (h0 : 0 ≤ k) (h2 : k < 2) : MulOk x k ∧ (Txt.mul x k = Str.empty ∨ Txt.mul x k = x) := by
  have : k = 0 ∨ k = 1 := by omega
  rcases this with rfl | rfl
  · exact ⟨mulOk0 x, .inl rfl⟩
  · exact ⟨mulOk1 x, .inr rfl⟩
def stems : List Str := ["", "a", "zzzzzzz", "aaaaaaa"]
theorem stem_ok : ∀ x ∈ stems, PyData.strOk x = true ∧ x.length ≤ 7 := by decide +kernel
def letters : Str := "abcdefghijklmnopqrstuvwxyz"
theorem letters_at {i : Nat} (h : i < 26) : ∃ c, letters.cps[i]? = some c ∧ c < 0x110000 := by
  have all : ∀ j, j < 26 → ((letters.cps[j]?).elim false fun c => decide (c < 0x110000)) = true := by decide +kernel
  have := all i h
  cases e : letters.cps[i]? with
  | none => rw [e] at this; cases this
  | some c => rw [e] at this; exact ⟨c, rfl, of_decide_eq_true this⟩
theorem strOk_one {c : Nat} (h : c < 0x110000) : PyData.strOk ⟨#[c]⟩ = true := by
  show (#[c] : Array Nat).all (· < 0x110000) = true
  simp [h]
def spLabels : Sp := fun vs H Q _ => ∃ (b bc : Addr) (n : Nat), vs = [.ref b, .int n] ∧ Bag b bc H ∧ n ≤ 100 ∧
  ∀ H' p (ls : List Str), Drew b bc H H' → H p = none → H' p = some (.lst (ls.map V.str)) → Labs ls → (∀ x ∈ ls, x.length ≤ 10) → ls.length = n → Q (.ref p) H'
theorem bag_put {b bc D : Addr} {H : Hp} {o : HO} (h : Bag b bc H) (n : D ≠ b) (n2 : D ≠ bc) : Bag b bc (upd H D o) := by
  obtain ⟨x0, x1, x2, ns, h1, h2, h3, h4⟩ := h
  refine ⟨x0, x1, x2, ns, h1, by rw [upd_ne n.symm]; exact h2, by rw [upd_ne n2.symm]; exact h3, h4⟩
theorem Bag.there {b bc : Addr} {H : Hp} (h : Bag b bc H) : H b ≠ none ∧ H bc ≠ none := by
  obtain ⟨x0, x1, x2, ns, h1, h2, h3, h4⟩ := h
  rw [h2, h3]
  exact ⟨Option.some_ne_none _, Option.some_ne_none _⟩
theorem Bag.apart {b bc D : Addr} {H : Hp} (h : Bag b bc H) (e : H D = none) : D ≠ b ∧ D ≠ bc := ⟨fun z => h.there.1 (z ▸ e), fun z => h.there.2 (z ▸ e)⟩
/-- a list that was made behind H is changed -/
theorem Drew.put {b bc D : Addr} {H G : Hp} {o : HO} (d : Drew b bc H G) (h : Bag b bc H) (e : H D = none) : Drew b bc H (upd G D o) := by
  have n := h.apart e
  refine ⟨bag_put d.bag n.1 n.2, fun a u ne q => ?_, fun a q z => ?_⟩
  · rw [upd_ne (ne_of_none q e)]
    exact d.keep a u ne q
  · by_cases ea : a = D
    · rw [ea] at q
      exact q e
    · rw [upd_ne ea] at z
      exact d.held a q z
end LN
namespace LN
open PySem PySem.Spec PyProof.Rows L2
def spWord (K : PySem.W.Frag) : Sp := fun vs H Q _ => ∃ (b bc l : Addr) (ls : List Str) (lo hi : Nat), vs = [.ref b, .ref l, .int lo, .int hi] ∧ Bag b bc H ∧ l ≠ b ∧ SqL K H l (ls.map V.str) ∧ Labs ls ∧ 1 ≤ ls.length ∧ ls.length ≤ 1000 ∧ lo ≤ hi ∧ hi ≤ 90 ∧
  ∀ H' p nm, Drew b bc H H' → Nm K H' p nm → Labs nm → lo ≤ nm.length → nm.length ≤ hi → Q (.ref p) H'
def spMore (K : PySem.W.Frag) : Sp := fun vs H Q _ => ∃ (b bc l : Addr) (ls : List Str), vs = [.ref b, .ref l] ∧ Bag b bc H ∧ l ≠ b ∧ H l = some (.lst (ls.map V.str)) ∧ Labs ls ∧ (∀ x ∈ ls, x.length ≤ 10) ∧ 1 ≤ ls.length ∧ ls.length ≤ 100 ∧
  ∀ H' p ms, Drew b bc H H' → H p = none → H' p = some (.lst (ms.map V.str)) → Labs ms → 1 ≤ ms.length → ms.length ≤ 101 → Q (.ref p) H'
def spNear (K : PySem.W.Frag) : Sp := fun vs H Q _ => ∃ (b bc l a : Addr) (ls nm : List Str), vs = [.ref b, .ref l, .ref a] ∧ Bag b bc H ∧ l ≠ b ∧ SqL K H l (ls.map V.str) ∧ Labs ls ∧ 1 ≤ ls.length ∧ ls.length ≤ 1000 ∧ Nm K H a nm ∧ Labs nm ∧ nm.length ≤ 90 ∧
  ∀ H' p rs, Drew b bc H H' → Nm K H' p rs → Labs rs → rs.length ≤ nm.length + 1 → Q (.ref p) H'
def spRight (K : PySem.W.Frag) : Sp := fun vs H Q _ => ∃ (a c : Addr) (n t : List Str), vs = [.ref a, .ref c] ∧ Nm K H a n ∧ Nm K H c t ∧ Labs n ∧ Labs t ∧ n.length ≤ 49 ∧ t.length ≤ 49 ∧ ∀ H', Same H H' → Q (.bl true) H'
end LN
namespace LN
open PySem PySem.Spec PyProof.Rows L2
section
variable {X : Cx}
/-- t[lo:hi], the whole and any other part alike -/
def rSlD (K : PySem.W.Frag) : V → Option Int → Option Int → Hp → VK → Prop := fun x lo hi H Q => ∃ a xs, x = .ref a ∧ SqT K H a xs ∧ ∀ p H', Same H H' → SqT K H' p (cutV xs lo hi) → Q (.ref p) H'
theorem sl_tupD : SlR X (rSlD X.K) := by
  intro pins s σ H x v vl vu lo hi sl Q inv rx hs pl pu want
  obtain ⟨a, xs, rfl, hx, q⟩ := want
  refine sl_tupA pins s σ H _ v vl vu lo hi sl Q inv rx hs pl pu ⟨a, xs, rfl, hx, fun hw => q a H (Same.refl H) ?_, fun _ p np => q p _ (same_put np) (.inl (.inl upd_same))⟩
  have e : cutV xs lo hi = xs := by
    unfold cutV
    rw [hw.1, hw.2]
    simp
  rw [e]
  exact hx
/-- t + u, empty ones too -/
def rCatD (K : PySem.W.Frag) : R2 := fun x y H Q => ∃ a b xs ys, x = .ref a ∧ y = .ref b ∧ SqT K H a xs ∧ SqT K H b ys ∧ xs.length + ys.length ≤ sizeLine ∧ ∀ p H', Same H H' → SqT K H' p (xs ++ ys) → Q (.ref p) H'
theorem op_catD : OpR X (binaryOp .Add) (rCatD X.K) := by
  intro pins s σ H x y v u Q inv rx ry want
  obtain ⟨a, b, xs, ys, rfl, rfl, ha, hb, hz, q⟩ := want
  refine op_catA pins s σ H _ _ v u Q inv rx ry ⟨a, b, xs, ys, rfl, rfl, ha, hb, hz, fun e => q b H (Same.refl H) ?_, fun _ e => q a H (Same.refl H) ?_, fun _ _ p np => q p _ (same_put np) (.inl (.inl upd_same))⟩
  · rw [e]
    exact hb
  · rw [e, List.append_nil]
    exact ha
end
theorem cut_to {xs : List V} {k : Nat} : cutV xs none (some (k : Int)) = xs.take k := by
  unfold cutV
  rw [HT.sIx_none, HT.sIx_nat, List.drop_zero]
  by_cases h : k ≤ xs.length
  · rw [Nat.min_eq_left h, Nat.sub_zero]
  · rw [Nat.min_eq_right (by omega), Nat.sub_zero, List.take_length, List.take_of_length_le (by omega)]
theorem cut_from {xs : List V} {k : Nat} : cutV xs (some (k : Int)) none = xs.drop k := by
  unfold cutV
  rw [HT.sIx_none, HT.sIx_nat]
  by_cases h : k ≤ xs.length
  · rw [Nat.min_eq_left h]
    exact List.take_of_length_le (by simp)
  · rw [Nat.min_eq_right (by omega), List.drop_length, List.drop_of_length_le (by omega), List.take_nil]
end LN
namespace LN
open PySem PySem.Spec PyProof.Rows L2
section
variable {K : PySem.W.Frag} {H H' : Hp}
theorem dpa_strs : ∀ {l : List Str} {vs : List V}, DpAll K H vs (l.map PyData.str) → vs = l.map V.str
  | [], _, .nil => rfl
  | x :: l, _, .cons q r => by
    have e := dpa_strs (l := l) r
    cases q
    rw [e]
    rfl
theorem dp_nm {v : V} {l : List Str} (h : Dp K H v (nameD l)) : ∃ a, v = .ref a ∧ Nm K H a l := by
  have h' : Dp K H v (.tuple (l.map PyData.str)) := h
  cases h' with
  | tup q r =>
    have e := dpa_strs r
    rw [e] at q
    exact ⟨_, rfl, q⟩
theorem dpa_get : ∀ {vs : List V} {ds : List PyData} {i : Nat} {v : V}, DpAll K H vs ds → vs[i]? = some v → ∃ d, ds[i]? = some d ∧ Dp K H v d
  | _, _, _, _, .nil, e => by simp at e
  | _, _, 0, _, .cons q r, e => by
    have e' := Option.some.inj e
    exact ⟨_, rfl, e' ▸ q⟩
  | _, _, i + 1, _, .cons q r, e => by
    obtain ⟨d, h1, h2⟩ := dpa_get (i := i) r (by simpa using e)
    exact ⟨d, by simpa using h1, h2⟩
end
def heads (n : List Str) (i : Nat) : List (List Str) := (List.range i).map fun k => n.take k
def fits (n t : List Str) (i : Nat) : List (List Str) := (heads n i).filter fun h => decide (h ++ t = n)
theorem one_fit (n t h : List Str) : [h].filter (fun h => decide (h ++ t = n)) = if h ++ t = n then [h] else [] := by
  by_cases y : h ++ t = n
  · rw [if_pos y]
    simp [y]
  · rw [if_neg y]
    simp [y]
theorem range_only (c : Nat) : ∀ m, (List.range m).filter (fun k => decide (k = c)) = if c < m then [c] else []
  | 0 => rfl
  | m + 1 => by
    rw [List.range_succ, List.filter_append, range_only c m]
    by_cases h : c < m
    · rw [if_pos h, if_pos (by omega), List.filter_cons_of_neg (by simp; omega)]
      rfl
    · rw [if_neg h]
      by_cases e : m = c
      · subst e
        rw [if_pos (by omega), List.filter_cons_of_pos (by simp)]
        rfl
      · rw [if_neg (by omega), List.filter_cons_of_neg (by simp; exact e)]
        rfl
theorem take_fits {n t : List Str} {k : Nat} (h : k ≤ n.length) : n.take k ++ t = n ↔ t <:+ n ∧ k = n.length - t.length := by
  constructor
  · intro e
    have l := congrArg List.length e
    rw [List.length_append, List.length_take, Nat.min_eq_left h] at l
    exact ⟨⟨_, e⟩, by omega⟩
  · rintro ⟨⟨z, rfl⟩, rfl⟩
    have e : (z ++ t).length - t.length = z.length := by rw [List.length_append]; omega
    rw [e, List.take_left]
theorem fits_all {n t : List Str} : fits n t (n.length + 1) = if t <:+ n then [n.take (n.length - t.length)] else [] := by
  have e : fits n t (n.length + 1) = ((List.range (n.length + 1)).filter fun k => decide (t <:+ n ∧ k = n.length - t.length)).map fun k => n.take k := by
    unfold fits heads
    rw [List.filter_map]
    congr 1
    apply List.filter_congr
    intro k hk
    have := List.mem_range.mp hk
    exact decide_eq_decide.mpr (take_fits (by omega))
  rw [e]
  by_cases s : t <:+ n
  · rw [if_pos s]
    have e2 : (fun k => decide (t <:+ n ∧ k = n.length - t.length)) = fun k => decide (k = n.length - t.length) := by
      funext k
      exact decide_eq_decide.mpr ⟨fun z => z.2, fun z => ⟨s, z⟩⟩
    rw [e2, range_only, if_pos (by omega)]
    rfl
  · rw [if_neg s]
    have e2 : (fun k => decide (t <:+ n ∧ k = n.length - t.length)) = fun _ => false := by
      funext k
      exact decide_eq_false fun z => s z.1
    rw [e2, List.filter_eq_nil_iff.mpr (fun _ _ => Bool.false_ne_true)]
    rfl
end LN
namespace LN
open PySem PySem.Spec PyProof.Rows L2
/-- a tuple of two names -/
def Two (K : PySem.W.Frag) (H : Hp) (x : V) : Prop := ∃ (t u v : Addr) (n m : List Str), x = .ref t ∧ H t = some (.tup [.ref u, .ref v]) ∧ Nm K H u n ∧ Nm K H v m ∧ Labs n ∧ Labs m ∧ n.length ≤ 49 ∧ m.length ≤ 49
theorem Two.same {K : PySem.W.Frag} {H H' : Hp} {x : V} (h : Two K H x) (s : Same H H') : Two K H' x := by
  obtain ⟨t, u, v, n, m, e, h1, h2, h3, h4⟩ := h
  exact ⟨t, u, v, n, m, e, s _ _ h1, same_seqT s h2, same_seqT s h3, h4⟩
theorem good_tails {n : List Str} (h : Labs n) (k : n.length ≤ 90) : Good (.list ((tails n).map nameD)) 2 2100000 := by
  refine good_names (fun l hl => ?_) ?_
  · obtain ⟨i, _, rfl⟩ := List.mem_map.mp hl
    exact ⟨h.drop i, by rw [List.length_drop]; omega⟩
  · unfold tails
    rw [List.length_map, List.length_range]
    omega
end LN

namespace LN
open PySem PySem.Spec PyProof.Rows L2
set_option maxHeartbeats 4000000 in
theorem tuple_mul_same (l : Addr) (items : Array Value) (n : Nat) (dd : Option Addr) (sl : Array (Option Value)) (u : Tok) :
    Meets (Builtin.«tuple.__mul__» ⟨[.ref l, .int 1 u], []⟩) (fun _ R s => s.heap.get? l = some { cls := .type "tuple", dict := dd, data := .seq items n, slots := sl } ∧ R (.ok (.ret (.ref l))) s) :=
  .of_wp fun prog w A R s h => by
    obtain ⟨hp, g, d, tk, os⟩ := s
    obtain ⟨hl, h⟩ := h
    have f1 := AutoSeq1.idx_int
    wp_walk using wpAny_loadPart' hl
    exact ⟨_, rfl, h⟩
section
variable {X : Cx}
/-- t * k, k from 1 on -/
def rRepD (K : PySem.W.Frag) : R2 := fun x y H Q => ∃ l k xs, x = .ref l ∧ y = .int k ∧ SqT K H l xs ∧ xs ≠ [] ∧ 1 ≤ k ∧ k ≤ 1000 ∧ xs.length ≤ 1000 ∧ ∀ p H', Same H H' → SqT K H' p (List.replicate k.toNat xs).flatten → Q (.ref p) H'
theorem op_repD : OpR X (binaryOp .Mult) (rRepD X.K) := by
  intro pins s σ H x y v u Q inv rx ry want
  obtain ⟨l, k, xs, rfl, rfl, hT, ne, h1, h2, hz, q⟩ := want
  by_cases one : k = 1
  · subst one
    cases rx
    obtain ⟨t, rfl⟩ := ry
    obtain ⟨its, r, ⟨⟨cls, dd, data, sl⟩, ho, hc, n, hd⟩, hs⟩ := inv.tuple hT
    simp only at hc hd
    subst hc hd
    refine wpAny_binaryOp_repeat_ref (T := "tuple") (U := "int") (by decide) ⟨_, ho, rfl⟩ (fun s' => typeIs_int s' 1 t) noFill_tuple_mul F.fills_int_mul F.slot_int_rmul repeat_tuple F.slot_int_index.lookup
      (call_meets F.slot_int_rmul (typeIs_int s 1 t) F.entry_int_rmul (F.args_int_rmul_2 _ _) (int_rmul_tuple 1 t l its.toArray n dd sl)
        ⟨ho, rfl, ⟨_, ho, rfl⟩, call_meets F.slot_tuple_mul ⟨_, ho, rfl⟩ F.entry_tuple_mul (F.args_tuple_mul_2 _ _) (tuple_mul_same l its.toArray n dd sl t) ⟨ho, ?_⟩⟩)
    refine ⟨.ref l, H, inv, rfl, q l H (Same.refl H) ?_⟩
    have e : (List.replicate (1 : Int).toNat xs).flatten = xs := by
      show (List.replicate 1 xs).flatten = xs
      simp
    rw [e]
    exact hT
  · exact op_repT pins s σ H _ _ v u Q inv rx ry ⟨l, k, xs, rfl, rfl, hT, ne, by omega, h2, hz, fun p np => q p _ (same_put np) (.inl (.inl upd_same))⟩
end
end LN
namespace LN
open PySem PySem.Spec PyProof.Rows L2
def rLenK (K : PySem.W.Frag) : List V → Hp → VK → Prop := fun xs H Q => ∃ p ys, xs = [.ref p] ∧ (SqL K H p ys ∨ SqT K H p ys) ∧ Q (.int ys.length) H
theorem call_lenK {X : Cx} : CallR X (.builtin "len") (rLenK X.K) := call_len_seq
end LN

namespace LN
open PySem PySem.Spec PyProof.Rows L2
/-! any value: data, an empty dict, an object of one own class -/
inductive Th where
  | d (x : PyData)
  | obj
def tyOf : PyData → String
  | .none => "NoneType"
  | .bool _ => "bool"
  | .int _ => "int"
  | .str _ => "str"
  | .list _ => "list"
  | .tuple _ => "tuple"
  | .dict _ => "dict"
/-- what is asked of the one own class -/
structure OwnTy (K : PySem.W.Frag) (C : Addr) : Prop where
  cl : Cls K C
  ha : PySem.W.findIn K (.ref C) "__class__" = some (some (.builtin "object.__class__"))
  hn : PySem.W.specialIn K (.builtin "object.__class__") "__get__" = some (some (.builtin "getset_descriptor.__get__"))
  htk : PySem.W.takesIn K (.builtin "object.__class__") = some true
  hm : PySem.W.mroIn K C (.type "object") = some true
  noInt : PySem.W.kitOne K (.ref C) (.type "int") = some false
  noStr : PySem.W.kitOne K (.ref C) (.type "str") = some false
  noTup : PySem.W.kitOne K (.ref C) (.type "tuple") = some false
inductive AnyT (K : PySem.W.Frag) (C : Addr) (H : Hp) : V → Th → Prop where
  | dp {x : V} {d : PyData} (h : Dp K H x d) : AnyT K C H x (.d d)
  | emp {a : Addr} (h : H a = some (.dK [])) : AnyT K C H (.ref a) (.d (.dict []))
  | obj {a dx : Addr} {fs : List (Str × V)} (h : H a = some (.ins C dx fs)) : AnyT K C H (.ref a) .obj
theorem AnyT.same {K : PySem.W.Frag} {C : Addr} {H H' : Hp} {x : V} {t : Th} (h : AnyT K C H x t) (s : Same H H') : AnyT K C H' x t := by
  cases h with
  | dp h => exact .dp (dp_same s h)
  | emp h => exact .emp (s _ _ h)
  | obj h => exact .obj (s _ _ h)
theorem dp_ty {K : PySem.W.Frag} {H : Hp} {x : V} {d : PyData} (h : Dp K H x d) : TyX K H x (.type (tyOf d)) := by
  cases h with
  | non => exact .base .non
  | bl b => exact .base (.bl b)
  | int i => exact .base (.int i)
  | str z => exact .base (.str z)
  | lst q r =>
    rcases q with (q | ⟨o, q⟩) | ⟨o, its, n, q, c, _⟩
    · exact .base (.lst q)
    · exact .base (.frz q)
    · exact .kList q c
  | tup q r =>
    rcases q with (q | ⟨o, q⟩) | ⟨o, its, n, q, c, _⟩
    · exact .base (.tup q)
    · exact .fTuple q
    · exact .kTuple q c
def gInt : Th → Bool
  | .d (.int _) | .d (.bool _) => true
  | _ => false
def gBool : Th → Bool
  | .d (.bool _) => true
  | _ => false
def gStr : Th → Bool
  | .d (.str _) => true
  | _ => false
def gTup : Th → Bool
  | .d (.tuple _) => true
  | _ => false
def rIsK (K : PySem.W.Frag) (C : Addr) (T : String) (g : Th → Bool) : List V → Hp → VK → Prop := fun xs H Q => ∃ (x : V) (t : Th), xs = [x, .ty T] ∧ AnyT K C H x t ∧ Q (.bl (g t)) H
theorem call_isK {X : Cx} {C : Addr} {T : String} {g : Th → Bool} (O : OwnTy X.K C) (hd : ∀ d, kitB (tyOf d) T = some (g (.d d))) (ho : PySem.W.kitOne X.K (.ref C) (.type T) = some (g .obj)) : CallR X (.builtin "isinstance") (rIsK X.K C T g) := by
  intro pins s σ H xs us Q inv rel want
  obtain ⟨x, t, rfl, any, q⟩ := want
  refine call_isi pins s σ H _ us Q inv rel ?_
  cases any with
  | dp h => exact ⟨x, .ty T, _, _, _, rfl, .ty T, dp_ty h, kit_ty (hd _), q⟩
  | emp h => exact ⟨_, .ty T, _, _, _, rfl, .ty T, .base (.dK h), kit_ty (hd (.dict [])), q⟩
  | obj h => exact ⟨_, .ty T, _, _, _, rfl, .ty T, .base (.ins h O.cl O.ha O.hn O.htk O.hm), ho, q⟩
theorem kit_int : kitB "NoneType" "int" = some false ∧ kitB "bool" "int" = some true ∧ kitB "int" "int" = some true ∧ kitB "str" "int" = some false ∧ kitB "list" "int" = some false ∧ kitB "tuple" "int" = some false ∧ kitB "dict" "int" = some false := by decide +kernel
theorem kit_bool : kitB "NoneType" "bool" = some false ∧ kitB "bool" "bool" = some true ∧ kitB "int" "bool" = some false ∧ kitB "str" "bool" = some false ∧ kitB "list" "bool" = some false ∧ kitB "tuple" "bool" = some false ∧ kitB "dict" "bool" = some false := by decide +kernel
theorem kit_str : kitB "NoneType" "str" = some false ∧ kitB "bool" "str" = some false ∧ kitB "int" "str" = some false ∧ kitB "str" "str" = some true ∧ kitB "list" "str" = some false ∧ kitB "tuple" "str" = some false ∧ kitB "dict" "str" = some false := by decide +kernel
theorem kit_tuple : kitB "NoneType" "tuple" = some false ∧ kitB "bool" "tuple" = some false ∧ kitB "int" "tuple" = some false ∧ kitB "str" "tuple" = some false ∧ kitB "list" "tuple" = some false ∧ kitB "tuple" "tuple" = some true ∧ kitB "dict" "tuple" = some false := by decide +kernel
theorem call_isInt {X : Cx} {C : Addr} (O : OwnTy X.K C) : CallR X (.builtin "isinstance") (rIsK X.K C "int" gInt) := call_isK O (fun d => by obtain ⟨h1, h2, h3, h4, h5, h6, h7⟩ := kit_int; cases d <;> assumption) O.noInt
theorem call_isStr {X : Cx} {C : Addr} (O : OwnTy X.K C) : CallR X (.builtin "isinstance") (rIsK X.K C "str" gStr) := call_isK O (fun d => by obtain ⟨h1, h2, h3, h4, h5, h6, h7⟩ := kit_str; cases d <;> assumption) O.noStr
theorem call_isTup {X : Cx} {C : Addr} (O : OwnTy X.K C) : CallR X (.builtin "isinstance") (rIsK X.K C "tuple" gTup) := call_isK O (fun d => by obtain ⟨h1, h2, h3, h4, h5, h6, h7⟩ := kit_tuple; cases d <;> assumption) O.noTup
/-- whether a whole number is a truth: asked of whole numbers and truths alone -/
def rIsB (K : PySem.W.Frag) : List V → Hp → VK → Prop := fun xs H Q => ∃ (x : V) (d : PyData), xs = [x, .ty "bool"] ∧ Dp K H x d ∧ Q (.bl (gBool (.d d))) H
theorem call_isBool {X : Cx} : CallR X (.builtin "isinstance") (rIsB X.K) := by
  intro pins s σ H xs us Q inv rel want
  obtain ⟨x, d, rfl, h, q⟩ := want
  exact call_isi pins s σ H _ us Q inv rel ⟨x, .ty "bool", _, _, _, rfl, .ty "bool", dp_ty h, kit_ty (by obtain ⟨h1, h2, h3, h4, h5, h6, h7⟩ := kit_bool; cases d <;> assumption), q⟩
/-! the seven kinds -/
def signOk (c : Nat) : Bool := decide (97 ≤ c ∧ c ≤ 122)
def kLabel : PyData → Bool
  | .str x => decide (1 ≤ x.length ∧ x.length ≤ 8) && x.cps.toList.all signOk
  | _ => false
def kWhole : Th → Bool
  | .d (.int _) => true
  | _ => false
def tLabel : Th → Bool
  | .d d => kLabel d
  | _ => false
def tName : Th → Bool
  | .d (.tuple ds) => ds.all kLabel
  | _ => false
def tFull : Th → Bool
  | .d (.tuple ds) => ds.all kLabel && !ds.isEmpty
  | _ => false
def tRange (lo hi : Int) : Th → Bool
  | .d (.int i) => decide (lo ≤ i ∧ i ≤ hi)
  | _ => false
/-- data as the law makes it -/
def ShortT (t : Th) : Prop := ∀ y : Str, t = .d (.str y) → y.length ≤ 100
structure Fit (t : Th) : Prop where
  good : ∀ d, t = .d d → d = .dict [] ∨ Good d 5 sizeLine
  short : ShortT t
  parts : ∀ ds, t = .d (.tuple ds) → ds.length ≤ 1000 ∧ ∀ y : Str, PyData.str y ∈ ds → y.length ≤ 100
def spKind (K : PySem.W.Frag) (C : Addr) (p : Th → Prop) (g : Th → Bool) : Sp := fun vs H Q _ => ∃ (x : V) (t : Th), vs = [x] ∧ AnyT K C H x t ∧ p t ∧ ∀ H', Same H H' → Q (.bl (g t)) H'
def spNumber (K : PySem.W.Frag) (C : Addr) : Sp := fun vs H Q _ => ∃ (x : V) (t : Th) (m : Int), vs = [.int m, x] ∧ AnyT K C H x t ∧ ∀ H', Same H H' → Q (.bl (tRange 0 (m - 1) t)) H'
end LN
namespace LN
open PySem PySem.Spec PyProof.Rows L2
theorem sign_lo (c : Nat) : (!decide (([c] : List Nat) < [97])) = decide (97 ≤ c) := by
  by_cases h : c < 97
  · have a : ([c] : List Nat) < [97] := List.Lex.rel h
    rw [decide_eq_true a, decide_eq_false (by omega)]
    rfl
  · have a : ¬ ([c] : List Nat) < [97] := by
      intro z
      cases z with
      | rel z => exact h z
      | cons z => cases z
    rw [decide_eq_false a, decide_eq_true (by omega)]
    rfl
theorem sign_hi (c : Nat) : (!decide (([122] : List Nat) < [c])) = decide (c ≤ 122) := by
  by_cases h : 122 < c
  · have a : ([122] : List Nat) < [c] := List.Lex.rel h
    rw [decide_eq_true a, decide_eq_false (by omega)]
    rfl
  · have a : ¬ ([122] : List Nat) < [c] := by
      intro z
      cases z with
      | rel z => exact h z
      | cons z => cases z
    rw [decide_eq_false a, decide_eq_true (by omega)]
    rfl
theorem sign_both (c : Nat) : (if decide (97 ≤ c) = true then decide (c ≤ 122) else false) = signOk c := by
  unfold signOk
  by_cases h : 97 ≤ c
  · rw [decide_eq_true h, if_pos rfl]
    exact decide_eq_decide.mpr ⟨fun w => ⟨h, w⟩, fun w => w.2⟩
  · rw [decide_eq_false h, if_neg Bool.false_ne_true]
    exact (decide_eq_false fun w => h w.1).symm
theorem alpha_signs (c : Nat) : decide (c ∈ (Str.ofString "abcdefghijklmnopqrstuvwxyz").cps.toList) = signOk c := by
  have e : (Str.ofString "abcdefghijklmnopqrstuvwxyz").cps.toList = (List.range 26).map (· + 97) := by decide +kernel
  rw [e]
  unfold signOk
  refine decide_eq_decide.mpr ?_
  rw [List.mem_map]
  constructor
  · rintro ⟨k, hk, rfl⟩
    have := List.mem_range.mp hk
    omega
  · intro h
    exact ⟨c - 97, List.mem_range.mpr (by omega), by omega⟩
end LN
namespace LN
open PySem PySem.Spec PyProof.Rows L2
/-- a text of the law: at most ten signs -/
def spText : Sp := fun vs H Q _ => ∃ (b bc : Addr), vs = [.ref b] ∧ Bag b bc H ∧ ∀ H' (x : Str), Drew b bc H H' → Lab x → Q (.str x) H'
def pool : Str := "abcdefghijklmnopqrstuvwxyzA_1 -"
theorem pool_at {i : Nat} (h : i < 31) : ∃ c, pool.cps[i]? = some c ∧ c < 0x110000 := by
  have all : ∀ j, j < 31 → ((pool.cps[j]?).elim false fun c => decide (c < 0x110000)) = true := by decide +kernel
  have := all i h
  cases e : pool.cps[i]? with
  | none => rw [e] at this; cases this
  | some c => rw [e] at this; exact ⟨c, rfl, of_decide_eq_true this⟩
theorem join_ok : ∀ ys : List Str, (∀ y ∈ ys, PyData.strOk y = true ∧ y.length ≤ 1) → PyData.strOk (Str.join (Str.ofString "") ys) = true ∧ (Str.join (Str.ofString "") ys).length ≤ ys.length
  | [], _ => ⟨by decide +kernel, Nat.le_refl _⟩
  | [x], h => h x List.mem_cons_self
  | x :: y :: r, h => by
    have ih := join_ok (y :: r) fun z hz => h z (List.mem_cons_of_mem _ hz)
    have hx := h x List.mem_cons_self
    refine ⟨strOk_cat (strOk_cat hx.1 (by decide +kernel)) ih.1, ?_⟩
    show (x ++ Str.ofString "" ++ Str.join (Str.ofString "") (y :: r)).length ≤ _
    rw [strLen_append, strLen_append]
    have e0 : (Str.ofString "").length = 0 := rfl
    have := ih.2
    have := hx.2
    simp only [List.length_cons] at *
    omega
end LN
namespace LN
open PySem PySem.Spec PyProof.Rows L2
def LabT (t : Th) : Prop := ∀ y : Str, t = .d (.str y) → y.length ≤ 100 ∧ PyData.strOk y = true
theorem Fit.lab {t : Th} (f : Fit t) : LabT t := fun y e => by
  refine ⟨f.short y e, ?_⟩
  rcases f.good _ e with w | w
  · cases w
  · exact w.lay
theorem lay_mem {ds : List PyData} (h : PyData.canLayAll0 ds = true) : ∀ d ∈ ds, d.canLay0 = true := by
  induction ds with
  | nil => intro d hd; exact absurd hd List.not_mem_nil
  | cons e r ih =>
    have h' : (e.canLay0 && PyData.canLayAll0 r) = true := h
    rw [Bool.and_eq_true] at h'
    intro d hd
    rcases List.mem_cons.mp hd with rfl | hd
    · exact h'.1
    · exact ih h'.2 d hd
theorem deep_mem {ds : List PyData} {k : Nat} (h : PyData.depthAll ds ≤ k) : ∀ d ∈ ds, d.depth ≤ k := by
  induction ds with
  | nil => intro d hd; exact absurd hd List.not_mem_nil
  | cons e r ih =>
    have h' : max e.depth (PyData.depthAll r) ≤ k := h
    intro d hd
    rcases List.mem_cons.mp hd with rfl | hd
    · exact Nat.le_trans (Nat.le_max_left _ _) h'
    · exact ih (Nat.le_trans (Nat.le_max_right _ _) h') d hd
theorem shaped_list {ds : List PyData} {k : Nat} (h : ∀ d ∈ ds, d.canLay0 = true) (g : ∀ d ∈ ds, d.depth ≤ k) (hk : k ≤ 60) : SeqAt.shaped (.list ds) = true := by
  unfold SeqAt.shaped
  have a : (PyData.list ds).canLay0 = true := all_lay h
  have b : (PyData.list ds).depth ≤ k + 1 := Nat.succ_le_succ (all_deep g)
  rw [a, decide_eq_true (Nat.le_trans b (by omega))]
  rfl
theorem strOk_mem {y : Str} (h : PyData.strOk y = true) {c : Nat} (hc : c ∈ y.cps.toList) : c < 0x110000 :=
  of_decide_eq_true (Array.all_eq_true_iff_forall_mem.mp (show y.cps.all (· < 0x110000) = true from h) c (Array.mem_def.mpr hc))
theorem eqv_empty {xs : List PyData} : PyData.eqv (.list xs) (.list []) = decide (xs = []) := by
  cases xs with
  | nil => rfl
  | cons a b => rfl
def badSigns (y : Str) (i : Nat) : List Nat := (y.cps.toList.take i).filter fun c => !signOk c
theorem badSigns_nil (y : Str) : decide ((badSigns y y.cps.size).map (fun c => PyData.str ⟨#[c]⟩) = []) = y.cps.toList.all signOk := by
  unfold badSigns
  rw [List.take_of_length_le (by rw [Array.length_toList]; exact Nat.le_refl _)]
  cases h : y.cps.toList.all signOk with
  | true =>
    refine decide_eq_true (List.map_eq_nil_iff.mpr (List.filter_eq_nil_iff.mpr fun c hc => ?_))
    rw [List.all_eq_true.mp h c hc]
    decide
  | false =>
    refine decide_eq_false fun z => ?_
    have e := List.filter_eq_nil_iff.mp (List.map_eq_nil_iff.mp z)
    have : y.cps.toList.all signOk = true := List.all_eq_true.mpr fun c hc => by
      have := e c hc
      cases q : signOk c with
      | true => rfl
      | false => rw [q] at this; exact absurd rfl this
    rw [this] at h
    cases h
def badParts (ds : List PyData) (i : Nat) : List PyData := (ds.take i).filter fun d => !kLabel d
theorem badParts_nil (ds : List PyData) : decide (badParts ds ds.length = []) = ds.all kLabel := by
  unfold badParts
  rw [List.take_length]
  cases h : ds.all kLabel with
  | true =>
    refine decide_eq_true (List.filter_eq_nil_iff.mpr fun c hc => ?_)
    rw [List.all_eq_true.mp h c hc]
    decide
  | false =>
    refine decide_eq_false fun z => ?_
    have e := List.filter_eq_nil_iff.mp z
    have : ds.all kLabel = true := List.all_eq_true.mpr fun c hc => by
      have := e c hc
      cases q : kLabel c with
      | true => rfl
      | false => rw [q] at this; exact absurd rfl this
    rw [this] at h
    cases h
theorem filter_snoc {α : Type} (p : α → Bool) (l : List α) (i : Nat) (x : α) (h : l[i]? = some x) : (l.take (i + 1)).filter p = (l.take i).filter p ++ if p x = true then [x] else [] := by
  rw [List.take_add_one, h, List.filter_append]
  congr 1
  by_cases d : p x = true
  · rw [if_pos d]
    show List.filter p [x] = [x]
    rw [List.filter_cons, if_pos d]
    rfl
  · rw [if_neg d]
    show List.filter p [x] = []
    rw [List.filter_cons, if_neg d]
    rfl
def dueL (m : Int) (t : Th) : List Bool := [kWhole t, tLabel t, tName t, tFull t, tRange 0 999 t, tRange (-1000000) 1000000 t, tRange 0 (m - 1) t]
def spDue (K : PySem.W.Frag) (C : Addr) : Sp := fun vs H Q _ => ∃ (x : V) (t : Th) (m : Int), vs = [.int m, x] ∧ AnyT K C H x t ∧ Fit t ∧ ∀ H' p, Same H H' → H' p = some (.lst ((dueL m t).map V.bl)) → Q (.ref p) H'
end LN
namespace LN
open PySem PySem.Spec PyProof.Rows L2
mutual
def no4 : PyData → Bool
  | .list xs => decide (xs.length ≠ 4) && no4s xs
  | .tuple xs => no4s xs
  | _ => true
def no4s : List PyData → Bool
  | [] => true
  | d :: ds => no4 d && no4s ds
end
section
variable {K : PySem.W.Frag} {H H' : Hp} {b bc : Addr}
mutual
theorem dp_drew (bag : Bag b bc H) (s : Drew b bc H H') : ∀ {d : PyData} {v : V}, Dp K H v d → no4 d = true → Dp K H' v d
  | _, _, .non, _ => .non
  | _, _, .bl x, _ => .bl x
  | _, _, .int i, _ => .int i
  | _, _, .str x, _ => .str x
  | _, _, .lst q r, h => by
    rename_i a xs ds
    have h' : (decide (ds.length ≠ 4) && no4s ds) = true := h
    rw [Bool.and_eq_true] at h'
    have n4 : ds.length ≠ 4 := of_decide_eq_true h'.1
    have ne : a ≠ b ∨ ∃ o its n, K.lookup a = some o ∧ o.cls = .type "list" ∧ o.dict = Option.none ∧ o.data = .seq its n ∧ its.size ≤ sizeLine ∧ Vals xs its.toList := by
      rcases q with (q | ⟨o, q⟩) | q
      · refine .inl fun e => ?_
        obtain ⟨x0, x1, x2, ns, _, hb, _⟩ := bag
        rw [e, hb] at q
        cases q
        have := dpa_len r
        exact n4 this.symm
      · refine .inl fun e => ?_
        obtain ⟨x0, x1, x2, ns, _, hb, _⟩ := bag
        rw [e, hb] at q
        cases q
      · exact .inr q
    refine .lst ?_ (dpa_drew bag s r h'.2)
    rcases ne with ne | q2
    · exact drew_seq s ne q
    · exact .inr q2
  | _, _, .tup q r, h => by
    refine .tup ?_ (dpa_drew bag s r h)
    rcases q with (q | ⟨o, q⟩) | q
    · obtain ⟨zs, hb⟩ := bag.lst
      exact .inl (.inl (s.keep _ _ (ne_of q hb (by intro z; cases z)) q))
    · obtain ⟨zs, hb⟩ := bag.lst
      exact .inl (.inr ⟨o, s.keep _ _ (ne_of q hb (by intro z; cases z)) q⟩)
    · exact .inr q
theorem dpa_drew (bag : Bag b bc H) (s : Drew b bc H H') : ∀ {ds : List PyData} {vs : List V}, DpAll K H vs ds → no4s ds = true → DpAll K H' vs ds
  | _, _, .nil, _ => .nil
  | _, _, .cons q r, h => by
    have h' : (no4 _ && no4s _) = true := h
    rw [Bool.and_eq_true] at h'
    exact .cons (dp_drew bag s q h'.1) (dpa_drew bag s r h'.2)
end
end
/-- a value that a law may hand to anything -/
structure Some_ (K : PySem.W.Frag) (C : Addr) (H : Hp) (x : V) (d : PyData) : Prop where
  any : AnyT K C H x (.d d)
  fit : Fit (.d d)
  four : no4 d = true
theorem Some_.same {K : PySem.W.Frag} {C : Addr} {H H' : Hp} {x : V} {d : PyData} (h : Some_ K C H x d) (s : Same H H') : Some_ K C H' x d := ⟨h.any.same s, h.fit, h.four⟩
theorem Some_.drew {K : PySem.W.Frag} {C b bc : Addr} {H H' : Hp} {x : V} {d : PyData} (h : Some_ K C H x d) (bag : Bag b bc H) (s : Drew b bc H H') : Some_ K C H' x d := by
  refine ⟨?_, h.fit, h.four⟩
  cases h.any with
  | dp q => exact .dp (dp_drew bag s q h.four)
  | emp q =>
    obtain ⟨zs, hb⟩ := bag.lst
    exact .emp (s.keep _ _ (ne_of q hb (by intro z; cases z)) q)
theorem fit_of {d : PyData} (g : Good d 5 sizeLine) (s : ∀ y : Str, d = .str y → y.length ≤ 100) (p : ∀ ds, d = .tuple ds → ds.length ≤ 1000 ∧ ∀ y : Str, PyData.str y ∈ ds → y.length ≤ 100) : Fit (.d d) :=
  ⟨fun e h => by cases h; exact .inr g, fun y h => by cases h; exact s y rfl, fun ds h => by cases h; exact p ds rfl⟩
theorem fit_emp : Fit (.d (.dict [])) := ⟨(fun e h => by cases h; exact .inl rfl), (fun y h => by cases h), (fun ds h => by cases h)⟩
theorem Good.any_int {i : Int} (h : i.natAbs.log2 < 1920) : Good (.int i) 0 sizeLine := ⟨rfl, decide_eq_true h, Nat.le_refl _, int_text_fits h⟩
theorem some_int {K : PySem.W.Frag} {C : Addr} {H : Hp} {i : Int} (h : i.natAbs.log2 < 1920) : Some_ K C H (.int i) (.int i) :=
  ⟨.dp (.int i), fit_of ((Good.any_int h).mono (by decide) (Nat.le_refl _)) (fun y e => by cases e) (fun ds e => by cases e), rfl⟩
theorem Good.lab {x : Str} (h : Lab x) : Good (.str x) 0 202 := Good.str h.ok h.few
theorem some_str {K : PySem.W.Frag} {C : Addr} {H : Hp} {x : Str} (h : Lab x) : Some_ K C H (.str x) (.str x) :=
  ⟨.dp (.str x), fit_of ((Good.lab h).mono (by decide) (by decide)) (fun y e => by cases e; have := h.few; omega) (fun ds e => by cases e), rfl⟩
theorem some_flat {K : PySem.W.Frag} {C : Addr} {H : Hp} {x : V} {d : PyData} (h : Dp K H x d) (g : Good d 5 sizeLine) (f : no4 d = true) (s : ∀ y : Str, d ≠ .str y) (p : ∀ ds, d ≠ .tuple ds) : Some_ K C H x d :=
  ⟨.dp h, fit_of g (fun y e => absurd e (s y)) (fun ds e => absurd e (p ds)), f⟩
theorem some_tup {K : PySem.W.Frag} {C : Addr} {H : Hp} {a : Addr} {xs : List V} {ds : List PyData} (q : SqT K H a xs) (r : DpAll K H xs ds) (g : ∀ d ∈ ds, Good d 3 2100) (l : ds.length ≤ 200) (f : no4s ds = true) (s : ∀ y : Str, PyData.str y ∈ ds → y.length ≤ 100) : Some_ K C H (.ref a) (.tuple ds) :=
  ⟨.dp (.tup q r), fit_of ((Good.tuple g l).mono (by decide) (by decide)) (fun y e => by cases e) (fun es e => by cases e; exact ⟨by omega, s⟩), f⟩
theorem good_str {l : List Str} (h : Labs l) : ∀ d ∈ l.map PyData.str, Good d 3 2100 := fun d hd => by
  obtain ⟨x, hx, rfl⟩ := List.mem_map.mp hd
  exact (Good.lab (h x hx)).mono (by decide) (by decide)
theorem no4_strs : ∀ l : List Str, no4s (l.map PyData.str) = true
  | [] => rfl
  | x :: l => no4_strs l
theorem few_strs {l : List Str} (h : Labs l) : ∀ y : Str, PyData.str y ∈ l.map PyData.str → y.length ≤ 100 := fun y hy => by
  obtain ⟨x, hx, e⟩ := List.mem_map.mp hy
  have e' := PyData.str.inj e
  have := (h x hx).few
  rw [← e']
  omega
def spThing (K : PySem.W.Frag) (C : Addr) : Sp := fun vs H Q _ => ∃ (b bc : Addr), vs = [.ref b] ∧ Bag b bc H ∧ ∀ H' x d, Drew b bc H H' → Some_ K C H' x d → Q x H'
end LN
namespace LN
open PySem PySem.Spec PyProof.Rows L2
theorem no4_snoc : ∀ ws : List Str, no4s (ws.map PyData.str ++ [.int 3]) = true
  | [] => rfl
  | x :: l => no4_snoc l
end LN
namespace LN
open PySem PySem.Spec PyProof.Rows L2
def spValues : Sp := fun vs H Q _ => ∃ (a : Addr), vs = [.ref a] ∧ H a = some (.dK []) ∧ ∀ H', Same H H' → Q (.bl true) H'
def spZone0 (C : Addr) : Sp := fun vs H Q _ => ∃ (p dx a : Addr), vs = [.ref p, .ref a] ∧ H p = some (.ins C dx []) ∧ H a = some (.dK []) ∧ ∀ H' fs, H' p = some (.ins C dx fs) → (∀ b o, H b = some o → b ≠ p → H' b = some o) → Q .non H'
def tNeverE : TE := fun _ _ _ => False
theorem pe_never {X : Cx} {e : Expr} : PE X e tNeverE := ⟨fun _ _ _ _ _ _ h => h.elim⟩
theorem fit_obj : Fit .obj := ⟨(fun e h => by cases h), (fun y h => by cases h), (fun ds h => by cases h)⟩
section
variable {X : Cx}
theorem cr_reprA {C : Addr} (quiet : Quiet X.A) (hu : X.A.units + 70 < cLine) : CallR X (.builtin "repr") (fun xs H Q => ∃ x d, xs = [x] ∧ AnyT X.K C H x (.d d) ∧ Fit (.d d) ∧ Q (.str d.shown) H) := by
  intro pins s σ H xs us Q inv rel want
  obtain ⟨x, d, rfl, any, fit, q⟩ := want
  cases any with
  | dp h =>
    have g : Good d 5 sizeLine := (fit.good _ rfl).elim (fun w => by rw [w] at h; cases h) id
    exact cr_repr quiet hu pins s σ H _ us Q inv rel ⟨x, d, rfl, h, g.shows, g.noDict, Nat.le_trans g.deep (by decide), g.len, q⟩
  | emp h =>
    rename_i a
    obtain ⟨u, rfl, ru⟩ := vals1 rel
    obtain rfl : u = Value.ref a := ru
    obtain ⟨_, off, vs, kv, o, es, ep, ho, ex, hd, _, prs, _⟩ := dk_of inv.hok h
    cases kv
    have len := prs.length
    have nil : es.toList = [] := List.length_eq_zero_iff.mp len
    have rd : Reads s.heap (.ref a) (.dict []) (a :: [] ++ []) := .dict ho ex.1 hd (by rw [nil]; exact .nil) (by rw [nil]; exact .nil)
    refine repr_of_reads' rd rfl (fun _ m => ?_) quiet (by show X.A.units + (1 + 1) < cLine; omega) (fun _ _ e => e) ?_ (by decide +kernel)
    · have := beq_eq_false_iff_ne.mp off
      simp only [List.append_nil, List.mem_singleton] at m
      exact this m.symm
    intro h' u tk hk
    exact ⟨.str (PyData.dict []).shown, H, inv.un (t' := tk) (Un.kept hk) (inv.hok.kept hk), ⟨u, rfl⟩, q⟩
end
end LN

/-! sets of tuples whose items are keys of any one kind (texts) -/
namespace LN
open PySem PySem.Spec PyProof.Rows L2
/-- the items tell at once what a set's search asks of them -/
structure Tells {P : Program} {w : World} {κ : Type} [DecidableEq κ] (kd : PySem.KeyKind P w κ) : Prop where
  cls : ∀ (k : κ) (v : Value) (n : Nat), kd.is k v = true → ofAClassStatement n v = pure false
  val : ∀ (k : κ) (v : Value) (n : Nat), kd.is k v = true → ∃ b, hashByValue n v = pure b
theorem strs_tell (P : Program) (w : World) : Tells (PySem.strKind P w) := by
  constructor
  · intro k v n h
    obtain ⟨t, rfl⟩ := Value.isStrOf_shape (show Value.isStrOf k v = true from h)
    cases n <;> rfl
  · intro k v n h
    obtain ⟨t, rfl⟩ := Value.isStrOf_shape (show Value.isStrOf k v = true from h)
    refine ⟨false, ?_⟩
    cases n <;> rfl
section
variable {P : Program} {w : World} {κ : Type} [DecidableEq κ] {kd : PySem.KeyKind P w κ} {A : Around} {E : Value → Shared → Prop} {s : Shared}
theorem items_all {k : List κ} {vs : List Value} {φ : Value → Prop} (tell : ∀ x v, kd.is x v = true → φ v) (its : PySem.ItemsAre kd k vs) : ∀ v ∈ vs, φ v := by
  induction its with
  | nil => exact fun v hv => absurd hv List.not_mem_nil
  | @cons x u ks us h1 _ ih => exact fun v hv => (List.mem_cons.mp hv).elim (fun e => e ▸ tell x u h1) (ih v)
theorem cls_of (T : Tells kd) {k : List κ} {b : Addr} {Q : Bool → Shared → Prop} (hk : PySem.IsTupleKey kd s.heap k b) (h : Q false s) : wpAny (model P w) A (ofAClassStatement 8 (.ref b)) Q E s := by
  have isT := hk.typeIs
  obtain ⟨o, items, n, ho, _, hd, its⟩ := hk
  have quietly : ∀ v ∈ items.toList, ofAClassStatement 7 v = pure false := items_all (fun x v hx => T.cls x v 7 hx) its
  unfold ofAClassStatement
  refine wpAny_bind (wpAny_typeOf isT ?_)
  dsimp only
  have yes : (("tuple" : String) == "tuple") = true := by decide
  simp only [yes, if_true, Bool.not_true, Bool.false_eq_true, if_false]
  try refine wpAny_bind (wpAny_pure ?_)
  try simp only [Bool.not_true, Bool.false_eq_true, if_false]
  show wpAny _ _ (seqItems? (.ref b) >>= _) _ _ s
  refine wpAny_bind (wpAny_seqItems ho hd ?_)
  dsimp only
  refine wpAny_bind ?_
  show wpAny _ _ (forIn items _ _) _ _ s
  rw [← Array.forIn_toList]
  apply wpAny_forIn_list _ (fun rest r s' => r.1 = none ∧ s' = s ∧ ∀ v ∈ rest, ofAClassStatement 7 v = pure false) _ _ _ _ _ ⟨rfl, rfl, quietly⟩
  · rintro v rest r s' ⟨e1, rfl, all⟩
    rw [all v List.mem_cons_self]
    refine wpAny_bind (wpAny_pure ?_)
    simp only [Bool.false_eq_true, if_false]
    exact wpAny_pure ⟨rfl, rfl, fun u hu => all u (List.mem_cons_of_mem _ hu)⟩
  · rintro ⟨r1, r2⟩ s' ⟨e1, rfl, _⟩
    obtain rfl : r1 = none := e1
    exact wpAny_pure h
theorem val_of (T : Tells kd) {k : List κ} {b : Addr} {Q : Bool → Shared → Prop} (hk : PySem.IsTupleKey kd s.heap k b) (h : ∀ c, Q c s) : wpAny (model P w) A (hashByValue 8 (.ref b)) Q E s := by
  have isT := hk.typeIs
  obtain ⟨o, items, n, ho, _, hd, its⟩ := hk
  have known : ∀ v ∈ items.toList, ∃ c, hashByValue 7 v = pure c := items_all (fun x v hx => T.val x v 7 hx) its
  unfold hashByValue
  refine wpAny_bind (wpAny_specialOf isT F.slot_tuple_hash.lookup ?_)
  show wpAny _ _ (seqItems? (.ref b) >>= _) _ _ s
  refine wpAny_bind (wpAny_seqItems ho hd ?_)
  refine wpAny_bind ?_
  show wpAny _ _ (forIn items _ _) _ _ s
  rw [← Array.forIn_toList]
  apply wpAny_forIn_list _ (fun rest r s' => r.1 = none ∧ s' = s ∧ ∀ v ∈ rest, ∃ c, hashByValue 7 v = pure c) _ _ _ _ _ ⟨rfl, rfl, known⟩
  · rintro v rest r s' ⟨e1, rfl, all⟩
    obtain ⟨c, ec⟩ := all v List.mem_cons_self
    rw [ec]
    refine wpAny_bind (wpAny_pure ?_)
    cases c with
    | true =>
      simp only [Bool.not_true, Bool.false_eq_true, if_false]
      exact wpAny_pure ⟨rfl, rfl, fun u hu => all u (List.mem_cons_of_mem _ hu)⟩
    | false =>
      simp only [Bool.not_false, if_true]
      exact wpAny_pure (wpAny_pure (h false))
  · rintro ⟨r1, r2⟩ s' ⟨e1, rfl, _⟩
    obtain rfl : r1 = none := e1
    exact wpAny_pure (h true)
/-- nothing of the table is seen by a search among such tuples -/
theorem unseen (T : Tells kd) {k : List κ} {b : Addr} {Q : Bool → Shared → Prop} (hk : PySem.IsTupleKey kd s.heap k b) {ys : List Value} (hy : ∀ y ∈ ys, ∃ l c, y = Value.ref c ∧ PySem.IsTupleKey kd s.heap l c) (h : Q false s) :
    wpAny (model P w) A (searchCouldBeSeen (.ref b) ys) Q E s := by
  unfold searchCouldBeSeen
  refine wpAny_bind ?_
  apply wpAny_forIn_list _ (fun rest r s' => r.1 = none ∧ s' = s ∧ ∀ y ∈ rest, ∃ l c, y = Value.ref c ∧ PySem.IsTupleKey kd s.heap l c) _ _ _ _ _ ⟨rfl, rfl, hy⟩
  · rintro v rest r s' ⟨e1, rfl, all⟩
    obtain ⟨l, c, rfl, hc⟩ := all v List.mem_cons_self
    have on : ∀ y ∈ rest, ∃ l c, y = Value.ref c ∧ PySem.IsTupleKey kd s'.heap l c := fun u hu => all u (List.mem_cons_of_mem _ hu)
    dsimp only
    cases same : (b == c || (carriedByValue (.ref b) && carriedByValue (.ref c))) with
    | true =>
      simp only [if_true]
      exact wpAny_pure ⟨rfl, rfl, on⟩
    | false =>
      simp only [Bool.false_eq_true, if_false]
      refine wpAny_bind (wpAny_eqIsQuiet_tuple hk ?_)
      simp only [Bool.not_true, Bool.false_eq_true, if_false]
      refine wpAny_bind (wpAny_eqIsQuiet_tuple hc ?_)
      simp only [Bool.not_true, Bool.false_eq_true, if_false]
      refine wpAny_bind (cls_of T hk ?_)
      simp only [Bool.false_eq_true, if_false]
      refine wpAny_bind (cls_of T hc ?_)
      simp only [Bool.false_eq_true, if_false]
      exact wpAny_pure ⟨rfl, rfl, on⟩
  · rintro ⟨r1, r2⟩ s' ⟨e1, rfl, _⟩
    obtain rfl : r1 = none := e1
    exact wpAny_pure h
end
/-! the set: its tuples in the order of the table -/
section
variable {P : Program} {w : World} {κ : Type} [DecidableEq κ]
abbrev hsh (kd : PySem.KeyKind P w κ) (p : Addr × List κ) : Int := PySem.tupleKeyHash kd p.2
structure TSet (kd : PySem.KeyKind P w κ) (h : Heap) (a : Addr) (L : List (Addr × List κ)) (es : Array (Int × Value)) (ep : Nat) (t : SetTable) : Prop where
  there : ∃ o, h.get? a = some o ∧ o.ExactSet ∧ o.data = .set es ep t
  rows : es.toList = L.map fun p => (hsh kd p, Value.ref p.1)
  table : TabOk t (L.map (hsh kd))
  once : (L.map (·.2)).Nodup
  keys : ∀ p ∈ L, PySem.IsTupleKey kd h p.2 p.1
  loose : L.length * 5 < t.mask * 3
  few : L.length < 64
variable {kd : PySem.KeyKind P w κ} {h : Heap} {a : Addr} {L : List (Addr × List κ)} {es : Array (Int × Value)} {ep : Nat} {t : SetTable}
theorem TSet.size (T : TSet kd h a L es ep t) : es.size = L.length := by
  rw [← Array.length_toList, T.rows, List.length_map]
theorem TSet.places (T : TSet kd h a L es ep t) : t.place.size = L.length := by
  have := T.table.sz
  rw [List.length_map] at this
  exact this
theorem TSet.fits (T : TSet kd h a L es ep t) : t.fits es.size = true := by
  have e1 := T.places
  have e2 := T.size
  have e3 := T.loose
  simp only [SetTable.fits, SetTable.fill, T.table.dm, Bool.and_eq_true, beq_iff_eq, decide_eq_true_eq]
  show t.place.size = es.size ∧ t.place.size + 0 ≤ t.mask
  omega
theorem TSet.at_ (T : TSet kd h a L es ep t) {i : Nat} {p : Addr × List κ} (e : L[i]? = some p) : es[i]? = some (hsh kd p, Value.ref p.1) := by
  rw [← Array.getElem?_toList, T.rows, List.getElem?_map, e]
  rfl
theorem TSet.stays (T : TSet kd h a L es ep t) : (¬ t.gaveWay = true) := by
  have odd := mask_odd T.table.mok
  simp only [SetTable.gaveWay, odd]
  decide
/-- no dummy is met on the way -/
theorem no_dummy (m : Nat) : ∀ (n : Nat) (p : SetTable.Probe), p.dummy = none → (L2.nth m p n).dummy = none
  | 0, _, e => e
  | n + 1, p, e => no_dummy m n (adv m p) (by unfold adv; split <;> exact e)
/-- the c-th step of the way of a hash -/
abbrev trail (t : SetTable) (h : Int) (c : Nat) : SetTable.Probe := L2.nth t.mask (runAt t.mask (SetTable.bits h % (t.mask + 1)) (SetTable.bits h)) c
theorem trail_on (t : SetTable) (h : Int) (c q : Nat) : L2.nth t.mask (trail t h c) q = trail t h (c + q) := (nth_add t.mask c _ q).symm
variable {A : Around} {E : Value → Shared → Prop} {s : Shared}
/-- where the key k, if it is there, is still to be met from the c-th step on -/
def Ahead (kd : PySem.KeyKind P w κ) (t : SetTable) (L : List (Addr × List κ)) (k : List κ) (K c : Nat) : Prop :=
  ∀ (i : Nat) (p : Addr × List κ), L[i]? = some p → p.2 = k → ∃ c', c ≤ c' ∧ c' < K ∧ t.place.toList[i]? = some (way t.mask (PySem.tupleKeyHash kd k) c')
theorem search_on (tells : Tells kd) (T : TSet kd s.heap a L es ep t) {x : Addr} {k : List κ} (hx : PySem.IsTupleKey kd s.heap k x) (room : A.units < cLine) {K : Nat} (short : K < 10 * SetTable.turns t.mask)
    (gap : way t.mask (PySem.tupleKeyHash kd k) K ∉ t.place.toList) (full : ∀ c, c < K → way t.mask (PySem.tupleKeyHash kd k) c ∈ t.place.toList) {Q : SetFound → Shared → Prop}
    (found : k ∈ L.map (·.2) → Q (.there none) s) (new : k ∉ L.map (·.2) → Q (.free (way t.mask (PySem.tupleKeyHash kd k) K) false) s) :
    ∀ (f c : Nat) (from_ : Option SetTable.Probe), from_.getD (t.probeStart (PySem.tupleKeyHash kd k)) = trail t (PySem.tupleKeyHash kd k) c → c ≤ K → K - c < f → Ahead kd t L k K c →
      wpAny (model P w) A (setSearchFrom a (.ref x) (PySem.tupleKeyHash kd k) true f from_) Q E s := by
  intro f
  induction f with
  | zero => exact fun c _ _ _ lt _ => absurd lt (Nat.not_lt_zero _)
  | succ f again =>
    intro c from_ at_ le lt ahead
    obtain ⟨o, ho, exact_, data⟩ := T.there
    rw [setSearchFrom_succ]
    apply wpAny_bind
    apply wpAny_setState_of ho data T.fits
    dsimp only
    refine wp_if_neg T.stays ?_
    try refine wpAny_bind (wpAny_pure ?_)
    generalize hh : PySem.tupleKeyHash kd k = hk at *
    have step : ∀ q, (L2.nth t.mask (trail t hk c) q).j = way t.mask hk (c + q) := fun q => congrArg SetTable.Probe.j (trail_on t hk c q)
    have reachK : c + (K - c) = K := by omega
    have hashes : ∀ (i : Nat) (p : Addr × List κ), L[i]? = some p → (fun i => (es[i]?.map (·.1)).getD 0) i = hsh kd p := by
      intro i p e
      show (es[i]?.map (·.1)).getD 0 = _
      rw [T.at_ e]
      rfl
    have met := go_spec t T.table.ris T.table.dm (fun i => (es[i]?.map (·.1)).getD 0) hk (10 * SetTable.turns t.mask) (K - c) (trail t hk c) (no_dummy _ _ _ rfl) (by omega)
      (fun q lt' => by rw [step]; exact full (c + q) (by omega)) (by rw [step, reachK]; exact gap)
    rcases met with ⟨q, i, qlt, place, same, before, probe⟩ | ⟨before, probe⟩
    · have cand : t.probe (fun i => (es[i]?.map (·.1)).getD 0) hk (from_.getD (t.probeStart hk)) = some (.candidate (way t.mask hk (c + q)) i (trail t hk (c + (q + 1)))) := by
        rw [at_, ← step, ← trail_on]
        exact probe
      rw [cand]
      dsimp only
      rw [step] at place
      have il : i < L.length := by
        have := (List.getElem?_eq_some_iff.mp place).1
        rw [Array.length_toList, T.places] at this
        exact this
      obtain ⟨p, hp⟩ : ∃ p, L[i]? = some p := ⟨_, List.getElem?_eq_getElem il⟩
      have pin : p ∈ L := List.mem_of_getElem? hp
      have live : t.slot (way t.mask hk (c + q)) = .live i := slot_live T.table.ris place
      have rest : wpAny (model P w) A (searchRest a (.ref x) hk true f es t (way t.mask hk (c + q)) i (trail t hk (c + (q + 1)))) Q E s := by
        unfold searchRest
        rw [T.at_ hp]
        dsimp only
        refine wpAny_bind (wpAny_holding (wpAny_eqBool_tuple room (T.keys p pin) hx ?_))
        apply wpAny_bind
        apply wpAny_setState_of ho data T.fits
        dsimp only
        by_cases eq : p.2 = k
        · refine wp_if_pos (by simp [eq]) (wpAny_pure (found (List.mem_map.mpr ⟨p, pin, eq⟩)))
        · refine wp_if_neg (by simp [eq]) ?_
          try refine wpAny_bind (wpAny_pure ?_)
          rw [sameMem]
          dsimp only
          simp only [if_true, live, T.at_ hp]
          refine wpAny_bind (wpAny_isSame_ref_self (wpAny_bind (wpAny_pure ?_)))
          simp only [if_true]
          refine wp_if_neg (by simp [eq]) ?_
          refine again (c + (q + 1)) _ rfl (by omega) (by omega) ?_
          intro j p' hj e'
          obtain ⟨c', l1, l2, l3⟩ := ahead j p' hj e'
          rw [hh] at l3 ⊢
          refine ⟨c', ?_, l2, l3⟩
          have notBefore : ¬ c' < c + q := fun z => by
            refine before (c' - c) j (by omega) ?_ ?_
            · rw [step, show c + (c' - c) = c' by omega]
              exact l3
            · exact (hashes j p' hj).trans ((congrArg (PySem.tupleKeyHash kd) e').trans hh)
          have notHere : c' ≠ c + q := fun z => by
            rw [z] at l3
            have two := slot_live T.table.ris l3
            rw [live] at two
            injection two with two
            rw [← two, hp] at hj
            cases hj
            exact eq e'
          omega
      cases led : t.led with
      | true =>
        refine wp_if_neg (by simp) ?_
        try refine wpAny_bind (wpAny_pure ?_)
        exact rest
      | false =>
        refine wp_if_pos (by simp) ?_
        refine wpAny_bind (unseen tells hx (fun y hy => ?_) ?_)
        · obtain ⟨z, hz, rfl⟩ := List.mem_map.mp hy
          have inside : z ∈ es.toList := by
            have : z ∈ es ∧ z.1 = hk := by simpa using hz
            simpa using this.1
          rw [T.rows] at inside
          obtain ⟨p2, in2, rfl⟩ := List.mem_map.mp inside
          exact ⟨p2.2, p2.1, rfl, T.keys p2 in2⟩
        · refine wp_if_neg (by decide) ?_
          try refine wpAny_bind (wpAny_pure ?_)
          exact rest
    · have gone : t.probe (fun i => (es[i]?.map (·.1)).getD 0) hk (from_.getD (t.probeStart hk)) = some (.empty (way t.mask hk K) none) := by
        rw [at_, show way t.mask hk K = (L2.nth t.mask (trail t hk c) (K - c)).j by rw [step, reachK]]
        exact probe
      rw [gone]
      dsimp only
      apply wpAny_pure
      apply new
      intro inside
      obtain ⟨p0, in0, e0⟩ := List.mem_map.mp inside
      obtain ⟨i0, hi0⟩ := List.getElem?_of_mem in0
      obtain ⟨c', l1, l2, l3⟩ := ahead i0 p0 hi0 e0
      rw [hh] at l3
      refine before (c' - c) i0 (by omega) ?_ ?_
      · rw [step, show c + (c' - c) = c' by omega]
        exact l3
      · exact (hashes i0 p0 hi0).trans ((congrArg (PySem.tupleKeyHash kd) e0).trans hh)
/-- the search of a set that is to get a tuple -/
theorem search_for (tells : Tells kd) (T : TSet kd s.heap a L es ep t) {x : Addr} {k : List κ} (hx : PySem.IsTupleKey kd s.heap k x) (room : A.units < cLine) {Q : SetFound → Shared → Prop}
    (found : k ∈ L.map (·.2) → Q (.there none) s)
    (new : ∀ K, k ∉ L.map (·.2) → way t.mask (PySem.tupleKeyHash kd k) K ∉ t.place.toList → (∀ c, c < K → way t.mask (PySem.tupleKeyHash kd k) c ∈ t.place.toList) → Q (.free (way t.mask (PySem.tupleKeyHash kd k) K) false) s) :
    wpAny (model P w) A (setSearch a (.ref x) (PySem.tupleKeyHash kd k) true) Q E s := by
  have loose := T.loose
  have few : (L.map (hsh kd)).length ≤ t.mask := by
    rw [List.length_map]
    omega
  obtain ⟨K, short, gap, full⟩ := T.table.first few (PySem.tupleKeyHash kd k)
  have turns : 10 * SetTable.turns t.mask ≤ 1420 := by
    unfold SetTable.turns
    rcases T.table.mok with e | e | e <;> omega
  unfold setSearch
  refine search_on tells T hx room short gap full found (fun no => new K no gap full) 100000 0 none rfl (Nat.zero_le _) (by omega) ?_
  intro i p hp e
  have hi : (L.map (hsh kd))[i]? = some (PySem.tupleKeyHash kd k) := by
    rw [List.getElem?_map, hp, ← e]
    rfl
  have il : i < t.place.toList.length := by
    rw [Array.length_toList, T.places]
    exact (List.getElem?_eq_some_iff.mp hp).1
  have hj := List.getElem?_eq_getElem il
  obtain ⟨c, lt, eq⟩ := T.table.before gap hi hj
  exact ⟨c, Nat.zero_le _, lt, by rw [hj, eq]⟩
theorem key_same {h h' : Heap} {k : List κ} {a b : Addr} {o : Obj} {es : Array (Int × Value)} {ep : Nat} {t : SetTable} (hb : PySem.IsTupleKey kd h k b) (ho : h.get? a = some o) (hd : o.data = .set es ep t) (same : Heap.SameBut a h h') : PySem.IsTupleKey kd h' k b := by
  obtain ⟨u, items, n, hu, c, d, its⟩ := hb
  refine ⟨u, items, n, (same.2 b fun z => ?_).trans hu, c, d, its⟩
  rw [z, ho] at hu
  cases hu
  rw [hd] at d
  cases d
theorem rows_in (L : List (Addr × List κ)) (n : Nat) (p : Addr × List κ) : (L.take n ++ p :: L.drop n).map (fun p => (hsh kd p, Value.ref p.1)) = (L.map fun p => (hsh kd p, Value.ref p.1)).take n ++ (hsh kd p, Value.ref p.1) :: (L.map fun p => (hsh kd p, Value.ref p.1)).drop n := by
  rw [List.map_append, List.map_cons, List.map_take, List.map_drop]
/-- the rows put in another order -/
theorem rows_order (L : List (Addr × List κ)) (es : Array (Int × Value)) (order : Array Nat) (rows : es.toList = L.map fun p => (hsh kd p, Value.ref p.1)) (perm : order.toList.Perm (List.range L.length)) :
    ∃ M : List (Addr × List κ), (order.filterMap (es[·]?)).toList = M.map (fun p => (hsh kd p, Value.ref p.1)) ∧ M.Perm L ∧ M.map (hsh kd) = order.toList.map fun i => (es.map (·.1)).getD i 0 := by
  have all : ∀ l : List Nat, (∀ i ∈ l, i < L.length) → l.filterMap (fun i => es[i]?) = (l.filterMap fun i => L[i]?).map (fun p => (hsh kd p, Value.ref p.1)) ∧ (l.filterMap fun i => L[i]?).map (hsh kd) = l.map fun i => (es.map (·.1)).getD i 0 := by
    intro l
    induction l with
    | nil => exact fun _ => ⟨rfl, rfl⟩
    | cons i l ih =>
      intro lt
      obtain ⟨e1, e2⟩ := ih fun j hj => lt j (List.mem_cons_of_mem _ hj)
      have il : i < L.length := lt i List.mem_cons_self
      have at_ : L[i]? = some L[i] := List.getElem?_eq_getElem il
      have row : es[i]? = some (hsh kd L[i], Value.ref (L[i]).1) := by
        rw [← Array.getElem?_toList, rows, List.getElem?_map, at_]
        rfl
      have first : (es.map (·.1)).getD i 0 = hsh kd L[i] := by
        rw [Array.getD_eq_getD_getElem?, Array.getElem?_map, row]
        rfl
      rw [List.filterMap_cons_some row, List.filterMap_cons_some at_, List.map_cons, List.map_cons, List.map_cons, e1, e2, first]
      exact ⟨rfl, rfl⟩
  obtain ⟨e1, e2⟩ := all order.toList fun i hi => List.mem_range.mp (perm.mem_iff.mp hi)
  refine ⟨order.toList.filterMap fun i => L[i]?, by rw [Array.toList_filterMap]; exact e1, ?_, e2⟩
  have whole : ∀ n, n ≤ L.length → (List.range n).filterMap (fun i => L[i]?) = L.take n := by
    intro n
    induction n with
    | zero => exact fun _ => rfl
    | succ n ih =>
      intro lt
      have at_ : L[n]? = some (L[n]'lt) := List.getElem?_eq_getElem lt
      rw [List.range_succ, List.filterMap_append, ih (Nat.le_of_lt lt), List.take_succ, at_, List.filterMap_cons_some at_]
      rfl
  have perm2 := perm.filterMap fun i => L[i]?
  rw [whole L.length (Nat.le_refl _), List.take_length] at perm2
  exact perm2
theorem relaid (T : PySem.Heap) : True := trivial
/-- the table is laid anew -/
theorem relay_on {o : Obj} (ho : s.heap.get? a = some o) (ex : o.ExactSet) (hd : o.data = .set es ep t) (rows : es.toList = L.map fun p => (hsh kd p, Value.ref p.1)) (places : t.place.size = L.length) (clean : t.dummies = #[]) (fit : L.length ≤ t.mask)
    (once : (L.map (·.2)).Nodup) (keys : ∀ p ∈ L, PySem.IsTupleKey kd s.heap p.2 p.1) (few : L.length < 64) {wanted M : Nat} (is : SetTable.sizeAbove wanted - 1 = M) (ok : MaskOk M) (most : SetTable.sizeAbove wanted ≤ 128) (loose : L.length * 5 < M * 3) {Q : Unit → Shared → Prop}
    (go : ∀ h' L' es' ep' t', Heap.SameBut a s.heap h' → TSet kd h' a L' es' ep' t' → L'.Perm L → Q () { s with heap := h' }) : wpAny (model P w) A (setRelay a wanted) Q E s := by
  have size : es.size = L.length := by rw [← Array.length_toList, rows, List.length_map]
  have fits : t.fits es.size = true := by
    simp only [SetTable.fits, SetTable.fill, clean, Bool.and_eq_true, beq_iff_eq, decide_eq_true_eq]
    show t.place.size = es.size ∧ t.place.size + 0 ≤ t.mask
    omega
  obtain ⟨t', order, laid, perm, table, mask, _, _, _⟩ := relaid_ok t (hs := es.map (·.1)) (wanted := wanted) is ok (by rw [Array.size_map, size]; omega)
  rw [Array.size_map, size] at perm
  obtain ⟨N, r1, r2, r3⟩ := rows_order L es order rows perm
  rw [← r3] at table
  have size2 : (order.filterMap (es[·]?)).size = es.size := by rw [← Array.length_toList, r1, List.length_map, r2.length_eq, size]
  rw [setRelay_eq]
  apply wpAny_bind
  apply wpAny_setState_of ho hd fits
  dsimp only
  refine wp_if_neg (by rw [sizeLine_eq]; omega) ?_
  try refine wpAny_bind (wpAny_pure ?_)
  rw [laid]
  dsimp only
  apply wpAny_bind
  refine wp_if_neg (by rw [size2]; simp) ?_
  try refine wpAny_bind (wpAny_pure ?_)
  apply wpAny_pure
  dsimp only
  apply wpAny_storeSet_of ho hd _ (by rw [size2, size, sizeLine_eq]; omega)
  have same : Heap.SameBut a s.heap (s.heap.update a (Obj.putSet (order.filterMap (es[·]?)) t')) := Heap.SameBut.update ..
  refine go _ N _ (ep + 1) t' same ⟨⟨_, store_at ho hd, ⟨ex.1, ex.2.1, ex.2.2⟩, rfl⟩, r1, table, (r2.map (·.2)).nodup_iff.mpr once, fun p hp => key_same (keys p (r2.mem_iff.mp hp)) ho hd same, ?_, by rw [r2.length_eq]; exact few⟩ r2
  rw [r2.length_eq, mask]
  exact loose
/-- a tuple is added -/
theorem add_on (tells : Tells kd) (T : TSet kd s.heap a L es ep t) {x : Addr} {k : List κ} (hx : PySem.IsTupleKey kd s.heap k x) (room : A.units < cLine) (few : L.length + 1 < 64) {Q : Bool → Shared → Prop}
    (go : ∀ b h' L' es' ep' t', Heap.SameBut a s.heap h' → TSet kd h' a L' es' ep' t' → (k ∈ L.map (·.2) → L' = L) → (k ∉ L.map (·.2) → L'.Perm ((x, k) :: L)) → Q b { s with heap := h' }) :
    wpAny (model P w) A (setAddHashed a (.ref x) (PySem.tupleKeyHash kd k)) Q E s := by
  obtain ⟨o, ho, ex, hd⟩ := T.there
  have size := T.size
  have loose := T.loose
  unfold setAddHashed
  apply wpAny_holding
  rw [show (100000 : Nat) = 99999 + 1 from rfl, setAddHashedIn_succ]
  apply wpAny_bind
  apply wpAny_setState_of ho hd T.fits
  dsimp only
  refine wp_if_neg (by simp [byScan, Value.scannable]) ?_
  try refine wpAny_bind (wpAny_pure ?_)
  refine wpAny_bind (search_for tells T hx room (fun there => ?_) fun K no gap full => ?_)
  · dsimp only
    exact wpAny_pure (go false s.heap L es ep t (Heap.SameBut.refl a s.heap) T (fun _ => rfl) fun z => absurd there z)
  dsimp only
  apply wpAny_bind
  apply wpAny_setState_of ho hd T.fits
  dsimp only
  obtain ⟨q1, q2, q3, q4, q5, q6, q7, q8, q9⟩ := T.table.put gap full
  generalize hpt : t.put (way t.mask (PySem.tupleKeyHash kd k) K) = pt at *
  obtain ⟨t1, n⟩ := pt
  dsimp only at q1 q3 q4 q5 q6 q7 q8 q9 ⊢
  subst q1
  generalize hn : SetTable.below t.place (way t.mask (PySem.tupleKeyHash kd k) K) = n at *
  have perm := put_perm L n (x, k)
  have rows1 : (SetTable.insertAt es n (PySem.tupleKeyHash kd k, Value.ref x)).toList = (L.take n ++ (x, k) :: L.drop n).map fun p => (hsh kd p, Value.ref p.1) := by
    rw [SetTable.toList_insertAt, rows_in, T.rows]
  have table1 : TabOk t1 ((L.take n ++ (x, k) :: L.drop n).map (hsh kd)) := by
    rw [List.map_append, List.map_cons, List.map_take, List.map_drop]
    exact q3
  have len1 : (L.take n ++ (x, k) :: L.drop n).length = L.length + 1 := perm.length_eq
  have once1 : ((L.take n ++ (x, k) :: L.drop n).map (·.2)).Nodup := by
    refine (perm.map (·.2)).nodup_iff.mpr ?_
    rw [List.map_cons]
    exact List.nodup_cons.mpr ⟨no, T.once⟩
  have keys0 : ∀ p ∈ L.take n ++ (x, k) :: L.drop n, PySem.IsTupleKey kd s.heap p.2 p.1 := fun p hp => (List.mem_cons.mp (perm.mem_iff.mp hp)).elim (fun e => by rw [e]; exact hx) (T.keys p)
  generalize hes : SetTable.insertAt es n (PySem.tupleKeyHash kd k, Value.ref x) = es1 at *
  generalize hL : L.take n ++ (x, k) :: L.drop n = L1 at *
  -- whether the tuple hashes by its value: any answer
  have store : ∀ t2 : SetTable, t2.place = t1.place → t2.dummies = t1.dummies → t2.mask = t1.mask → t2.tooFull = t1.tooFull → wpAny (model P w) A (do
      storeSet a es1 t2
      if !false && t2.tooFull then setRelay a (SetTable.grown (es.size + 1))
      return true) Q E s := by
    intro t2 p2 d2 m2 f2
    have table2 : TabOk t2 (L1.map (hsh kd)) := ⟨by rw [p2]; exact table1.ris, by rw [d2]; exact table1.dm, by rw [p2]; exact table1.sz, by rw [m2]; exact table1.mok, by rw [p2, m2]; exact table1.bd, by rw [p2, m2]; exact table1.reach⟩
    have size1 : es1.size = L.length + 1 := by rw [← Array.length_toList, rows1, List.length_map, len1]
    apply wpAny_bind
    apply wpAny_storeSet_of ho hd _ (by rw [size1, sizeLine_eq]; omega)
    have same : Heap.SameBut a s.heap (s.heap.update a (Obj.putSet es1 t2)) := Heap.SameBut.update ..
    have ho1 := store_at (es' := es1) (t' := t2) ho hd
    generalize s.heap.update a (Obj.putSet es1 t2) = h1 at same ho1 ⊢
    have keys1 : ∀ p ∈ L1, PySem.IsTupleKey kd h1 p.2 p.1 := fun p hp => key_same (keys0 p hp) ho hd same
    have mask2 : t2.mask = t.mask := m2.trans q4
    have full1 : t1.tooFull = decide ((L.length + 1) * 5 ≥ t.mask * 3) := by
      unfold SetTable.tooFull
      rw [q9, q4, List.length_map]
    cases full : t1.tooFull with
    | false =>
      rw [f2, full]
      simp only [Bool.and_false, Bool.false_eq_true, if_false]
      try refine wpAny_bind (wpAny_pure ?_)
      refine wpAny_pure (go true h1 L1 es1 (ep + 1) t2 same ⟨⟨_, ho1, ⟨ex.1, ex.2.1, ex.2.2⟩, rfl⟩, rows1, table2, once1, keys1, ?_, by rw [len1]; exact few⟩ (fun z => absurd z no) fun _ => perm)
      rw [full] at full1
      have := of_decide_eq_false full1.symm
      rw [len1, mask2]
      omega
    | true =>
      rw [f2, full]
      simp only [Bool.not_false, Bool.and_true, if_true]
      rw [full] at full1
      have over := of_decide_eq_true full1.symm
      have places2 : t2.place.size = L1.length := by rw [table2.sz, List.length_map]
      have again : ∀ M, SetTable.sizeAbove (SetTable.grown (L.length + 1)) - 1 = M → MaskOk M → SetTable.sizeAbove (SetTable.grown (L.length + 1)) ≤ 128 → (L.length + 1) * 5 < M * 3 → L.length + 1 ≤ t.mask →
          wpAny (model P w) A (do
            setRelay a (SetTable.grown (L.length + 1))
            return true) Q E { s with heap := h1 } := by
        intro M is ok most loose1 fit
        apply wpAny_bind
        refine relay_on (s := { s with heap := h1 }) ho1 ⟨ex.1, ex.2.1, ex.2.2⟩ rfl rows1 places2 table2.dm (by rw [len1, mask2]; exact fit) once1 keys1 (by rw [len1]; exact few) is ok most (by rw [len1]; exact loose1) ?_
        intro h2 L2 es2 ep2 t3 same2 T2 perm2
        exact wpAny_pure (go true h2 L2 es2 ep2 t3 (same.trans same2) T2 (fun z => absurd z no) fun _ => perm2.trans perm)
      rw [size]
      rcases T.table.mok with e | e | e
      · have l4 : L.length = 4 := by rw [e] at over loose; omega
        exact again 31 (by rw [l4, size_20]) (.inr (.inl rfl)) (by rw [l4, size_20]; decide) (by omega) (by omega)
      · have l18 : L.length = 18 := by rw [e] at over loose; omega
        exact again 127 (by rw [l18, size_76]) (.inr (.inr rfl)) (by rw [l18, size_76]; decide) (by omega) (by omega)
      · rw [e] at over
        omega
  cases plain : t1.plain with
  | true =>
    simp only [if_true]
    apply wpAny_bind
    refine val_of tells hx fun c => ?_
    cases c with
    | true => exact store t1 rfl rfl rfl rfl
    | false => exact store { t1 with plain := false } rfl rfl rfl rfl
  | false =>
    simp only [Bool.false_eq_true, if_false]
    refine wpAny_bind (wpAny_pure ?_)
    exact store t1 rfl rfl rfl rfl
end
end LN

namespace LN
open PySem PySem.Spec PyProof.Rows L2
/-- the set L has got the first i of these tuples -/
structure Has {κ : Type} (ks : List (Addr × List κ)) (i : Nat) (L : List (Addr × List κ)) : Prop where
  from_ : ∀ p ∈ L, p ∈ ks.take i
  all : ∀ k, k ∈ L.map (·.2) ↔ k ∈ (ks.take i).map (·.2)
  few : L.length ≤ i
theorem Has.none {κ : Type} (ks : List (Addr × List κ)) : Has ks 0 [] := ⟨fun _ h => absurd h List.not_mem_nil, fun k => by simp, Nat.le_refl _⟩
theorem Has.next {κ : Type} [DecidableEq κ] {ks L L' : List (Addr × List κ)} {i : Nat} {p : Addr × List κ} (h : Has ks i L) (e : ks[i]? = some p) (old : p.2 ∈ L.map (·.2) → L' = L) (new : p.2 ∉ L.map (·.2) → L'.Perm (p :: L)) : Has ks (i + 1) L' := by
  have tk : ks.take (i + 1) = ks.take i ++ [p] := by
    rw [List.take_succ, e]
    rfl
  have all : ∀ k, k ∈ (ks.take (i + 1)).map (·.2) ↔ k ∈ (ks.take i).map (·.2) ∨ k = p.2 := fun k => by
    rw [tk, List.map_append, List.mem_append]
    simp
  by_cases there : p.2 ∈ L.map (·.2)
  · rw [old there]
    refine ⟨fun q hq => ?_, fun k => ?_, Nat.le_succ_of_le h.few⟩
    · rw [tk]
      exact List.mem_append_left _ (h.from_ q hq)
    · rw [all, ← h.all]
      exact ⟨.inl, fun z => z.elim id fun z => z ▸ there⟩
  · have pm := new there
    refine ⟨fun q hq => ?_, fun k => ?_, ?_⟩
    · rw [tk]
      rcases List.mem_cons.mp (pm.mem_iff.mp hq) with z | z
      · rw [z]
        exact List.mem_append_right _ List.mem_cons_self
      · exact List.mem_append_left _ (h.from_ q z)
    · rw [all, ← h.all, (pm.map (·.2)).mem_iff, List.map_cons, List.mem_cons]
      exact ⟨fun z => z.elim .inr .inl, fun z => z.elim .inr .inl⟩
    · rw [pm.length_eq]
      exact Nat.succ_le_succ h.few
section
variable {P : Program} {w : World} {κ : Type} [DecidableEq κ] {kd : PySem.KeyKind P w κ} {A : Around} {E : Value → Shared → Prop} {s : Shared}
theorem key_keep {h h' : Heap} {k : List κ} {b : Addr} (x : PySem.IsTupleKey kd h k b) (on : ∀ c o, h.get? c = some o → h'.get? c = some o) : PySem.IsTupleKey kd h' k b := by
  obtain ⟨o, items, n, ho, r⟩ := x
  exact ⟨o, items, n, on b o ho, r⟩
theorem TSet.keep {h h' : Heap} {a : Addr} {L : List (Addr × List κ)} {es : Array (Int × Value)} {ep : Nat} {t : SetTable} (T : TSet kd h a L es ep t) (on : ∀ o, h.get? a = some o → h'.get? a = some o) (keys : ∀ p ∈ L, PySem.IsTupleKey kd h' p.2 p.1) : TSet kd h' a L es ep t := by
  obtain ⟨o, ho, r⟩ := T.there
  exact ⟨⟨o, on o ho, r⟩, T.rows, T.table, T.once, keys, T.loose, T.few⟩
theorem tset_new {h : Heap} {a : Addr} {b : Bool} (ho : h.get? a = some { cls := .type "set", dict := none, data := .set #[] 0 (.fresh 0 0 b) }) : TSet kd h a [] #[] 0 (.fresh 0 0 b) := by
  refine ⟨⟨_, ho, ⟨rfl, rfl, rfl⟩, rfl⟩, rfl, ⟨List.Pairwise.nil, rfl, rfl, .inl rfl, fun x hx => absurd hx (by show x ∉ ([] : List Nat); exact List.not_mem_nil), fun i h j hi => by simp at hi⟩, List.nodup_nil, fun p hp => absurd hp List.not_mem_nil, ?_, ?_⟩
  · show 0 * 5 < 7 * 3
    decide
  · show 0 < 64
    decide
/-- the loop of a set's update, over anything that walks -/
theorem update_on (tells : Tells kd) {I : Addr} {fp wr : List Addr} {g : Array GenState → Array GenState → Prop} {n : Nat} {Pv : Nat → Value → Prop} {St : Nat → Shared → Prop} {R : Result → Shared → Prop} (Wk : WalksS P w A.in1 I fp wr g n Pv St) (S : Addr) (apart : S ∉ fp)
    (ks : List (Addr × List κ)) (many : n = ks.length) (few : ks.length < 64) (item : ∀ i v, Pv i v → ∃ p, ks[i]? = some p ∧ v = .ref p.1) (h0 : Heap) (keys : ∀ p ∈ ks, PySem.IsTupleKey kd h0 p.2 p.1) (newS : h0.get? S = none) (newW : ∀ b ∈ wr, h0.get? b = none) (room : A.in1.units < cLine) :
    ∀ (j i : Nat) (s : Shared), n - i = j → i ≤ n → St i s → (∀ b o, h0.get? b = some o → s.heap.get? b = some o) → (∃ L es ep t, TSet kd s.heap S L es ep t ∧ Has ks i L) →
      (∀ s' L es ep t, Moved (S :: wr) g s s' → TSet kd s'.heap S L es ep t → Has ks n L → (∀ b o, h0.get? b = some o → s'.heap.get? b = some o) → R (.ok (.ret .none)) s') →
      codeAny (model P w) A (.builtin "set.update.loop" ⟨[.ref S, .ref I], []⟩) R s := by
  have apartW : S ∉ wr := fun z => apart (Wk.sub _ z)
  have wider : ∀ b ∈ wr, b ∈ S :: wr := fun b hb => List.mem_cons_of_mem _ hb
  have kept : ∀ {s s' : Shared}, Moved wr g s s' → (∀ b o, h0.get? b = some o → s.heap.get? b = some o) → ∀ b o, h0.get? b = some o → s'.heap.get? b = some o := by
    intro s s' mv on b o e
    exact mv.heap b o (fun hb => by rw [newW b hb] at e; cases e) (on b o e)
  intro j
  induction j with
  | zero =>
    intro i s hj hi st on ⟨L, es, ep, t, T, has⟩ go
    obtain rfl : i = n := by omega
    refine codeAny_builtin F.entry_set_update_loop ?_
    rw [Around.under_plainId F.plain_set_update_loop _]
    show wpAny _ A.in1 (pyNext (.ref I) >>= _) _ _ s
    refine wpAny_bind (Wk.done s _ _ st fun s' mv => ?_)
    show wpAny _ A.in1 (ret Value.none) _ _ s'
    have on' := kept mv on
    refine wpAny_pure (go s' L es ep t (mv.mono wider) (T.keep (fun o e => mv.heap S o apartW e) fun p hp => ?_) has on')
    exact key_keep (keys p (List.mem_of_mem_take (has.from_ p hp))) on'
  | succ j ih =>
    intro i s hj hi st on ⟨L, es, ep, t, T, has⟩ go
    have lt : i < n := by omega
    refine codeAny_builtin F.entry_set_update_loop ?_
    rw [Around.under_plainId F.plain_set_update_loop _]
    show wpAny _ A.in1 (pyNext (.ref I) >>= _) _ _ s
    refine wpAny_bind (Wk.item i s _ _ lt st fun v s' hv st' mv => ?_)
    obtain ⟨p, hp, rfl⟩ := item i v hv
    have on' := kept mv on
    have T' : TSet kd s'.heap S L es ep t := T.keep (fun o e => mv.heap S o apartW e) fun q hq => key_keep (keys q (List.mem_of_mem_take (has.from_ q hq))) on'
    have hx : PySem.IsTupleKey kd s'.heap p.2 p.1 := key_keep (keys p (List.mem_of_getElem? hp)) on'
    show wpAny _ A.in1 (holding [Value.ref p.1] (setAdd S (.ref p.1)) >>= _) _ _ s'
    refine wpAny_bind (wpAny_holding ?_)
    unfold setAdd
    apply wpAny_holding
    refine wpAny_bind (wpAny_pyHash_tuple room hx ?_)
    have := has.few
    refine add_on (s := { s' with toks := s'.toks + (p.2.length + 1) }) tells T' hx room (by omega) fun b h' L' es' ep' t' same T2 old new => ?_
    have has' : Has ks (i + 1) L' := has.next hp old new
    have off : ∀ b o, b ≠ S → s'.heap.get? b = some o → h'.get? b = some o := fun b o z e => (same.2 b z).trans e
    have on2 : ∀ b o, h0.get? b = some o → h'.get? b = some o := fun b o e => off b o (fun z => by rw [z, newS] at e; cases e) (on' b o e)
    refine wpAny_pure ⟨plainId_quiet F.plain_set_update_loop _, ih (i + 1) _ (by omega) lt (Wk.frame _ s' _ _ st' (Nat.le_add_right _ _) fun b hb o e => off b o (fun z => apart (z ▸ hb)) e) on2 ⟨L', es', ep', t', T2, has'⟩ ?_⟩
    intro s'' L2 es2 ep2 t2 mv2 T3 has2 on3
    exact go s'' L2 es2 ep2 t2 (Moved.trans Wk.gtrans ((mv.mono wider).then_heap (Nat.le_add_right _ _) fun b o hb e => off b o (fun z => hb (z ▸ List.mem_cons_self)) e) mv2) T3 has2 on3
/-- a sequence at l of these items, of the class c, and how it is walked -/
structure Src (P : Program) (w : World) (c : String) (l : Addr) (items : Array Value) : Prop where
  sets : isSubtype (.type c) (.type "set") = pure false
  frozen : isSubtype (.type c) (.type "frozenset") = pure false
  dict : (Value.type c == Value.type "dict") = false
  iter : ∀ (A : Around) (s : Shared) (E : Value → Shared → Prop) (Q : Value → Shared → Prop), A.handled = none → (∃ o n, s.heap.get? l = some o ∧ o.cls = .type c ∧ o.data = .seq items n) → l < s.heap.objs.size →
    (∀ (I : Addr) (fp wr : List Addr) (g : Array GenState → Array GenState → Prop) (St : Nat → Shared → Prop) (s' : Shared), WalksS P w A I fp wr g items.size (fun i v => items[i]? = some v) St → I = s.heap.objs.size → (∀ b ∈ fp, b = s.heap.objs.size ∨ b = l) → (∀ b ∈ wr, b = s.heap.objs.size) → St 0 s' →
      (∀ b o, s.heap.get? b = some o → s'.heap.get? b = some o) → s'.gens = s.gens → s'.drawn = s.drawn → s'.os = s.os → Q (.ref I) s') → wpAny (model P w) A (pyIter (.ref l)) Q E s
end
end LN

namespace LN
open PySem PySem.Spec PyProof.Rows L2
/-- a list or a tuple at l, and what is said of how it is walked -/
def seqOb (c : String) (items : Array Value) (dd : Option Addr) (n : Nat) (sl : Array (Option Value)) : Obj := { cls := .type c, dict := dd, data := .seq items n, slots := sl }
def itOb (i : String) (l : Addr) : Obj := { cls := .type i, data := .fields #[.ref l, .int 0 0] }
structure Seqs (P : Program) (w : World) (c i : String) : Prop where
  noSet : isSubtype (.type c) (.type "set") = pure false
  noFroz : isSubtype (.type c) (.type "frozenset") = pure false
  noDict : (Value.type c == Value.type "dict") = false
  start : ∀ (A : Around) (E Q : Value → Shared → Prop) (s : Shared) (l : Addr) items dd n sl, s.heap.get? l = some (seqOb c items dd n sl) → Q (.ref s.heap.objs.size) { s with heap := s.heap.push (itOb i l) } → wpAny (model P w) A (pyIter (.ref l)) Q E s
  walk : ∀ (A : Around) (I l : Addr) (items : Array Value), A.handled = none → l ≠ I → ∃ (g : Array GenState → Array GenState → Prop) (St : Nat → Shared → Prop), WalksS P w A I [I, l] [I] g items.size (fun i v => items[i]? = some v) St ∧ (∀ a b, g a b → b = a) ∧
    ∀ (s : Shared) dd n sl, s.heap.get? I = some (itOb i l) → s.heap.get? l = some (seqOb c items dd n sl) → St 0 s
theorem seqs_list (P : Program) (w : World) : Seqs P w "list" "list_iterator" where
  noSet := F.sub_list_set
  noFroz := F.sub_list_frozenset
  noDict := by decide
  start := fun A E Q s l items dd n sl h q => wpAny_pyIter_list ⟨_, h, rfl, n, rfl⟩ q
  walk := fun A I l items h ne => ⟨_, _, (Walks.list h I l ne items).toS, fun a b e => e, fun s dd n sl h1 h2 => ⟨⟨_, h1, rfl, rfl⟩, ⟨_, h2, rfl, n, rfl⟩⟩⟩
theorem seqs_tuple (P : Program) (w : World) : Seqs P w "tuple" "tuple_iterator" where
  noSet := F.sub_tuple_set
  noFroz := F.sub_tuple_frozenset
  noDict := by decide
  start := fun A E Q s l items dd n sl h q => wpAny_pyIter_tuple ⟨_, h, rfl, n, rfl⟩ q
  walk := fun A I l items h ne => ⟨_, _, (Walks.tuple h I l ne items).toS, fun a b e => e, fun s dd n sl h1 h2 => ⟨⟨_, h1, rfl, rfl⟩, ⟨_, h2, rfl, n, rfl⟩⟩⟩
section
variable {P : Program} {w : World} {κ : Type} [DecidableEq κ] {kd : PySem.KeyKind P w κ} {A : Around} {E : Value → Shared → Prop} {s : Shared}
/-- a new set, empty -/
def noneOb (b : Bool) : Obj := { cls := .type "set", dict := none, data := .set #[] 0 (.fresh 0 0 b) }
set_option maxHeartbeats 3200000 in
/-- set(l), l a list or a tuple of such tuples -/
theorem call_set_on (tells : Tells kd) {c i : String} (Z : Seqs P w c i) {l : Addr} {items : Array Value} {dd : Option Addr} {m : Nat} {sl : Array (Option Value)} (ks : List (Addr × List κ)) {Q : Value → Shared → Prop} (calm : A.handled = none)
    (there : s.heap.get? l = some (seqOb c items dd m sl)) (its : items.toList = ks.map fun p => Value.ref p.1) (keys : ∀ p ∈ ks, PySem.IsTupleKey kd s.heap p.2 p.1) (few : ks.length < 64) (room : A.units + 3 < cLine)
    (go : ∀ (h' : Heap) (tk : Nat) L es ep t, TSet kd h' s.heap.objs.size L es ep t → Has ks ks.length L → (∀ b o, s.heap.get? b = some o → h'.get? b = some o) → Q (.ref s.heap.objs.size) { s with heap := h', toks := tk }) :
    wpAny (model P w) A (call (.type "set") [.ref l]) Q E s := by
  have many : items.size = ks.length := by
    have e := congrArg List.length its
    simpa using e
  obtain ⟨cc, tl, mro⟩ := F.called_set.mro
  have hmade := F.called_set.made; have hsub := F.called_set.sub
  refine wpAny_call (codeAny_of_tree ?_); show wpAny _ _ (callAny (.type "set") _) _ _ _
  refine wpAny_pure ⟨Code.quiet_builtin _ (by decide +kernel), codeAny_builtin F.entry_type_call ?_⟩; rw [Around.under_plain (weight_type_call_type "set" [.ref l] []) rfl]
  have h1 := F.called_set.notType; have h2 := F.called_set.canCreate; have h3 := F.typeCall_set_1 (.ref l)
  repeat (any_goals (first | assumption | wp_step))
  let led : Bool := !w.params.followText "set-order"
  refine codeAny_mono (code_set_led1 (.ref l) (E := E) (Q₁ := fun ob s₁ => ob = .ref s.heap.objs.size ∧ s₁ = { s with heap := s.heap.push (noneOb led) }) ⟨rfl, rfl⟩) fun r s₁ got => ?_
  cases r with
  | error e => exact got
  | ok fl =>
    cases fl with
    | next => exact got.elim
    | brk => exact got.elim
    | cont => exact got.elim
    | ret ob =>
      obtain ⟨rfl, rfl⟩ := got
      have atS : (s.heap.push (noneOb led)).get? s.heap.objs.size = some (noneOb led) := Heap.get?_push_size _ rfl
      have tyS : Shared.TypeIs { s with heap := s.heap.push (noneOb led) } (.ref s.heap.objs.size) "set" := ⟨_, atS, rfl⟩
      have hli := F.called_set.init.lookup; have hbi := F.called_set.init.bind (.ref s.heap.objs.size)
      repeat (any_goals (first | assumption | wp_step))
      refine codeAny_mono (codeAny_call_builtin (R := wants (fun r s₂ => r = .none ∧ ∃ h' tk L es ep t, s₂ = { s with heap := h', toks := tk } ∧ TSet kd h' s.heap.objs.size L es ep t ∧ Has ks ks.length L ∧ (∀ b o, s.heap.get? b = some o → h'.get? b = some o)) E)
        F.called_set.init.plain F.entry_set_init (check_set_init_1 tyS ?_)) fun r₂ s₂ got₂ => ?_
      · have hol' : (s.heap.push (noneOb led)).get? l = some { cls := .type c, dict := dd, data := .seq items m, slots := sl } := Heap.get?_push_of_some _ there
        have hsls := Z.noSet; have hslf := Z.noFroz; have hne := Z.noDict
        unfold Builtin.«set.__init__» noKeywords Builtin.Frozenset.updateFrom
        generalize hPI : pyIter = PI
        wp_walk
        subst hPI
        refine Z.start _ _ _ _ l items dd m sl hol' ?_
        refine wpAny_bind (wpAny_runValue ?_)
        have below : l < s.heap.objs.size := Heap.lt_size there
        have grown : (s.heap.push (noneOb led)).objs.size = s.heap.objs.size + 1 := Heap.size_push ..
        have calm3 : A.in1.in1.in1.handled = none := by simp [calm]
        obtain ⟨g, St, W, gs, st0⟩ := Z.walk A.in1.in1.in1 (s.heap.push (noneOb led)).objs.size l items calm3 (by rw [grown]; exact Nat.ne_of_lt (Nat.lt_succ_of_lt below))
        have gone : ∀ b, s.heap.objs.size ≤ b → s.heap.get? b = none := fun b hb => by
          cases q : s.heap.get? b with
          | none => rfl
          | some o => exact absurd (Heap.lt_size q) (Nat.not_lt.mpr hb)
        have item : ∀ (j : Nat) (v : Value), items[j]? = some v → ∃ p, ks[j]? = some p ∧ v = .ref p.1 := fun j v hv => by
          have q : (ks.map fun p => Value.ref p.1)[j]? = some v := by
            rw [← its, Array.getElem?_toList]
            exact hv
          rw [List.getElem?_map] at q
          obtain ⟨p, e1, e2⟩ := Option.map_eq_some_iff.mp q
          exact ⟨p, e1, e2.symm⟩
        have apart : s.heap.objs.size ∉ [(s.heap.push (noneOb led)).objs.size, l] := by
          rw [grown]
          intro z
          rcases List.mem_cons.mp z with z | z
          · exact Nat.ne_of_lt (Nat.lt_succ_self _) z
          · rw [List.mem_singleton] at z
            exact Nat.ne_of_gt below z
        refine update_on tells W s.heap.objs.size apart ks many few item s.heap keys (gone _ (Nat.le_refl _)) (fun b hb => gone b (by rw [List.mem_singleton.mp hb, grown]; exact Nat.le_succ _)) (by show A.units + 1 + 1 + 1 < cLine; omega) (items.size - 0) 0 _ (by omega) (Nat.zero_le _)
          (st0 _ dd m sl (Heap.get?_push_size _ rfl) (Heap.get?_push_of_some _ hol')) (fun b o e => Heap.get?_push_of_some _ (Heap.get?_push_of_some _ e)) ⟨[], #[], 0, _, tset_new (Heap.get?_push_of_some _ atS), Has.none ks⟩ ?_
        intro s' L es ep t mv T has on
        obtain ⟨h', g2, d', tk', os'⟩ := s'
        have eg : g2 = s.gens := gs _ _ mv.gens
        have ed : d' = s.drawn := mv.drawn
        have eo : os' = s.os := mv.os
        subst eg; subst ed; subst eo
        show wpAny _ _ _ _ _ _
        refine wpAny_pure ?_
        show wpAny _ _ (ret Value.none) _ _ _
        rw [many] at has
        exact wpAny_pure ⟨rfl, h', tk', L, es, ep, t, rfl, T, has, on⟩
      · cases r₂ with
        | error e => exact got₂
        | ok fl₂ =>
          cases fl₂ with
          | next => exact got₂.elim
          | brk => exact got₂.elim
          | cont => exact got₂.elim
          | ret r =>
            obtain ⟨rfl, h', tk, L, es, ep, t, rfl, T, has, on⟩ := got₂
            repeat (any_goals (first | assumption | wp_step))
            exact go _ _ _ _ _ _ T has on
end
end LN

namespace LN
open PySem PySem.Spec PyProof.Rows L2
/-! how many different ones there are -/
theorem nodup_size {α : Type} [DecidableEq α] : ∀ {l m : List α}, l.Nodup → (∀ x ∈ l, x ∈ m) → l.length ≤ m.length ∧ (l.length = m.length → m.Nodup)
  | [], m, _, _ => ⟨Nat.zero_le _, fun e => by
      have : m = [] := List.length_eq_zero_iff.mp e.symm
      rw [this]
      exact List.nodup_nil⟩
  | x :: l, m, hn, hs => by
    obtain ⟨nx, nl⟩ := List.nodup_cons.mp hn
    have hx : x ∈ m := hs x List.mem_cons_self
    have sub : ∀ y ∈ l, y ∈ m.erase x := fun y hy => (List.mem_erase_of_ne (fun z : y = x => nx (by rw [← z]; exact hy))).mpr (hs y (List.mem_cons_of_mem _ hy))
    obtain ⟨h1, h2⟩ := nodup_size (l := l) (m := m.erase x) nl sub
    have le : (m.erase x).length = m.length - 1 := List.length_erase_of_mem hx
    have pos : 0 < m.length := List.length_pos_of_mem hx
    refine ⟨by rw [List.length_cons]; omega, fun e => ?_⟩
    rw [List.length_cons] at e
    have ne : (m.erase x).Nodup := h2 (by omega)
    have notin : x ∉ m.erase x := fun z => by
      have : (x :: l).length ≤ (m.erase x).length := (nodup_size' (x := x) (l := l) (m := m.erase x) hn fun y hy => (List.mem_cons.mp hy).elim (fun e => e ▸ z) (sub y))
      rw [List.length_cons] at this
      omega
    exact (List.perm_cons_erase hx).nodup_iff.mpr (List.nodup_cons.mpr ⟨notin, ne⟩)
where
  nodup_size' {α : Type} [DecidableEq α] {x : α} : ∀ {l m : List α}, (x :: l).Nodup → (∀ y ∈ x :: l, y ∈ m) → (x :: l).length ≤ m.length := fun {l m} h s => by
    have gen : ∀ (l m : List α), l.Nodup → (∀ y ∈ l, y ∈ m) → l.length ≤ m.length := by
      intro l
      induction l with
      | nil => exact fun m _ _ => Nat.zero_le _
      | cons a l ih =>
        intro m hn hs
        obtain ⟨na, nl⟩ := List.nodup_cons.mp hn
        have ha : a ∈ m := hs a List.mem_cons_self
        have := ih (m.erase a) nl fun y hy => (List.mem_erase_of_ne (fun z : y = a => na (by rw [← z]; exact hy))).mpr (hs y (List.mem_cons_of_mem _ hy))
        have le : (m.erase a).length = m.length - 1 := List.length_erase_of_mem ha
        have pos : 0 < m.length := List.length_pos_of_mem ha
        rw [List.length_cons]
        omega
    exact gen _ _ h s
/-- a set at a, of n things -/
def setN (a : Addr) (n : Nat) : HO := .ext fun h => n < 64 ∧ ∃ o es ep t, h.get? a = some o ∧ o.ExactSet ∧ o.data = .set es ep t ∧ t.fits es.size = true ∧ es.size = n
section
variable {P : Program} {w : World} {κ : Type} [DecidableEq κ] {kd : PySem.KeyKind P w κ}
theorem setN_ok {H : Hp} {h : Heap} {a : Addr} {L : List (Addr × List κ)} {es : Array (Int × Value)} {ep : Nat} {t : SetTable} (T : TSet kd h a L es ep t) : ObjOk P w H h a (setN a L.length) := by
  obtain ⟨o, ho, ex, hd⟩ := T.there
  refine ⟨⟨T.few, o, es, ep, t, ho, ex, hd, T.fits, T.size⟩, ⟨o, ho⟩, fun h1 h2 q st => ?_⟩
  obtain ⟨few, o', es', ep', t', ho', r⟩ := q
  exact ⟨few, o', es', ep', t', st o' ho', r⟩
end
theorem strs_are {P : Program} {w : World} : ∀ {ks : List Str} {us : List Value}, Vals (ks.map V.str) us → PySem.ItemsAre (PySem.strKind P w) ks us
  | [], _, .nil => .nil
  | x :: ks, _, .cons h t => .cons (by
      obtain ⟨t', rfl⟩ := h
      show Value.isStrOf x (.str x t') = true
      simp [Value.isStrOf]) (strs_are t)
theorem refs_are {α : Type} : ∀ {ks : List (Addr × α)} {us : List Value}, Vals (ks.map fun p => V.ref p.1) us → us = ks.map fun p => Value.ref p.1
  | [], _, .nil => rfl
  | p :: ks, _, .cons h t => by
    cases (show _ = Value.ref p.1 from h)
    rw [List.map_cons, ← refs_are t]
section
variable {X : Cx}
theorem inv_key {pins : List (Addr × Obj)} {σ : L2.St} {H : Hp} {s : Shared} {b : Addr} {k : List Str} (I : Inv X pins σ H s) (h : SqT X.K H b (k.map V.str)) : PySem.IsTupleKey (PySem.strKind X.prog X.w) s.heap k b := by
  obtain ⟨its, r, ⟨o, ho, hc, n, hd⟩, _⟩ := I.tuple h
  exact ⟨o, its.toArray, n, ho, hc, hd, by simpa using strs_are r⟩
/-- set(xs), xs a list or a tuple of names -/
def rSetN (K : PySem.W.Frag) : List V → Hp → VK → Prop := fun xs H Q => ∃ (l : Addr) (ks : List (Addr × List Str)), xs = [.ref l] ∧ (SqL K H l (ks.map fun p => V.ref p.1) ∨ SqT K H l (ks.map fun p => V.ref p.1)) ∧ (∀ p ∈ ks, SqT K H p.1 (p.2.map V.str)) ∧ ks.length < 64 ∧
  ∀ a n, H a = none → n ≤ ks.length → (n = ks.length ↔ (ks.map (·.2)).Nodup) → Q (.ref a) (upd H a (setN a n))
theorem cr_setN (hc : X.calm = true) (hu : X.A.units + 64 < cLine) : CallR X (.type "set") (rSetN X.K) := by
  rintro pins s σ H xs us Q I rel ⟨l, ks, rfl, there, names, few, q⟩
  obtain ⟨u, rfl, ru⟩ := vals1 rel
  obtain rfl : u = Value.ref l := ru
  have new : H s.heap.objs.size = none := I.hok.fresh (Nat.le_refl _)
  have fin : ∀ (h' : Heap) (tk : Nat) L es ep t, TSet (PySem.strKind X.prog X.w) h' s.heap.objs.size L es ep t → Has ks ks.length L → (∀ b o, s.heap.get? b = some o → h'.get? b = some o) → EP X pins σ Q (.ref s.heap.objs.size) { s with heap := h', toks := tk } := by
    intro h' tk L es ep t T has on
    refine ⟨.ref s.heap.objs.size, _, I.laid (t' := tk) on (Nat.le_refl _) (setN_ok T), rfl, q _ L.length new ?_ ?_⟩
    · exact has.few
    · have sub : ∀ x ∈ L.map (·.2), x ∈ ks.map (·.2) := fun x hx => by
        have := (has.all x).mp hx
        rw [List.take_length] at this
        exact this
      have sup : ∀ x ∈ ks.map (·.2), x ∈ L.map (·.2) := fun x hx => (has.all x).mpr (by rw [List.take_length]; exact hx)
      constructor
      · intro e
        exact (nodup_size T.once sub).2 (by rw [List.length_map, List.length_map]; exact e)
      · intro nd
        have a1 := (nodup_size T.once sub).1
        have a2 := (nodup_size nd sup).1
        rw [List.length_map, List.length_map] at a1 a2
        omega
  have keys : ∀ p ∈ ks, PySem.IsTupleKey (PySem.strKind X.prog X.w) s.heap p.2 p.1 := fun p hp => inv_key I (names p hp)
  rcases there with there | there
  · obtain ⟨its, rv, pl, _⟩ := I.list there
    obtain ⟨⟨cls, dd, data, sl⟩, ho, hcl, n, hd⟩ := pl.isList
    simp only at hcl hd
    subst hcl hd
    exact call_set_on (strs_tell _ _) (seqs_list _ _) ks (I.ok.hd hc) ho (by simpa using refs_are rv) keys few (by omega) fin
  · obtain ⟨its, rv, ⟨⟨cls, dd, data, sl⟩, ho, hcl, n, hd⟩, _⟩ := I.tuple there
    simp only at hcl hd
    subst hcl hd
    exact call_set_on (strs_tell _ _) (seqs_tuple _ _) ks (I.ok.hd hc) ho (by simpa using refs_are rv) keys few (by omega) fin
/-- len of such a set -/
theorem cr_lenN : CallR X (.builtin "len") (fun xs H Q => ∃ a n, xs = [.ref a] ∧ H a = some (setN a n) ∧ Q (.int n) H) := by
  rintro pins s σ H xs us Q I rel ⟨a, n, rfl, ha, q⟩
  obtain ⟨u, rfl, ru⟩ := vals1 rel
  obtain rfl : u = Value.ref a := ru
  obtain ⟨few, o, es, ep, t, ho, ex, hd, fits, sz⟩ := (show ObjOk X.prog X.w H s.heap a (setN a n) from I.hok a _ ha).1
  exact PySem.call_len_set ho ex hd fits (by omega) ⟨.int n, H, I.tok _, ⟨_, by rw [sz]⟩, q⟩
end
end LN

namespace LN
open PySem PySem.Spec PyProof.Rows L2
/-! strict orders in which any two that differ compare, and their lists -/
structure SLin {α : Type} (lt : α → α → Bool) : Prop where
  irr : ∀ x, lt x x = false
  tr : ∀ x y z, lt x y = true → lt y z = true → lt x z = true
  tri : ∀ x y, lt x y = false → lt y x = false → x = y
section
variable {α : Type} {lt : α → α → Bool}
theorem SLin.asym (L : SLin lt) {x y : α} (h : lt x y = true) : lt y x = false := by
  cases e : lt y x with
  | false => rfl
  | true =>
    have := L.tr _ _ _ h e
    rw [L.irr] at this
    cases this
theorem SLin.swo (L : SLin lt) : SrtO.Swo lt := by
  refine ⟨fun x y h => L.asym h, fun x y z h1 h2 => ?_⟩
  cases e : lt z x with
  | false => rfl
  | true =>
    cases e2 : lt y z with
    | true =>
      have := L.tr _ _ _ e2 e
      rw [h1] at this
      cases this
    | false =>
      have := L.tri _ _ h2 e2
      rw [this, h1] at e
      cases e
def lexO (lt : α → α → Bool) : List α → List α → Bool
  | _, [] => false
  | [], _ :: _ => true
  | x :: xs, y :: ys => lt x y || (!lt y x && lexO lt xs ys)
theorem lexO_cons {x y : α} {xs ys : List α} : lexO lt (x :: xs) (y :: ys) = true ↔ lt x y = true ∨ (lt y x = false ∧ lexO lt xs ys = true) := by
  show (lt x y || (!lt y x && lexO lt xs ys)) = true ↔ _
  cases lt x y <;> cases lt y x <;> simp
theorem SLin.lex (L : SLin lt) : SLin (lexO lt) := by
  refine ⟨fun l => ?_, fun l => ?_, fun l => ?_⟩
  · induction l with
    | nil => rfl
    | cons x xs ih =>
      show (lt x x || (!lt x x && lexO lt xs xs)) = false
      rw [L.irr, ih]
      rfl
  · induction l with
    | nil =>
      intro m k h1 h2
      cases m with
      | nil => cases h1
      | cons y ys =>
        cases k with
        | nil => cases h2
        | cons z zs => rfl
    | cons x xs ih =>
      intro m k h1 h2
      cases m with
      | nil => cases h1
      | cons y ys =>
        cases k with
        | nil => cases h2
        | cons z zs =>
          rw [lexO_cons] at h1 h2 ⊢
          rcases h1 with a | ⟨a1, a2⟩ <;> rcases h2 with c | ⟨c1, c2⟩
          · exact .inl (L.tr _ _ _ a c)
          · cases e : lt y z with
            | true => exact .inl (L.tr _ _ _ a e)
            | false =>
              have := L.tri _ _ e c1
              rw [← this]
              exact .inl a
          · cases e : lt x y with
            | true => exact .inl (L.tr _ _ _ e c)
            | false =>
              have := L.tri _ _ e a1
              rw [this]
              exact .inl c
          · cases e : lt x y with
            | true =>
              cases e2 : lt y z with
              | true => exact .inl (L.tr _ _ _ e e2)
              | false =>
                have := L.tri _ _ e2 c1
                rw [← this]
                exact .inl e
            | false =>
              have := L.tri _ _ e a1
              rw [this]
              exact .inr ⟨c1, ih _ _ a2 c2⟩
  · induction l with
    | nil =>
      intro m h1 h2
      cases m with
      | nil => rfl
      | cons y ys => cases h1
    | cons x xs ih =>
      intro m h1 h2
      cases m with
      | nil => cases h2
      | cons y ys =>
        have n1 : ¬ (lexO lt (x :: xs) (y :: ys) = true) := by rw [h1]; exact Bool.false_ne_true
        have n2 : ¬ (lexO lt (y :: ys) (x :: xs) = true) := by rw [h2]; exact Bool.false_ne_true
        rw [lexO_cons] at n1 n2
        have a : lt x y = false := by
          cases e : lt x y with
          | false => rfl
          | true => exact absurd (.inl e) n1
        have c : lt y x = false := by
          cases e : lt y x with
          | false => rfl
          | true => exact absurd (.inl e) n2
        have ex := L.tri _ _ a c
        have e1 : lexO lt xs ys = false := by
          cases e : lexO lt xs ys with
          | false => rfl
          | true => exact absurd (.inr ⟨c, e⟩) n1
        have e2 : lexO lt ys xs = false := by
          cases e : lexO lt ys xs with
          | false => rfl
          | true => exact absurd (.inr ⟨a, e⟩) n2
        rw [ex, ih _ e1 e2]
theorem SLin.of {β : Type} (L : SLin lt) (f : β → α) (inj : ∀ x y, f x = f y → x = y) : SLin fun x y => lt (f x) (f y) :=
  ⟨fun x => L.irr _, fun x y z => L.tr _ _ _, fun x y h1 h2 => inj x y (L.tri _ _ h1 h2)⟩
end
def natLt (a b : Nat) : Bool := decide (a < b)
theorem natLin : SLin natLt := by
  refine ⟨fun x => decide_eq_false (Nat.lt_irrefl x), fun x y z h1 h2 => decide_eq_true (Nat.lt_trans (of_decide_eq_true h1) (of_decide_eq_true h2)), fun x y h1 h2 => ?_⟩
  have a := of_decide_eq_false h1
  have b := of_decide_eq_false h2
  omega
theorem lexO_nat : ∀ l m : List Nat, decide (l < m) = lexO natLt l m
  | [], [] => rfl
  | [], b :: m => decide_eq_true (List.nil_lt_cons b m)
  | a :: l, [] => decide_eq_false (List.not_lt_nil _)
  | a :: l, b :: m => by
    have ih := lexO_nat l m
    have e : (a :: l < b :: m) ↔ (a < b ∨ (a = b ∧ l < m)) := List.cons_lt_cons_iff
    by_cases h : lexO natLt (a :: l) (b :: m) = true
    · rw [h]
      refine decide_eq_true (e.mpr ?_)
      rcases lexO_cons.mp h with z | ⟨z1, z2⟩
      · exact .inl (of_decide_eq_true z)
      · have nb : ¬ b < a := of_decide_eq_false z1
        rcases Nat.lt_or_ge a b with q | q
        · exact .inl q
        · exact .inr ⟨by omega, of_decide_eq_true (ih.trans z2)⟩
    · rw [Bool.eq_false_iff.mpr h]
      refine decide_eq_false fun z => h (lexO_cons.mpr ?_)
      rcases e.mp z with q | ⟨q1, q2⟩
      · exact .inl (decide_eq_true q)
      · exact .inr ⟨decide_eq_false (by omega), ih.symm.trans (decide_eq_true q2)⟩
/-- texts in their order -/
def strLt (x y : Str) : Bool := lexO natLt x.cps.toList y.cps.toList
theorem strLin : SLin strLt := natLin.lex.of (fun x : Str => x.cps.toList) fun x y h => by
  cases x; cases y
  exact congrArg Str.mk (Array.toList_inj.mp h)
theorem strLt_is (x y : Str) : decide (x.cps.toList < y.cps.toList) = strLt x y := lexO_nat _ _
/-- names in their order -/
def nameLt : List Str → List Str → Bool := lexO strLt
theorem nameLin : SLin nameLt := strLin.lex
theorem nameLt_ne {x y : Str} {n m : List Str} (h : x ≠ y) : nameLt (x :: n) (y :: m) = strLt x y := by
  show (strLt x y || (!strLt y x && lexO strLt n m)) = _
  cases e : strLt x y with
  | true => rfl
  | false =>
    cases e2 : strLt y x with
    | true => rfl
    | false => exact absurd (strLin.tri _ _ e e2) h
theorem nameLt_eq {x : Str} {n m : List Str} : nameLt (x :: n) (x :: m) = nameLt n m := by
  show (strLt x x || (!strLt x x && lexO strLt n m)) = _
  rw [strLin.irr]
  rfl
end LN
namespace LN
open PySem PySem.Spec PyProof.Rows L2
/-! sorted(names): tuples of texts, none of them empty -/
section
variable {prog : Program} {w : World} {A : Around} {E : Value → Shared → Prop} {s : Shared}
/-- the tuple of these texts -/
def TupTxt (h : Heap) (v : Value) (n : List Str) : Prop := ∃ (a : Addr) (o : Obj) (its : List Value) (c : Nat), v = .ref a ∧ h.get? a = some o ∧ o.cls = .type "tuple" ∧ o.data = .seq its.toArray c ∧ Vals (n.map V.str) its ∧ n ≠ []
theorem TupTxt.keeps {h h' : Heap} {v : Value} {n : List Str} (x : TupTxt h v n) (k : ∀ b o, h.get? b = some o → o.cls = .type "tuple" → h'.get? b = some o) : TupTxt h' v n := by
  obtain ⟨a, o, its, c, e, ho, hc, r⟩ := x
  exact ⟨a, o, its, c, e, k a o ho hc, hc, r⟩
theorem lex_txt {Q : Bool → Shared → Prop} {fin : Bool} : ∀ (n m : List Str) (xs ys : List Value) (i : Nat), Vals (n.map V.str) xs → Vals (m.map V.str) ys → fin = decide (xs.length < ys.length) → Q (nameLt n m) s → PySem.W.KatLex prog w A true fin Q (xs.zip ys) i s
  | [], [], _, _, i, .nil, .nil, hf, q => PySem.W.kat_nil (by rw [hf]; exact q)
  | [], y :: m, _, _, i, .nil, .cons _ r, hf, q => PySem.W.kat_nil (by rw [hf]; exact q)
  | x :: n, [], _, _, i, .cons _ r, .nil, hf, q => PySem.W.kat_nil (by rw [hf]; exact q)
  | x :: n, y :: m, _, _, i, .cons (l₂ := xs) hx rx, .cons (l₂ := ys) hy ry, hf, q => by
    obtain ⟨t, rfl⟩ := hx
    obtain ⟨u, rfl⟩ := hy
    refine PySem.W.kat_cons (SeqAt.EqAt.str_str x t y u prog w _ _ ?_)
    refine PySem.W.kat_go (fun e1 => ?_) (fun e1 => ?_)
    · have ex : x = y := by simpa using e1
      subst ex
      rw [nameLt_eq] at q
      refine PySem.W.kat_yes (lex_txt n m _ _ (i + 1) rx ry ?_ q)
      rw [hf]
      exact decide_eq_decide.mpr ⟨fun h => Nat.lt_of_succ_lt_succ h, fun h => Nat.succ_lt_succ h⟩
    · have ex : x ≠ y := by simpa using e1
      rw [nameLt_ne ex, ← strLt_is] at q
      refine PySem.W.kat_no ?_
      cases i with
      | zero => exact oneLt_str q
      | succ i => exact PySem.W.kat_one _ _ (PyProof.Rows.lt_str q)
theorem cmp_txt {vs : List Value} {k : Value → List Str} (hp : ∀ v ∈ vs, TupTxt s.heap v (k v)) : SrtO.Cmp prog w A s (tuples' true) (fun p => p.1 ∈ vs) (SrtO.lt2 fun v u => nameLt (k v) (k u)) := by
  intro p q hm hm'
  have h1 := hp _ hm
  have h2 := hp _ hm'
  show wpAny (model prog w) A (keyLt' (tuples' true) p.1 q.1) (fun r s' => s' = s ∧ r = nameLt (k p.1) (k q.1)) (fun _ _ => False) s
  obtain ⟨a, o, its, c, e, ho, hc, hd, hv, _⟩ := h1
  obtain ⟨a', o', its', c', e', ho', hc', hd', hv', _⟩ := h2
  generalize k p.1 = n at *
  generalize k q.1 = m at *
  rw [e, e']
  refine PySem.W.kat_lt ho hd ho' hd' ?_
  exact lex_txt n m its its' 0 hv hv' (by rw [List.size_toArray, List.size_toArray]) ⟨rfl, rfl⟩
end
end LN
namespace LN
open PySem PySem.Spec PyProof.Rows L2
section
variable {prog : Program} {w : World} {A : Around} {E : Value → Shared → Prop} {s : Shared}
theorem heads_txt {h : Heap} {k : Value → List Str} : ∀ vs : List Value, (∀ v ∈ vs, TupTxt h v (k v)) → ∃ fs, PySem.W.KatTups h vs fs ∧ fs.length = vs.length ∧ ∀ f ∈ fs, ∃ x t, f = Value.str x t
  | [], _ => ⟨[], PySem.W.KatTups.nil, rfl, fun f hf => absurd hf List.not_mem_nil⟩
  | v :: vs, hp => by
    obtain ⟨fs, kt, len, all⟩ := heads_txt vs fun u hu => hp u (List.mem_cons_of_mem _ hu)
    obtain ⟨a, o, its, c, rfl, ho, hc, hd, hv, ne⟩ := hp v List.mem_cons_self
    generalize k (.ref a) = n at hv ne
    match n, its, hv, ne with
    | x :: n, _, .cons hx _, _ =>
      obtain ⟨t, rfl⟩ := hx
      refine ⟨.str x t :: fs, PySem.W.KatTups.cons ho hc hd rfl kt, by rw [List.length_cons, List.length_cons, len], fun f hf => ?_⟩
      rcases List.mem_cons.mp hf with rfl | hf
      · exact ⟨x, t, rfl⟩
      · exact all f hf
theorem sortable_txt {a : Addr} {vs : List Value} {k : Value → List Str} (pos : 0 < vs.length) (hp : ∀ v ∈ vs, TupTxt s.heap v (k v)) (ha : ∀ o, s.heap.get? a = some o → o.cls ≠ .type "tuple") : SrtO.SortableO prog w A s a vs fun v u => nameLt (k v) (k u) := by
  intro h' keep
  have hp' : ∀ v ∈ vs, TupTxt h' v (k v) := fun v hm => (hp v hm).keeps fun b o e c => keep b o (fun z => ha o (z ▸ e) c) e
  obtain ⟨fs, h1, h2, h3⟩ := heads_txt vs hp'
  refine ⟨tuples' true, fun Q E hq => ?_, cmp_txt (s := { s with heap := h' }) hp'⟩
  refine PySem.W.kat_kind (T := .type "str") h1 (by omega) (fun f hm => ?_) (by rfl) ?_
  · obtain ⟨x, t, rfl⟩ := h3 f hm
    exact PySem.W.Looks.now
  · have e : (Value.type "str" != Value.type "tuple") = true := by decide +kernel
    rw [e]
    exact hq
end
/-- sorted(names), names a list of tuples of texts, none empty: a new list in their order -/
def rSortedN (K : PySem.W.Frag) : List V → Hp → VK → Prop := fun vs H Q => ∃ (a : Addr) (xs : List V) (k : V → List Str), vs = [V.ref a] ∧ SqL K H a xs ∧ (∀ x ∈ xs, ∃ t, x = V.ref t ∧ Nm K H t (k x) ∧ k x ≠ []) ∧
  ∀ ys p, ys.Pairwise (fun x y => nameLt (k y) (k x) = false) → ys.Perm xs → H p = none → Q (.ref p) (upd H p (.lst ys))
theorem cr_sortedN {X : Cx} : CallR X (.builtin "sorted") (rSortedN X.K) := by
  intro pins s σ H vs us Q I r h
  obtain ⟨a, xs, k, rfl, hs, hx, q⟩ := h
  obtain ⟨its, rv, hl, hz⟩ := I.list hs
  obtain ⟨u, rfl, ru⟩ := vals1 r
  obtain rfl : u = Value.ref a := ru
  obtain ⟨e1, e2⟩ := refs_back rv fun x m => by
    obtain ⟨t, e, _⟩ := hx x m
    exact ⟨t, e⟩
  have hp : ∀ v ∈ its, TupTxt s.heap v (k (backV v)) := fun v hv => by
    obtain ⟨t, rfl⟩ := e2 v hv
    obtain ⟨t', e, ht, ne⟩ := hx (V.ref t) (by rw [e1]; exact List.mem_map.mpr ⟨_, hv, rfl⟩)
    cases e
    obtain ⟨us, r1, ⟨o, ho, hc, c, hd⟩, _⟩ := I.tuple ht
    exact ⟨t, o, us, c, rfl, ho, hc, hd, r1, ne⟩
  have O : SrtO.Swo fun v u : Value => nameLt (k (backV v)) (k (backV u)) := ⟨fun x y => nameLin.swo.asym _ _, fun x y z => nameLin.swo.tr _ _ _⟩
  refine SrtO.sorted_ord O hl.isList (by rw [← rv.length]; exact hz) (fun h2 h1 a' ha kk => ?_) fun out srt stb => ?_
  · refine sortable_txt (s := { s with heap := h1 }) (k := fun v => k (backV v)) (by omega) (fun v hm => (hp v hm).keeps fun b o e _ => (kk b o e).2) fun o e c => ?_
    rw [show h1.get? a' = some o from e] at ha
    cases ha
    exact absurd (Value.type.inj c) (by decide)
  · have refs : ∀ u ∈ out, ∃ a, u = Value.ref a := fun u hu => e2 u (stb.perm.mem_iff.mp hu)
    obtain ⟨n, hn⟩ := sortedAll_at s.heap its out.toArray
    have pm : (out.map backV).Perm xs := by
      rw [e1]
      exact stb.perm.map backV
    refine ⟨.ref (s.heap.objs.size + 1), upd H (s.heap.objs.size + 1) (.lst (out.map backV)), I.laid (t' := s.toks) (fun b o e => sortedAll_old e) (Nat.le_succ _) ⟨?_, out, n, vals_back refs, hn⟩, rfl, q _ _ (List.pairwise_map.mpr srt) pm (I.hok.fresh (Nat.le_succ _))⟩
    rw [pm.length_eq]
    exact hz
end LN

namespace LN
open PySem PySem.Spec PyProof.Rows L2
/-- isinstance(x, T), T any tuple of classes that may be read -/
def rIsMany (K : PySem.W.Frag) : List V → Hp → VK → Prop := fun xs H Q => ∃ (x : V) (tp : Addr) (cs : List V) (t : Value) (us : List Value) (b : Bool), xs = [x, .ref tp] ∧ SqT K H tp cs ∧ Paired ClsV cs us ∧ TyX K H x t ∧ PySem.W.kitAny K t us = some b ∧ Q (.bl b) H
theorem cls_all {cs : List V} {us : List Value} (h : Paired ClsV cs us) : ∀ {ws : List Value}, Vals cs ws → ws = us := by
  induction h with
  | nil => intro ws r; cases r; rfl
  | cons c _ ih =>
    intro ws r
    cases r with
    | cons r1 r2 =>
      rw [ih r2]
      cases c <;> cases r1 <;> rfl
theorem cr_isMany {X : Cx} : CallR X (.builtin "isinstance") (rIsMany X.K) := by
  rintro pins s σ H xs us Q inv rel ⟨x, tp, cs, t, ws, b, rfl, there, cls, ty, e, q⟩
  obtain ⟨u1, u2, rfl, r1, r2⟩ := vals2 rel
  obtain rfl : u2 = Value.ref tp := r2
  obtain ⟨its, rv, ⟨⟨oc, od, dt, sl⟩, at_, c1, n, c2⟩, _⟩ := inv.tuple there
  have same := cls_all cls rv
  subst same
  simp only at c1 c2
  subst c1 c2
  obtain ⟨P, Z, p, hx⟩ := kit_of inv r1 ty
  exact PySem.W.kia_tup Z inv.kIn p at_ e hx fun tk => ⟨.bl b, H, inv.tok tk, rfl, q⟩
/-- a name that is_full says yes to, of at most so many labels -/
structure FullN (m : Nat) (n : List Str) : Prop where
  some_ : n ≠ []
  few : n.length ≤ m
  labs : ∀ x ∈ n, kLabel (.str x) = true
end LN

namespace LN
open PySem PySem.Spec PyProof.Rows L2
def byLen (x y : Addr × List Str) : Bool := decide (x.2.length ≤ y.2.length)
def tSortLen (K : PySem.W.Frag) (ta : TA) : TE := fun σ H Q => ta σ H fun vs G => ∃ (a : Addr) (ks : List (Addr × List Str)), vs = [.ref a] ∧ SqL K G a (ks.map fun p => V.ref p.1) ∧ (∀ p ∈ ks, SqT K G p.1 (p.2.map V.str)) ∧ ks.length ≤ 1000 ∧ ∀ p, G p = none → Q (.ref p) (upd G p (.lst ((ks.mergeSort byLen).map fun q => V.ref q.1)))
section
variable {X : Cx} {e : Expr} {es : List Expr} {ta : TA} {p q kp pos : Pos}
theorem each_of {ks : List (Addr × List Str)} : PySem.W.EachIs (fun (v : Value) (b : Addr × List Str) => v = .ref b.1) (ks.map fun p => Value.ref p.1) ks := by
  induction ks with
  | nil => exact .nil
  | cons b l ih => exact .cons rfl ih
theorem of_each : ∀ {out : List Value} {ks : List (Addr × List Str)}, PySem.W.EachIs (fun (v : Value) (b : Addr × List Str) => v = .ref b.1) out ks → out = ks.map fun p => Value.ref p.1
  | _, _, .nil => rfl
  | _, _, .cons h t => by rw [List.map_cons, ← of_each t, h]
theorem vals_refs : ∀ (ks : List (Addr × List Str)), Vals (ks.map fun p => V.ref p.1) (ks.map fun p => Value.ref p.1)
  | [] => .nil
  | p :: ks => .cons rfl (vals_refs ks)
theorem pe_sortedLen (ha : PA X (e :: es) ta) (hm : X.mg "sorted" = none) (hl : X.mg "len" = none) (few : X.A.units + 70 < cLine) (hg : Gl X "sorted" := by rfl) (hgl : Gl X "len" := by rfl)
    (he : backTo pos (starEach (e :: es) X.env) = (false, eval e X.env) :: backTo pos (starEach es X.env) := by rfl) (hpl : (backTo pos (starEach (e :: es) X.env)).any (·.1) = false := by rfl) :
    PE X (.Call (.Name "sorted" p) (e :: es) [⟨some "key", .Name "len" q, kp⟩] pos) (tSortLen X.K ta) := by
  constructor
  intro pins s σ H Q I h
  refine wpAny_Call_Name_kw (ld_blt I hg hm (u := .builtin "sorted") (by decide +kernel) ?_ (by decide) (by decide))
  refine PyProof.Rows.callWith_kw (thn (ha.run pos pins s σ H _ I h) fun us s1 ⟨vs, G, J, r1, want⟩ => ?_) he hpl (by rfl) (by rfl)
  show wpAny _ _ (evalAll [(do let v ← eval (.Name "len" q) X.env; standAt pos; pure v)]) _ _ s1
  refine wpAny_evalAll_cons (wpAny_bind (ld_blt J hgl hl PySem.boot_len (wpAny_bind (wpAny_standAt (wpAny_pure (wpAny_evalAll_nil ?_)))) (by decide) (by decide)))
  obtain ⟨a, ks, rfl, hs, names, hk, go⟩ := want
  obtain ⟨u, rfl, ru⟩ := vals1 r1
  obtain rfl : u = Value.ref a := ru
  obtain ⟨its, rv, pl, hz⟩ := J.list hs
  have eq := refs_are rv
  subst eq
  show wpAny _ _ (call (.builtin "sorted") [.ref a] [(Str.ofString "key", .builtin "len")]) _ _ s1
  refine PySem.W.sorted_key_data (b := false) (fun b : Addr × List Str => .int b.2.length) pl.isList each_of (PySem.W.AllAlike.of fun _ _ => by simp [PySem.W.alike]) (PySem.W.Sortable.others fun _ => ⟨by simp, by simp⟩) (by rw [sizeLine_eq]; omega) (fun b _ => ?_) (ksk_s1 _ _) (fun _ => ksk_l1 _ _) (fun _ => ksk_t4 _ _) ?_ ?_
  · have hd : (PyData.int b.2.length).depth = 0 := rfl
    omega
  · rintro v x rfl hx h tk kp
    obtain ⟨us, r2, ⟨o, ho, hc, n, hd⟩, sz⟩ := J.tuple (names x hx)
    have hlen := r2.length
    rw [List.length_map] at hlen
    have big := line63
    refine PyProof.Rows.len_tuple (items := us.toArray) ⟨o, kp _ _ ho, hc, n, hd⟩ (by rw [List.size_toArray]; rw [List.length_map] at sz; omega) ?_
    refine ⟨_, _, rfl, fun _ _ e => e, ?_⟩
    rw [List.size_toArray, ← hlen]
    exact .int _ _
  · intro out c h' tk on none_ at_ len each
    have le : PySem.W.dataLe false (fun b : Addr × List Str => PyData.int b.2.length) = byLen := by
      rw [PySem.W.dataLe_int (fun b : Addr × List Str => (b.2.length : Int))]
      funext x y
      exact decide_eq_decide.mpr (by omega)
    rw [le] at each
    have eo := of_each each
    subst eo
    have gone : G (s1.heap.objs.size + 1) = none := J.hok.fresh (Nat.le_succ _)
    have sz : ((ks.mergeSort byLen).map fun q => V.ref q.1).length ≤ sizeLine := by rw [List.length_map, List.length_mergeSort, sizeLine_eq]; omega
    refine ⟨.ref _, upd G (s1.heap.objs.size + 1) (.lst ((ks.mergeSort byLen).map fun q => V.ref q.1)), J.laid (t' := tk) on (Nat.le_succ _) ⟨sz, _, c, vals_refs _, at_⟩, rfl, go _ gone⟩
end
end LN

namespace LN
open PySem PySem.Spec PyProof.Rows L2
def upToV (n : Nat) : List V := (List.range n).map fun i => V.int (i : Nat)
theorem vals_at : ∀ {vs : List V} {us : List Value}, vs.length = us.length → (∀ (i : Nat) v u, vs[i]? = some v → us[i]? = some u → RelV v u) → Vals vs us
  | [], [], _, _ => .nil
  | [], _ :: _, e, _ => nomatch e
  | _ :: _, [], e, _ => nomatch e
  | v :: vs, u :: us, e, h => .cons (h 0 v u rfl rfl) (vals_at (Nat.succ.inj e) fun i v' u' a b => h (i + 1) v' u' (by simpa using a) (by simpa using b))
section
variable {X : Cx}
/-- range(n) as a value -/
theorem cr_range1 : CallR X (.type "range") (fun vs H Q => ∃ i, vs = [V.int i] ∧ ∀ p, H p = none → Q (.ref p) (upd H p (.rng 0 i))) := by
  rintro pins s σ H vs us Q I r ⟨i, rfl, q⟩
  obtain ⟨u, rfl, t, rfl⟩ := vals1 r
  refine call_range_1 ⟨.ref s.heap.objs.size, upd H s.heap.objs.size (.rng 0 i), I.laid (t' := _) (fun b o e => Heap.get?_push_of_some _ e) (Nat.le_refl _) ?_, rfl, q _ I.fresh⟩
  exact ⟨_, _, _, Heap.get?_push_size _ rfl⟩
/-- list(range(n)) -/
theorem cr_listRange (hc : X.calm = true) : CallR X (.type "list") (fun vs H Q => ∃ r n, vs = [V.ref r] ∧ H r = some (.rng 0 (n : Nat)) ∧ n ≤ 1000 ∧ ∀ p, H p = none → Q (.ref p) (upd H p (.lst (upToV n)))) := by
  rintro pins s σ H vs us Q I rel ⟨r, n, rfl, er, few, q⟩
  obtain ⟨u, rfl, ru⟩ := vals1 rel
  obtain rfl : u = Value.ref r := ru
  obtain ⟨t, u, v, ho⟩ := (show ObjOk X.prog X.w H s.heap r (.rng 0 (n : Nat)) from I.hok r _ er)
  refine call_list_range (n := n) (I.ok.hd hc) ho ?_ ?_ (by omega) ?_
  · have size : Builtin.Range.rangeSize 0 (n : Nat) 1 = (n : Nat) := by
      unfold Builtin.Range.rangeSize
      rw [if_pos (by decide)]
      split
      · omega
      · omega
    have fits : ∀ z : Int, 0 ≤ z → z ≤ 1000 → Builtin.Range.rangeFitsLong z = true := fun z h1 h2 => by
      unfold Builtin.Range.rangeFitsLong
      simp only [Bool.and_eq_true, decide_eq_true_eq]
      omega
    unfold Builtin.Range.small
    rw [size, fits 0 (by decide) (by decide), fits n (by omega) (by omega), fits 1 (by decide) (by decide), if_pos (by decide), fits (n + (1 - 1)) (by omega) (by omega)]
    simp
  · unfold Builtin.Range.rangeSize
    rw [if_pos (by decide)]
    split
    · omega
    · omega
  · intro h' tk acc c' on at_ its
    obtain ⟨sz, each⟩ := its
    have vals : Vals (upToV n) acc.toList := by
      refine vals_at (by rw [upToV, List.length_map, List.length_range, Array.length_toList, sz]) fun i v w h1 h2 => ?_
      unfold upToV at h1
      rw [List.getElem?_map] at h1
      obtain ⟨k, hk, rfl⟩ := Option.map_eq_some_iff.mp h1
      rw [List.getElem?_range (by have := (List.getElem?_eq_some_iff.mp hk).1; rw [List.length_range] at this; exact this)] at hk
      cases hk
      rw [Array.getElem?_toList] at h2
      obtain ⟨t', e⟩ := each i w h2
      exact ⟨t', by rw [e]; congr 1; omega⟩
    have lim : (upToV n).length ≤ sizeLine := by rw [upToV, List.length_map, List.length_range, sizeLine_eq]; omega
    refine ⟨.ref s.heap.objs.size, _, I.laid (t' := tk) on (Nat.le_refl _) (show ObjOk X.prog X.w _ h' _ (.lst (upToV n)) from ⟨lim, acc.toList, c', vals, by simpa using at_⟩), rfl, q _ I.fresh⟩
end
end LN

namespace LN
open PySem PySem.Spec PyProof.Rows L2
/-- (address of the pair, address of the name, the name) -/
abbrev PairN := Addr × Addr × List Str
def encP (p : PairN) : PyData := .tuple [.int p.2.2.length, nameD p.2.2]
theorem alike_strs : ∀ (a b : List Str), PySem.W.alikeAll (a.map PyData.str) (b.map PyData.str) = true
  | [], _ => by simp [PySem.W.alikeAll]
  | _ :: _, [] => by simp [PySem.W.alikeAll]
  | x :: a, y :: b => by
    have := alike_strs a b
    simp [PySem.W.alikeAll, PySem.W.alike, this]
theorem le_pairs {p q : PairN} (h : p.2.2.length = q.2.2.length → p.2.2 = q.2.2) : PySem.W.dataLe false encP p q = decide (p.2.2.length ≤ q.2.2.length) := by
  rw [PySem.W.dataLe_eq]
  show (!PySem.W.dataLt (encP q) (encP p)) = _
  unfold encP
  rw [PySem.W.dataLt_pair (by simp [PySem.W.alike]) (by simp [nameD, PySem.W.alike, alike_strs])]
  have ei : ∀ x y : Int, PyData.eqv (.int x) (.int y) = decide (x = y) := fun x y => by
    by_cases z : x = y
    · subst z
      rw [decide_eq_true rfl]
      exact SeqAt.eqv_refl (.int x) rfl
    · rw [decide_eq_false z]
      simp [PyData.eqv, z]
  rw [ei, eqv_name, PySem.W.dataLt_int]
  by_cases e : p.2.2.length = q.2.2.length
  · rw [decide_eq_true (show ((q.2.2.length : Nat) : Int) = (p.2.2.length : Nat) by omega), if_pos rfl, decide_eq_true (h e).symm, if_pos rfl, decide_eq_true (show p.2.2.length ≤ q.2.2.length by omega)]
    rfl
  · rw [decide_eq_false (show ¬ ((q.2.2.length : Nat) : Int) = (p.2.2.length : Nat) by omega), if_neg Bool.false_ne_true]
    by_cases le : p.2.2.length ≤ q.2.2.length
    · rw [decide_eq_true le, decide_eq_false (show ¬ ((q.2.2.length : Nat) : Int) < (p.2.2.length : Nat) by omega)]
      rfl
    · rw [decide_eq_false le, decide_eq_true (show ((q.2.2.length : Nat) : Int) < (p.2.2.length : Nat) by omega)]
      rfl
theorem each_pair {ps : List PairN} : PySem.W.EachIs (fun (v : Value) (b : PairN) => v = .ref b.1) (ps.map fun p => Value.ref p.1) ps := by
  induction ps with
  | nil => exact .nil
  | cons b l ih => exact .cons rfl ih
theorem of_pairs : ∀ {out : List Value} {ps : List PairN}, PySem.W.EachIs (fun (v : Value) (b : PairN) => v = .ref b.1) out ps → out = ps.map fun p => Value.ref p.1
  | _, _, .nil => rfl
  | _, _, .cons h t => by rw [List.map_cons, ← of_pairs t, h]
theorem vals_pairs : ∀ (ps : List PairN), Vals (ps.map fun p => V.ref p.1) (ps.map fun p => Value.ref p.1)
  | [] => .nil
  | p :: ps => .cons rfl (vals_pairs ps)
theorem each_reads {φ : Value → PairN → Prop} : ∀ {ps : List PairN}, (∀ p ∈ ps, φ (.ref p.1) p) → PySem.W.EachIs φ (ps.map fun p => Value.ref p.1) ps
  | [], _ => .nil
  | p :: ps, h => .cons (h p List.mem_cons_self) (each_reads fun q hq => h q (List.mem_cons_of_mem _ hq))
def rSortP (K : PySem.W.Frag) : List V → Hp → VK → Prop := fun vs H Q => ∃ (a : Addr) (ps : List PairN), vs = [V.ref a] ∧ SqL K H a (ps.map fun p => V.ref p.1) ∧ (∀ p ∈ ps, SqT K H p.1 [.int (p.2.2.length : Nat), .ref p.2.1] ∧ Nm K H p.2.1 p.2.2) ∧ (∀ p ∈ ps, ∀ q ∈ ps, p.2.2.length = q.2.2.length → p.2.2 = q.2.2) ∧ ps.length ≤ 100 ∧
  ∀ (q : Addr) (ps' : List PairN), H q = none → (∀ p ∈ ps', p ∈ ps) → ps'.map (fun p : PairN => p.2.2) = (ps.map fun p : PairN => p.2.2).mergeSort (fun x y => decide (x.length ≤ y.length)) → Q (.ref q) (upd H q (.lst (ps'.map fun p : PairN => V.ref p.1)))
theorem cr_sortP {X : Cx} (hu : X.A.units + 70 < cLine) : CallR X (.builtin "sorted") (rSortP X.K) := by
  rintro pins s σ H vs us Q I rel ⟨a, ps, rfl, hs, facts, dist, few, q⟩
  obtain ⟨u, rfl, ru⟩ := vals1 rel
  obtain rfl : u = Value.ref a := ru
  obtain ⟨its, rv, pl, hz⟩ := I.list hs
  have eq : its = ps.map fun p => Value.ref p.1 := by
    have gen : ∀ (ps : List PairN) (us : List Value), Vals (ps.map fun p => V.ref p.1) us → us = ps.map fun p => Value.ref p.1 := by
      intro ps
      induction ps with
      | nil => intro us r; cases r; rfl
      | cons p l ih =>
        intro us r
        cases r with
        | cons h t =>
          cases (show _ = Value.ref p.1 from h)
          rw [List.map_cons, ← ih _ t]
    exact gen ps its rv
  subst eq
  have reads : ∀ p ∈ ps, ∃ as, Reads s.heap (.ref p.1) (encP p) as := fun p hp => Dp.reads I (encP p) (.ref p.1) (.ref p.1) (.tup (facts p hp).1 (.cons (.int _) (.cons (nm_dp (facts p hp).2) .nil))) rfl
  refine PySem.W.sorted_data (enc := encP) pl.isList each_pair (each_reads reads) (PySem.W.AllAlike.of fun p q => ?_) (PySem.W.Sortable.tuples fun _ => ⟨_, _, rfl⟩) (by rw [sizeLine_eq]; omega) (fun b _ => ?_) fun out len each => ?_
  · simp [encP, PySem.W.alike, PySem.W.alikeAll, nameD, alike_strs]
  · have hd : (encP b).depth ≤ 3 := by
      have d0 : PyData.depthAll (b.2.2.map PyData.str) ≤ 0 := all_deep fun d hd => by
        obtain ⟨x, _, rfl⟩ := List.mem_map.mp hd
        exact Nat.le_refl _
      show PyData.depthAll [.int _, nameD b.2.2] + 1 ≤ 3
      refine Nat.succ_le_succ (all_deep fun d hd => ?_)
      rcases List.mem_cons.mp hd with e | e
      · rw [e]
        exact Nat.zero_le _
      · rw [List.mem_singleton.mp e]
        exact Nat.succ_le_succ (Nat.le_trans d0 (by decide))
    omega
  · have eo := of_pairs each
    subst eo
    obtain ⟨ep, he'⟩ := PyProof.Rows.sortedAll_at s.heap (ps.map fun p => Value.ref p.1) ((ps.mergeSort (PySem.W.dataLe false encP)).map fun p => Value.ref p.1).toArray
    have gone : H (s.heap.objs.size + 1) = none := I.hok.fresh (Nat.le_succ _)
    have sz : ((ps.mergeSort (PySem.W.dataLe false encP)).map fun p => V.ref p.1).length ≤ sizeLine := by rw [List.length_map, List.length_mergeSort, sizeLine_eq]; omega
    refine ⟨.ref _, upd H (s.heap.objs.size + 1) (.lst ((ps.mergeSort (PySem.W.dataLe false encP)).map fun p => V.ref p.1)), I.laid (t' := s.toks) (fun _ _ => PyProof.Rows.sortedAll_old) (Nat.le_succ _) ⟨sz, _, ep, vals_pairs _, he'⟩, rfl, q _ _ gone (fun p hp => List.mem_mergeSort.mp hp) ?_⟩
    exact List.map_mergeSort (fun p hp q hq => le_pairs (dist p hp q hq))
theorem kbn_of {K : PySem.W.Frag} {fd : FuncData} {ps ks : List Str} {n : Nat} (h : ∀ (s : Shared) (us ws : List Value), us.length = n → ws.length = ks.length → BindsTo s fd ⟨us, ks.zip ws⟩ (ps.zip (us ++ ws))) : KBn K fd ps n ks (fun us ws => us ++ ws) (fun vs zs => vs ++ zs) :=
  ⟨fun s us ws _ l1 l2 => h s us ws l1 l2, fun r1 r2 => r1.append r2⟩
end LN

namespace K25
open PySem PySem.Spec PyProof.Rows L2 LN
def topS (i : Nat) : Stmt := PySem.Challenge.pw_listnames_k25_whole_who_can_mean_a_name.main.body.getD i (.Pass ⟨0, 0, 0, 0⟩)
abbrev s_wall : Stmt := topS 0
abbrev s_ListError : Stmt := topS 2
abbrev s_Wrong : Stmt := topS 3
abbrev s_Wrong_init : Stmt := inClass (topS 3) 0
abbrev s_NoEntry : Stmt := topS 4
abbrev s_NoEntry_init : Stmt := inClass (topS 4) 0
abbrev s_is_integer : Stmt := topS 7
abbrev s_is_label : Stmt := topS 8
abbrev s_is_name : Stmt := topS 9
abbrev s_is_full : Stmt := topS 10
abbrev s_is_number : Stmt := topS 11
abbrev s_are_names : Stmt := topS 12
abbrev s_is_under : Stmt := topS 14
abbrev s_is_beneath : Stmt := topS 15
abbrev s_who_can : Stmt := topS 17
abbrev s_Host : Stmt := topS 22
abbrev s_Host_init : Stmt := inClass (topS 22) 0
abbrev s_Host_eq : Stmt := inClass (topS 22) 1
abbrev s_Host_len : Stmt := inClass (topS 22) 2
abbrev s_Host_contains : Stmt := inClass (topS 22) 3
abbrev s_Host_iter : Stmt := inClass (topS 22) 4
abbrev s_Host_getitem : Stmt := inClass (topS 22) 5
abbrev s_Host_call : Stmt := inClass (topS 22) 6
abbrev s_Host_dots : Stmt := inClass (topS 22) 7
abbrev s_Host_stops : Stmt := inClass (topS 22) 8
abbrev s_Host_suffixes : Stmt := inClass (topS 22) 9
abbrev s_Host_entries : Stmt := inClass (topS 22) 10
abbrev s_Host_candidates : Stmt := inClass (topS 22) 11
abbrev s_Host_looked : Stmt := inClass (topS 22) 12
abbrev s_Host_with_suffixes : Stmt := inClass (topS 22) 13
abbrev s_law_bag : Stmt := topS 24
abbrev s_law_take : Stmt := topS 25
abbrev s_law_alike : Stmt := topS 26
abbrev s_law_pick : Stmt := topS 27
abbrev s_law_labels : Stmt := topS 28
abbrev s_law_word : Stmt := topS 29
abbrev s_law_suffixes : Stmt := topS 30
abbrev s_law_own_host : Stmt := topS 31
abbrev s_law_host : Stmt := topS 32
abbrev s_law_under : Stmt := topS 33
abbrev s_law_candidates : Stmt := topS 34
abbrev s_law_shorts : Stmt := topS 35
abbrev s_law_due : Stmt := topS 36
abbrev s_law : Stmt := topS 37
section
variable {P : Program} {w : World} {K : PySem.W.Frag} {mg : Str → Option Value} {base : Heap}
theorem scBag : FnScope ["_law_script", "_law_cell"] ["_law_script"] (defScope s_law_bag) := ⟨rfl, rfl, rfl, by decide +kernel, rfl, by decide +kernel, by decide +kernel⟩
theorem ok_bag {f : Addr} {fd : FuncData} (F : Fun K "_law_bag" "_law_bag" s_law_bag f fd) (ma : mg "abs" = none) : FnOk P w K mg base CX0 1 f fd ["_law_script"] (spBag K) := by
  refine F.ok scBag (fun vs H Q E h => ?_) (fun cdv A outer s H vs Q E hr h => ?_)
  · obtain ⟨a, ns, rfl, _⟩ := h
    rfl
  obtain ⟨a, ns, rfl, hS, hlen, q⟩ := h
  refine ⟨_, pss_one (ps_ret (pe_lst (pa_cons pe_int (pa_cons pe_int (pa_cons pe_int (pa_cons
    (pe_lc (own := [("_law_cell", 1)]) (g := gName 1) (tt := tYes) rfl scBag.nd (pi_list (pe_slice sl_list (pv 0) po_none (po_some pe_int)))
      (blkOk_by (N := ["_law_script", "_law_cell"]) (sc := defScope s_law_bag) (by decide +kernel)) (fun _ _ _ _ _ => pg_name (i := 1) scBag.nd rfl (Or.inl rfl)) (fun _ _ _ _ _ => pts_nil)
      (fun _ _ _ _ _ => pe_callB call_abs (by rfl) ma (by decide +kernel) (pa_cons (pv 1) pa_nil))) pa_nil)))))), ?_⟩
  refine ⟨.ref a, rfl, 63, rfl, a, _, rfl, hS, fun p np => ?_⟩
  have s1 : Same H (upd H p (.lst (cutV (ns.map V.int) none (some 63)))) := same_put np
  refine ⟨p, rfl, ⟨_, .inl (.inl upd_same)⟩, fun D nD => ?_⟩
  have nDp : D ≠ p := fun e => by rw [e, upd_same] at nD; cases nD
  have s2 := s1.trans (same_put (o := .lst []) nD)
  refine lc_list (K := K) (a := p) (xs := cutV (ns.map V.int) none (some 63))
    (fun i G => ∃ ms : List Int, ms.length = i ∧ G D = some (.lst (ms.map V.int)) ∧ Same H G ∧ G p = some (.lst (cutV (ns.map V.int) none (some 63))))
    ⟨[], rfl, upd_same, s2, by rw [upd_ne nDp.symm]; exact upd_same⟩ (fun i G _ h => .inl (.inl h.choose_spec.2.2.2)) (fun i x G hx h => ?_) (fun G h => ?_)
  · obtain ⟨ms, hm, eD, sm, ep⟩ := h
    have hx' := List.mem_of_getElem? hx
    have : x ∈ ns.map V.int := by
      unfold cutV at hx'
      exact List.mem_of_mem_drop (List.mem_of_mem_take hx')
    obtain ⟨n, _, rfl⟩ := List.mem_map.mp this
    have hi : i < 64 := by
      have h1 := (List.getElem?_eq_some_iff.mp hx).1
      have h2 := cutV_length (ns.map V.int) none (some 63)
      rw [List.length_map] at h2
      omega
    have hn : H D = none := s1.free nD
    refine ⟨rfl, .int n, rfl, n, rfl, ms.map V.int, eD, ?_, ms ++ [if n < 0 then -n else n], ?_, ?_, ?_, ?_⟩
    · rw [List.length_map, hm]
      exact small1000 (by omega)
    · rw [List.length_append, hm]
      rfl
    · rw [upd_same, List.map_append]
      rfl
    · exact fun b o e => by rw [upd_ne (ne_of_none e hn)]; exact sm _ _ e
    · rw [upd_ne nDp.symm]
      exact ep
  · obtain ⟨ms, hm, eD, sm, ep⟩ := h
    refine ⟨by show 4 ≤ sizeLine; decide, fun b nb => ?_⟩
    refine q _ b D (sm.trans (same_put nb)) (sm.free nb) (s1.free nD) ⟨0, 1234567891, 0, ms, ne_of_none eD nb, upd_same, ?_, by decide, by decide, by decide⟩
    rw [upd_ne (ne_of_none eD nb)]
    exact eD

theorem scTake : FnScope ["_law_bag_here", "_law_many", "_law_cell", "_law_more", "_law_drawn"] ["_law_bag_here", "_law_many"] (defScope s_law_take) := ⟨rfl, rfl, rfl, by decide +kernel, rfl, by decide +kernel, by decide +kernel⟩
theorem ok_take {f : Addr} {fd : FuncData} (F : Fun K "_law_take" "_law_take" s_law_take f fd) (ml : mg "len" = none) (mi : mg "int" = none) : FnOk P w K mg base CX0 1 f fd ["_law_bag_here", "_law_many"] spTake := by
  refine F.ok scTake (fun vs H Q E h => ?_) (fun cdv A outer s H vs Q E hr h => ?_)
  · obtain ⟨b, bc, m, rfl, _⟩ := h
    rfl
  obtain ⟨b, c, m, rfl, bag, m1, m2, q⟩ := h
  have nd := scTake.nd
  refine ⟨_, C8.pss_cut (ps_if (pt_cmpR op_eq (pe_ix ix_list (pv 0) pe_int (fun _ _ => rfl)) pe_int (nomark _))
      (pss_cons (ps_set (i := 2) nd rfl (.inl rfl) pe_int)
      (C8.pss_cut (ps_if (pt_cmpR op_lt (pe_ix ix_list (pv 0) pe_int (fun _ _ => rfl)) (pe_callB call_len_seq (by rfl) ml PySem.boot_len (pa_cons (pe_ix ix_list (pv 0) pe_int (fun _ _ => rfl)) pa_nil)) (nomark _))
        (pss_one (ps_set (i := 2) nd rfl (.inl rfl) (pe_ix ix_list (pe_ix ix_list (pv 0) pe_int (fun _ _ => rfl)) (pe_ix ix_list (pv 0) pe_int (fun _ _ => rfl)) (fun _ _ => rfl)))) pss_nil)
      (pss_cons (ps_augS (pv 0) pe_int get_list pe_int ip_add set_list)
      (C8.pss_cut (ps_if (pt_cmpR op_ge (pv 2) pe_int (nomark _)) (pss_one (ps_asg (pv 2) (pg_sub (pv 0) pe_int set_list))) pss_nil)
      (pss_cons (ps_set (i := 3) nd rfl (.inl rfl) (pe_op op_add (pe_op op_mod (pe_callTy call_int1 (by rfl) mi (by decide +kernel) (pa_cons (pv 2) pa_nil)) pe_int)
          (pe_op op_mul pe_int (pe_ix ix_list (pv 0) pe_int (fun _ _ => rfl)))))
      (pss_one (ps_asg (pe_op op_mod (pe_callTy call_int1 (by rfl) mi (by decide +kernel) (pa_cons (pe_op op_add (pe_op op_mul (pe_ix ix_list (pv 0) pe_int (fun _ _ => rfl)) pe_int) (pv 3)) pa_nil)) pe_int) (pg_sub (pv 0) pe_int set_list)))))))) pss_nil)
    (pss_cons (ps_if (pt_cmpR op_gt (pe_ix ix_list (pv 0) pe_int (fun _ _ => rfl)) pe_int (nomark _))
      (pss_cons (ps_set (i := 4) nd rfl (.inl rfl) (pe_op op_mod (pe_callTy call_int1 (by rfl) mi (by decide +kernel) (pa_cons (pe_ix ix_list (pv 0) pe_int (fun _ _ => rfl)) pa_nil)) (pv 1)))
      (pss_cons (ps_asg (pe_op op_fdiv (pe_ix ix_list (pv 0) pe_int (fun _ _ => rfl)) (pv 1)) (pg_sub (pv 0) pe_int set_list)) (pss_one (ps_ret (pv 4))))) pss_nil)
    (C8.pss_cut (ps_asg (pe_op op_mod (pe_callTy call_int1 (by rfl) mi (by decide +kernel) (pa_cons (pe_op op_add (pe_op op_mul (pe_ix ix_list (pv 0) pe_int (fun _ _ => rfl)) pe_int) pe_int) pa_nil)) pe_int) (pg_sub (pv 0) pe_int set_list))
    (pss_one (ps_ret (pe_op op_mod (pe_callTy call_int1 (by rfl) mi (by decide +kernel) (pa_cons (pe_op op_fdiv (pe_ix ix_list (pv 0) pe_int (fun _ _ => rfl)) pe_int) pa_nil)) (pv 1)))))), ?_⟩
  obtain ⟨x0, x1, x2, ns, hcb, hb, hc, h1, h2, h3⟩ := bag
  let G : Int → Int → Int → Hp := fun x0 x1 x2 => upd H b (.lst [.int x0, .int x1, .int x2, .ref c])
  have gc : ∀ x0 x1 x2, G x0 x1 x2 c = some (.lst (ns.map V.int)) := fun x0 x1 x2 => (upd_ne hcb).trans hc
  have gb : ∀ x0 x1 x2, G x0 x1 x2 b = some (.lst [.int x0, .int x1, .int x2, .ref c]) := fun x0 x1 x2 => upd_same
  have st : ∀ x0 x1 x2 z0 z1 z2, upd (G x0 x1 x2) b (.lst [.int z0, .int z1, .int z2, .ref c]) = G z0 z1 z2 := fun _ _ _ _ _ _ => upd_upd
  have g0 : H = G x0 x1 x2 := (upd_own hb).symm
  have dr : ∀ z0 z1 z2, 0 ≤ z1 → z1 < 2147483647 → 0 ≤ z2 → Drew b c H (G z0 z1 z2) := fun z0 z1 z2 k1 k2 k3 =>
    ⟨⟨z0, z1, z2, ns, hcb, gb _ _ _, gc _ _ _, k1, k2, k3⟩, fun a o n e => (upd_ne n).trans e, fun a e z => by
      by_cases ea : a = b
      · rw [ea] at z
        exact absurd ((gb z0 z1 z2).symm.trans z) (Option.some_ne_none _)
      · exact e ((upd_ne (o := .lst [.int z0, .int z1, .int z2, .ref c]) ea).symm.trans z)⟩
  clear_value G
  subst g0
  have modr : ∀ z : Int, 0 ≤ z % 2147483647 ∧ z % 2147483647 < 2147483647 := fun z => ⟨Int.emod_nonneg z (by decide), Int.emod_lt_of_pos z (by decide)⟩
  have nat : ∀ z : Int, ∃ r : Nat, z % (m : Int) = (r : Int) ∧ r < m := fun z => by
    have a1 : 0 ≤ z % (m : Int) := Int.emod_nonneg z (by omega)
    have a2 : z % (m : Int) < (m : Int) := Int.emod_lt_of_pos z (by omega)
    exact ⟨(z % (m : Int)).toNat, by omega, by omega⟩
  refine ⟨fun σ' H' => ∃ y2 y3 z0 z1 z2, σ' = [some (.ref b), some (.int m), y2, y3, none] ∧ H' = G z0 z1 z2 ∧ 0 ≤ z1 ∧ z1 < 2147483647 ∧ 0 ≤ z2, ?_, ?_⟩
  · refine ⟨.ref b, rfl, b, _, 0, _, rfl, rfl, .inl (.inl (gb _ _ _)), rfl, rfl, _, rfl, ite2 (fun _ => ?_) (fun _ => ?_)⟩
    · refine ⟨fun σ' H' => ∃ z, σ' = [some (.ref b), some (.int m), some (.int z), none, none] ∧ H' = G x0 x1 x2, ?_, ?_⟩
      · refine ⟨.ref b, rfl, b, _, 2, _, rfl, rfl, .inl (.inl (gb _ _ _)), rfl, .ref b, rfl, b, _, 3, _, rfl, rfl, .inl (.inl (gb _ _ _)), rfl, c, _, rfl, .inl (.inl (.inl (gc _ _ _))), ?_⟩
        refine ⟨_, _, rfl, rfl, _, rfl, ite2 (fun e => ?_) (fun _ => ⟨0, rfl, rfl⟩)⟩
        have lt := of_decide_eq_true e
        rw [List.length_map] at lt
        obtain ⟨k, rfl⟩ := Int.eq_ofNat_of_zero_le h3
        have hk : k < ns.length := by omega
        refine ⟨.ref b, rfl, b, _, 3, _, rfl, rfl, .inl (.inl (gb _ _ _)), rfl, .ref b, rfl, b, _, 2, _, rfl, rfl, .inl (.inl (gb _ _ _)), rfl, c, _, k, .int ns[k], rfl, rfl, .inl (.inl (gc _ _ _)), atI_nat ?_, ⟨_, rfl, rfl⟩⟩
        rw [List.getElem?_map, List.getElem?_eq_getElem hk]
        rfl
      · rintro _ _ ⟨z, rfl, rfl⟩
        refine ⟨.ref b, rfl, b, _, 2, _, rfl, rfl, by decide, gb _ _ _, rfl, _, _, rfl, rfl, b, _, _, _, rfl, rfl, gb _ _ _, rfl, ?_⟩
        show C8.tCut _ _ _ _ (upd (G x0 x1 x2) b (.lst [.int x0, .int x1, .int (x2 + 1), .ref c]))
        rw [st]
        refine ⟨fun σ' H' => ∃ z z0, σ' = [some (.ref b), some (.int m), some (.int z), none, none] ∧ H' = G z0 x1 (x2 + 1), ?_, ?_⟩
        · refine ⟨_, rfl, _, _, rfl, rfl, _, rfl, ite2 (fun _ => ?_) (fun _ => ⟨_, _, rfl, rfl⟩)⟩
          refine ⟨_, rfl, .ref b, rfl, b, _, 0, _, rfl, rfl, gb _ _ _, rfl, ⟨z, z, rfl, ?_⟩⟩
          exact st _ _ _ _ _ _
        · rintro _ _ ⟨z, z0, rfl, rfl⟩
          refine ⟨_, rfl, .inl ⟨z, rfl, _, _, rfl, rfl, (by show (0 : Int) < 2147483647; decide), .ref b, rfl, b, _, 2, _, rfl, rfl, .inl (.inl (gb _ _ _)), rfl, _, _, rfl, rfl, .inl ⟨by decide, by decide⟩, _, _, rfl, rfl, ?_⟩⟩
          refine ⟨.ref b, rfl, b, _, 1, _, rfl, rfl, .inl (.inl (gb _ _ _)), rfl, _, _, rfl, rfl, .inl ⟨by omega, by omega⟩, _, rfl, _, _, rfl, rfl, .inl ⟨_, rfl, _, _, rfl, rfl, (by show (0 : Int) < 2147483647; decide), ?_⟩⟩
          refine ⟨.ref b, rfl, b, _, 1, _, rfl, rfl, gb _ _ _, rfl, ⟨_, _, z0, _, x2 + 1, rfl, st _ _ _ _ _ _, (modr _).1, (modr _).2, by omega⟩⟩
    · exact ⟨none, none, x0, x1, x2, rfl, rfl, h1, h2, h3⟩
  · rintro _ _ ⟨y2, y3, z0, z1, z2, rfl, rfl, k1, k2, k3⟩
    refine ⟨.ref b, rfl, b, _, 0, _, rfl, rfl, .inl (.inl (gb _ _ _)), rfl, _, _, rfl, rfl, _, rfl, ite2 (fun _ => ?_) (fun _ => ?_)⟩
    · obtain ⟨r, er, hr'⟩ := nat z0
      refine ⟨.ref b, rfl, b, _, 0, _, rfl, rfl, .inl (.inl (gb _ _ _)), rfl, .inl ⟨_, rfl, _, rfl, _, _, rfl, rfl, (by show (0 : Int) < (m : Int); omega), ?_⟩⟩
      refine ⟨.ref b, rfl, b, _, 0, _, rfl, rfl, .inl (.inl (gb _ _ _)), rfl, _, rfl, _, _, rfl, rfl, ⟨by omega, by omega⟩, .ref b, rfl, b, _, 0, _, rfl, rfl, gb _ _ _, rfl, _, rfl, ?_⟩
      show Q (V.int (z0 % (m : Int))) _
      rw [er]
      refine q _ r ?_ hr'
      show Drew b c _ (upd (G z0 z1 z2) b (.lst [.int (z0 / (m : Int)), .int z1, .int z2, .ref c]))
      rw [st]
      exact dr _ _ _ k1 k2 k3
    · refine ⟨fun σ' H' => σ' = [some (.ref b), some (.int m), y2, y3, none] ∧ H' = G z0 ((z1 * 48271 + 11) % 2147483647) z2, ⟨.ref b, rfl, b, _, 1, _, rfl, rfl, .inl (.inl (gb _ _ _)), rfl, _, _, rfl, rfl, .inl ⟨by omega, by omega⟩, _, _, rfl, rfl, .inl ⟨_, rfl, _, _, rfl, rfl, (by show (0 : Int) < 2147483647; decide), ?_⟩⟩, ?_⟩
      · exact ⟨.ref b, rfl, b, _, 1, _, rfl, rfl, gb _ _ _, rfl, rfl, st _ _ _ _ _ _⟩
      rintro _ _ ⟨rfl, rfl⟩
      obtain ⟨r, er, hr'⟩ := nat ((z1 * 48271 + 11) % 2147483647 / 64)
      refine ⟨.ref b, rfl, b, _, 1, _, rfl, rfl, .inl (.inl (gb _ _ _)), rfl, _, _, rfl, rfl, ⟨by decide, by decide⟩, .inl ⟨_, rfl, _, rfl, _, _, rfl, rfl, (by show (0 : Int) < (m : Int); omega), ?_⟩⟩
      show Q (V.int ((z1 * 48271 + 11) % 2147483647 / 64 % (m : Int))) _
      rw [er]
      exact q _ r (dr _ _ _ (modr _).1 (modr _).2 k3) hr'

theorem scPick : FnScope ["_law_bag_here", "_law_some"] ["_law_bag_here", "_law_some"] (defScope s_law_pick) := ⟨rfl, rfl, rfl, by decide +kernel, rfl, by decide +kernel, by decide +kernel⟩
theorem ok_pick {f ft : Addr} {fd fdt : FuncData} (F : Fun K "_law_pick" "_law_pick" s_law_pick f fd) (DT : Df K mg "_law_take" s_law_take ["_law_bag_here", "_law_many"] ft fdt)
    (GT : FnOk P w K mg base CX0 1 ft fdt ["_law_bag_here", "_law_many"] spTake) (ml : mg "len" = none) : FnOk P w K mg base CX0 2 f fd ["_law_bag_here", "_law_some"] (spPick K) := by
  refine F.ok scPick (fun vs H Q E h => ?_) (fun cdv A outer s H vs Q E hr h => ?_)
  · obtain ⟨b, bc, l, xs, rfl, _⟩ := h
    rfl
  obtain ⟨b, bc, l, xs, rfl, bag, ne, sq, h1, h2, q⟩ := h
  refine ⟨_, pss_one (ps_ret (pe_ix ix_list (pv 1) (pcall DT GT hr (pa_cons (pv 0) (pa_cons (pe_callB call_len_seq (by rfl) ml PySem.boot_len (pa_cons (pv 1) pa_nil)) pa_nil))) (fun _ _ => rfl))), ?_⟩
  refine ⟨.ref l, rfl, .ref b, rfl, .ref l, rfl, l, xs, rfl, .inl sq, b, bc, xs.length, rfl, bag, h1, by omega, fun H' r dr hr' => ?_⟩
  have g : xs[r]? = some xs[r] := List.getElem?_eq_getElem hr'
  exact ⟨l, xs, _, xs[r], rfl, rfl, drew_seq dr ne sq, atI_nat g, q H' r _ dr g⟩

def spLabels8 : Sp := fun vs H Q _ => ∃ (b bc : Addr) (n : Nat), vs = [.ref b, .int n] ∧ Bag b bc H ∧ n ≤ 100 ∧
  ∀ H' p (ls : List Str), Drew b bc H H' → H p = none → H' p = some (.lst (ls.map V.str)) → Labs ls → (∀ x ∈ ls, kLabel (.str x) = true) → ls.length = n → Q (.ref p) H'
theorem letter_sign {i c : Nat} (h : i < 26) (e : letters.cps[i]? = some c) : signOk c = true := by
  have all : ∀ j, j < 26 → ((letters.cps[j]?).elim false signOk) = true := by decide +kernel
  have := all i h
  rw [e] at this
  exact this
theorem stem_sign : ∀ x ∈ stems, x.cps.toList.all signOk = true := by decide +kernel
theorem lab8 {x : Str} {c : Nat} (l : x.length ≤ 7) (a : x.cps.toList.all signOk = true) (h : signOk c = true) : kLabel (.str (x ++ ⟨#[c]⟩)) = true := by
  unfold kLabel
  have one : (Str.mk #[c]).length = 1 := rfl
  rw [Bool.and_eq_true, decide_eq_true_eq, strLen_append, one]
  refine ⟨by omega, ?_⟩
  show (x.cps ++ #[c]).toList.all signOk = true
  rw [Array.toList_append, List.all_append, a]
  simp [h]
theorem scLabels : FnScope ["_law_bag_here", "_law_many", "_law_turn", "_law_stem", "_law_letters", "_law_k"] ["_law_bag_here", "_law_many"] (defScope s_law_labels) := ⟨rfl, rfl, rfl, by decide +kernel, rfl, by decide +kernel, by decide +kernel⟩
theorem ok_labels {f ft : Addr} {fd fdt : FuncData} (F : Fun K "_law_labels" "_law_labels" s_law_labels f fd) (DT : Df K mg "_law_take" s_law_take ["_law_bag_here", "_law_many"] ft fdt)
    (GT : FnOk P w K mg base CX0 1 ft fdt ["_law_bag_here", "_law_many"] spTake) (mi : mg "int" = none) (mr : mg "range" = none) : FnOk P w K mg base CX0 2 f fd ["_law_bag_here", "_law_many"] spLabels8 := by
  refine F.ok scLabels (fun vs H Q E h => ?_) (fun cdv A outer s H vs Q E hr h => ?_)
  · obtain ⟨b, bc, n, rfl, _⟩ := h
    rfl
  obtain ⟨b, bc, n, rfl, bag, hn, q⟩ := h
  have nd := scLabels.nd
  refine ⟨_, pss_cons (ps_asg (pe_tup (pa_cons (pcall DT GT hr (pa_cons (pv 0) (pa_cons pe_int pa_nil))) (pa_cons
      (pe_ix ix_list (pe_lst (pa_cons pe_str (pa_cons pe_str (pa_cons pe_str (pa_cons pe_str pa_nil))))) (pcall DT GT hr (pa_cons (pv 0) (pa_cons pe_int pa_nil))) (fun _ _ => rfl)) pa_nil)))
      (pg_tup rfl (pgs_cons (pg_name (i := 2) nd rfl (.inr rfl)) (pgs_cons (pg_name (i := 3) nd rfl (.inr rfl)) pgs_nil))))
    (pss_cons (ps_asg pe_str (pg_name (i := 4) nd rfl (.inr rfl)))
    (pss_one (ps_ret (pe_lc (own := [("_law_k", 5)]) (g := gName 5) (tt := tYes) rfl nd (pi_range1 (by rfl) mr (pa_cons (pv 1) pa_nil))
      (blkOk_by (N := ["_law_bag_here", "_law_many", "_law_turn", "_law_stem", "_law_letters", "_law_k"]) (sc := defScope s_law_labels) (by decide +kernel)) (fun _ _ _ _ _ => pg_name (i := 5) nd rfl (Or.inl rfl)) (fun _ _ _ _ _ => pts_nil)
      (fun _ _ _ _ _ => pe_op op_add_str (pe_op op_mulStr (pv 3) (pe_callTy call_int1 (by rfl) mi (by decide +kernel) (pa_cons (pe_op op_mod (pe_callTy call_int1 (by rfl) mi (by decide +kernel) (pa_cons (pv 5) pa_nil)) pe_int) pa_nil)))
        (pe_item_str (pv 4) (pe_op op_mod (pe_callTy call_int1 (by rfl) mi (by decide +kernel) (pa_cons (pe_op op_add (pv 2) (pe_op op_mul pe_int (pv 5))) pa_nil)) pe_int) (fun _ _ => rfl))))))), ?_⟩
  refine ⟨.ref b, rfl, b, bc, 26, rfl, bag, by decide, by decide, fun H1 r1 d1 l1 => ?_⟩
  refine ⟨by show 4 ≤ sizeLine; decide, fun l nl => ?_⟩
  have nlb : l ≠ b := fun e => by
    obtain ⟨xs, hx⟩ := d1.bag.lst
    rw [e, hx] at nl
    cases nl
  refine ⟨.ref b, rfl, b, bc, 4, rfl, d1.bag.same (same_put nl), by decide, by decide, fun H3 r2 d3 l2 => ?_⟩
  have sl : SqL K H3 l (stems.map V.str) := drew_seq d3 nlb (.inl (.inl upd_same))
  have hst : (stems.map V.str)[r2]? = some (V.str stems[r2]) := by
    rw [List.getElem?_map, List.getElem?_eq_getElem (show r2 < stems.length from l2)]
    rfl
  have okst := stem_ok stems[r2] (List.getElem_mem _)
  refine ⟨l, _, _, _, rfl, rfl, sl, atI_nat hst, by show 2 ≤ sizeLine; decide, fun T nT => ?_⟩
  have d4 : Drew b bc H (upd H3 T (.tup [.int r1, .str stems[r2]])) := ((d1.same (same_put nl)).trans d3).same (same_put nT)
  refine ⟨T, _, rfl, .inl (.inl upd_same), rfl, _, _, rfl, _, _, rfl, rfl, ?_⟩
  refine ⟨_, rfl, _, rfl, by omega, by omega, fun D nD => ?_⟩
  generalize hG4 : upd H3 T (.tup [.int r1, .str stems[r2]]) = H4 at *
  refine lc_range (lo := 0) (n := n) (fun i G => ∃ ls : List Str, G D = some (.lst (ls.map V.str)) ∧ Same H4 G ∧ Labs ls ∧ (∀ x ∈ ls, kLabel (.str x) = true) ∧ ls.length = i)
    ⟨[], upd_same, same_put nD, Labs.nil, fun _ h => absurd h List.not_mem_nil, rfl⟩ (fun i G hi h => ?_) (fun G h => ?_)
  · obtain ⟨ls, eD, sm, lab, few, hl⟩ := h
    have e0 : (0 : Int) + (i : Nat) = (i : Nat) := Int.zero_add _
    obtain ⟨mok, mis⟩ := mul_few (x := stems[r2]) (k := ((0 : Int) + (i : Nat)) % 2) (by omega) (by omega)
    have mlab : PyData.strOk (Txt.mul stems[r2] (((0 : Int) + (i : Nat)) % 2)) = true ∧ (Txt.mul stems[r2] (((0 : Int) + (i : Nat)) % 2)).length ≤ 7 := by
      rcases mis with e | e
      · rw [e]; exact ⟨by decide +kernel, by decide +kernel⟩
      · rw [e]; exact okst
    have hj : (((r1 : Int) + 3 * ((0 : Int) + (i : Nat))) % 26).toNat < 26 := by omega
    obtain ⟨c, ec, hc⟩ := letters_at hj
    have one : (Str.mk #[c]).length = 1 := rfl
    refine ⟨rfl, _, rfl, _, rfl, .inl ⟨_, rfl, _, _, rfl, rfl, (by show (0 : Int) < 2; decide), .inl ⟨_, rfl, _, _, rfl, rfl, mok, ?_⟩⟩⟩
    refine ⟨_, rfl, _, rfl, _, rfl, _, _, rfl, rfl, .inl ⟨by decide, by decide⟩, _, _, rfl, rfl, .inl ⟨_, rfl, _, _, rfl, rfl, (by show (0 : Int) < 26; decide), ?_⟩⟩
    refine ⟨letters, ((r1 : Int) + 3 * ((0 : Int) + (i : Nat))) % 26, c, rfl, rfl, by omega, by omega, ?_, ec, _, _, rfl, rfl, ?_, ls.map V.str, eD, small1000 (by rw [List.length_map]; omega), ls ++ [Txt.mul stems[r2] (((0 : Int) + (i : Nat)) % 2) ++ ⟨#[c]⟩], ?_, ?_, ?_, ?_, ?_⟩
    · show _ < ((26 : Nat) : Int)
      omega
    · rw [one, sizeLine_eq]
      have := mlab.2
      omega
    · rw [upd_same, List.map_append]
      rfl
    · exact fun a o e => by rw [upd_ne (ne_of_none e nD)]; exact sm _ _ e
    · refine lab.append (Labs.cons ⟨strOk_cat mlab.1 (strOk_one hc), ?_⟩ Labs.nil)
      rw [strLen_append, one]
      have := mlab.2
      omega
    · intro x hx
      rcases List.mem_append.mp hx with hx | hx
      · exact few x hx
      · rw [List.mem_singleton.mp hx]
        refine lab8 mlab.2 ?_ (letter_sign hj ec)
        rcases mis with e | e
        · rw [e]
          decide +kernel
        · rw [e]
          exact stem_sign _ (List.getElem_mem _)
    · rw [List.length_append, hl]
      rfl
  · obtain ⟨ls, eD, sm, lab, few, hl⟩ := h
    exact q G D ls (d4.same sm) (d4.free nD) eD lab few hl

def spWord8 (K : PySem.W.Frag) : Sp := fun vs H Q _ => ∃ (b bc l : Addr) (ls : List Str) (lo hi : Nat), vs = [.ref b, .ref l, .int lo, .int hi] ∧ Bag b bc H ∧ l ≠ b ∧ SqL K H l (ls.map V.str) ∧ Labs ls ∧ (∀ x ∈ ls, kLabel (.str x) = true) ∧ 1 ≤ ls.length ∧ ls.length ≤ 1000 ∧ lo ≤ hi ∧ hi ≤ 90 ∧
  ∀ H' p nm, Drew b bc H H' → Nm K H' p nm → Labs nm → (∀ x ∈ nm, kLabel (.str x) = true) → lo ≤ nm.length → nm.length ≤ hi → Q (.ref p) H'
theorem scWord : FnScope ["_law_bag_here", "_law_labels_here", "_law_least", "_law_most", "_law_k"] ["_law_bag_here", "_law_labels_here", "_law_least", "_law_most"] (defScope s_law_word) := ⟨rfl, rfl, rfl, by decide +kernel, rfl, by decide +kernel, by decide +kernel⟩
theorem ok_word {f ft fp : Addr} {fd fdt fdp : FuncData} (F : Fun K "_law_word" "_law_word" s_law_word f fd) (DT : Df K mg "_law_take" s_law_take ["_law_bag_here", "_law_many"] ft fdt)
    (GT : FnOk P w K mg base CX0 1 ft fdt ["_law_bag_here", "_law_many"] spTake) (DP : Df K mg "_law_pick" s_law_pick ["_law_bag_here", "_law_some"] fp fdp) (GP : FnOk P w K mg base CX0 2 fp fdp ["_law_bag_here", "_law_some"] (spPick K))
    (mt : mg "tuple" = none) (mr : mg "range" = none) : FnOk P w K mg base CX0 3 f fd ["_law_bag_here", "_law_labels_here", "_law_least", "_law_most"] (spWord8 K) := by
  refine F.ok scWord (fun vs H Q E h => ?_) (fun cdv A outer s H vs Q E hr h => ?_)
  · obtain ⟨b, bc, l, ls, lo, hi, rfl, _⟩ := h
    rfl
  obtain ⟨b, bc, l, ls, lo, hi, rfl, bag, ne, sq, lab, klab, l1, l2, le, few, q⟩ := h
  have nd := scWord.nd
  refine ⟨_, pss_one (ps_ret (pe_callTy call_tuple_of (by rfl) mt (by decide +kernel) (pa_cons (pe_lc (own := [("_law_k", 4)]) (g := gName 4) (tt := tYes) rfl nd
      (pi_range1 (by rfl) mr (pa_cons (pe_op op_add (pv 2) (pcall DT GT (hr.mono (by decide)) (pa_cons (pv 0) (pa_cons (pe_op op_add (pe_op op_sub (pv 3) (pv 2)) pe_int) pa_nil)))) pa_nil))
      (blkOk_by (N := ["_law_bag_here", "_law_labels_here", "_law_least", "_law_most", "_law_k"]) (sc := defScope s_law_word) (by decide +kernel)) (fun _ _ _ _ _ => pg_name (i := 4) nd rfl (Or.inl rfl)) (fun _ _ _ _ _ => pts_nil)
      (fun _ _ _ _ _ => pcall DP GP hr (pa_cons (pv 0) (pa_cons (pv 1) pa_nil)))) pa_nil))), ?_⟩
  have many : ((hi : Int) - (lo : Int) + 1) = ((hi - lo + 1 : Nat) : Int) := by omega
  refine ⟨_, rfl, .ref b, rfl, _, rfl, _, rfl, _, _, rfl, rfl, _, _, rfl, rfl, b, bc, hi - lo + 1, ?_, bag, by omega, by omega, fun H1 r d1 hr1 => ?_⟩
  · show [V.ref b, V.int ((hi : Int) - (lo : Int) + 1)] = _
    rw [many]
  refine ⟨_, _, rfl, rfl, _, rfl, by omega, by omega, fun D nD => ?_⟩
  have cnt : ((lo : Int) + (r : Int)).toNat = lo + r := by omega
  show ∃ W, _
  rw [cnt]
  have nDb := d1.bag.apart nD
  have sq1 := drew_seq d1 ne sq
  refine lc_range (lo := 0) (n := lo + r) (fun i G => ∃ nm : List Str, G D = some (.lst (nm.map V.str)) ∧ Drew b bc H1 G ∧ Labs nm ∧ (∀ x ∈ nm, kLabel (.str x) = true) ∧ nm.length = i)
    ⟨[], upd_same, (Drew.refl d1.bag).put d1.bag nD, Labs.nil, fun _ h => absurd h List.not_mem_nil, rfl⟩ (fun i G hi h => ?_) (fun G h => ?_)
  · obtain ⟨nm, eD, dg, ln, kn, hl⟩ := h
    refine ⟨rfl, .ref b, rfl, .ref l, rfl, b, bc, l, ls.map V.str, rfl, dg.bag, ne, drew_seq dg ne sq1, by rw [List.length_map]; exact l1, by rw [List.length_map]; exact l2, fun G' j v d' hv => ?_⟩
    obtain ⟨x, hx, rfl⟩ := List.mem_map.mp (List.mem_of_getElem? hv)
    refine ⟨nm.map V.str, d'.keep D _ nDb.1 eD, small1000 (by rw [List.length_map]; omega), nm ++ [x], ?_, (dg.trans d').put d1.bag nD, ln.append (Labs.cons (lab x hx) Labs.nil), fun y hy => (List.mem_append.mp hy).elim (kn y) fun z => by rw [List.mem_singleton.mp z]; exact klab x hx, ?_⟩
    · rw [upd_same, List.map_append]
      rfl
    · rw [List.length_append, hl]
      rfl
  · obtain ⟨nm, eD, dg, ln, kn, hl⟩ := h
    refine ⟨D, _, rfl, .inl ⟨.inl (.inl eD), fun t nt => ?_⟩⟩
    exact q _ t nm ((d1.trans dg).same (same_put nt)) (.inl (.inl upd_same)) ln kn (by omega) (by omega)

theorem scInteger : FnScope ["thing"] ["thing"] (defScope s_is_integer) := ⟨rfl, rfl, rfl, by decide +kernel, rfl, by decide +kernel, by decide +kernel⟩
theorem ok_integer {f C : Addr} {fd : FuncData} (F : Fun K "is_integer" "is_integer" s_is_integer f fd) (O : OwnTy K C) (mis : mg "isinstance" = none) (mi : mg "int" = none) (mb : mg "bool" = none) : FnOk P w K mg base CX0 1 f fd ["thing"] (spKind K C (fun _ => True) kWhole) := by
  refine F.ok scInteger (fun vs H Q E h => ?_) (fun cdv A outer s H vs Q E hr h => ?_)
  · obtain ⟨x, t, rfl, _⟩ := h
    rfl
  obtain ⟨x, t, rfl, any, fit, q⟩ := h
  refine ⟨_, pss_one (ps_ret (pe_and (pe_callB (call_isInt (C := C) O) (by rfl) mis (by decide +kernel) (pa_cons (pv 0) (pa_cons (pe_bltn (v := .ty "int") (by rfl) mi (by decide +kernel) rfl) pa_nil)))
    (pe_one (pe_not (pe_callB call_isBool (by rfl) mis (by decide +kernel) (pa_cons (pv 0) (pa_cons (pe_bltn (v := .ty "bool") (by rfl) mb (by decide +kernel) rfl) pa_nil))))))), ?_⟩
  have z := q H (Same.refl H)
  refine ⟨x, rfl, x, t, rfl, any, gInt t, rfl, ?_⟩
  cases any with
  | emp h => exact iteF z
  | obj h => exact iteF z
  | dp h =>
    rename_i d
    cases h with
    | non => exact iteF z
    | str y => exact iteF z
    | lst q1 q2 => exact iteF z
    | tup q1 q2 => exact iteF z
    | bl b => exact iteT ⟨_, rfl, _, .bool b, rfl, .bl b, _, rfl, z⟩
    | int i => exact iteT ⟨_, rfl, _, .int i, rfl, .int i, _, rfl, z⟩
theorem scNumber : FnScope ["many", "thing"] ["many", "thing"] (defScope s_is_number) := ⟨rfl, rfl, rfl, by decide +kernel, rfl, by decide +kernel, by decide +kernel⟩
theorem ok_number {f C fi : Addr} {fd fdi : FuncData} (F : Fun K "is_number" "is_number" s_is_number f fd) (DI : Df K mg "is_integer" s_is_integer ["thing"] fi fdi) (GI : FnOk P w K mg base CX0 1 fi fdi ["thing"] (spKind K C (fun _ => True) kWhole)) :
    FnOk P w K mg base CX0 2 f fd ["many", "thing"] (spNumber K C) := by
  refine F.ok scNumber (fun vs H Q E h => ?_) (fun cdv A outer s H vs Q E hr h => ?_)
  · obtain ⟨x, t, m, rfl, _⟩ := h
    rfl
  obtain ⟨x, t, m, rfl, any, q⟩ := h
  refine ⟨_, pss_one (ps_ret (pe_and (pcall DI GI hr (pa_cons (pv 1) pa_nil)) (pe_one (pe_chain op_le op_lt pe_int (pv 1) (pv 0))))), ?_⟩
  refine ⟨x, rfl, x, t, rfl, any, trivial, fun H' sm => ⟨_, rfl, ?_⟩⟩
  have z := q H' sm
  cases any with
  | emp h => exact iteF z
  | obj h => exact iteF z
  | dp h =>
    rename_i d
    cases h with
    | non => exact iteF z
    | str y => exact iteF z
    | lst q1 q2 => exact iteF z
    | tup q1 q2 => exact iteF z
    | bl b => exact iteF z
    | int i =>
      refine iteT ⟨_, rfl, _, _, rfl, rfl, _, rfl, ite2 (fun h1 => ?_) (fun h1 => ?_)⟩
      · have h1 := of_decide_eq_true h1
        refine ⟨_, rfl, _, _, rfl, rfl, ?_⟩
        have e : tRange 0 (m - 1) (.d (.int i)) = decide (i < m) := decide_eq_decide.mpr ⟨fun w => by omega, fun w => ⟨h1, by omega⟩⟩
        rw [e] at z
        exact z
      · have h1 : ¬ (0 : Int) ≤ i := fun w => h1 (decide_eq_true w)
        have e : tRange 0 (m - 1) (.d (.int i)) = false := decide_eq_false fun w => h1 w.1
        rw [e] at z
        exact z

theorem scLabel : FnScope ["thing", "sign"] ["thing"] (defScope s_is_label) := ⟨rfl, rfl, rfl, by decide +kernel, rfl, by decide +kernel, by decide +kernel⟩
theorem ok_label {f C : Addr} {fd : FuncData} {tk : Tok} (F : Fun K "is_label" "is_label" s_is_label f fd) (O : OwnTy K C) (mis : mg "isinstance" = none) (ms : mg "str" = none) (ml : mg "len" = none) (ma : mg "all" = none) (mL : mg "LABEL_SIGNS" = some (.int 8 tk)) :
    FnOk P w K mg base CX0 1 f fd ["thing"] (spKind K C ShortT tLabel) := by
  refine F.ok scLabel (fun vs H Q E h => ?_) (fun cdv A outer s H vs Q E hr h => ?_)
  · obtain ⟨x, t, rfl, _⟩ := h
    rfl
  obtain ⟨x, t, rfl, any, fit, q⟩ := h
  have nd := scLabel.nd
  refine ⟨_, pss_cons (ps_if (PW.pt (pw_or (pt_not (pt_val (pe_callB (call_isStr (C := C) O) (by rfl) mis (by decide +kernel) (pa_cons (pv 0) (pa_cons (pe_bltn (v := .ty "str") (by rfl) ms (by decide +kernel) rfl) pa_nil)))))
      (pw_or1 (pt_not (pt_chain op_le op_le pe_int (pe_callB call_len_str (by rfl) ml PySem.boot_len (pa_cons (pv 0) pa_nil)) (pe_glob (v := .int 8) rfl mL ⟨_, rfl⟩)))))) (pss_one (ps_ret pe_bl)) pss_nil)
    (pss_one (ps_ret (pe_callB (cr_all rfl) (by rfl) ma (by decide +kernel) (pa_cons (pe_lc (own := [("sign", 1)]) (g := gName 1) (tt := tYes) rfl nd (pi_str (pv 0))
      (blkOk_by (N := ["thing", "sign"]) (sc := defScope s_is_label) (by decide +kernel)) (fun _ _ _ _ _ => pg_name (i := 1) nd rfl (Or.inl rfl)) (fun _ _ _ _ _ => pts_nil)
      (fun _ _ _ _ _ => pe_chain op_le_str op_le_str pe_str (pv 1) pe_str)) pa_nil)))), ?_⟩
  have z := q H (Same.refl H)
  refine ⟨x, rfl, x, t, rfl, any, gStr t, rfl, ?_⟩
  cases any with
  | emp h => exact iteT z
  | obj h => exact iteT z
  | dp h =>
    rename_i d
    cases h with
    | non => exact iteT z
    | bl b => exact iteT z
    | int i => exact iteT z
    | lst q1 q2 => exact iteT z
    | tup q1 q2 => exact iteT z
    | str y =>
      have y100 := fit y rfl
      have line : y.length ≤ sizeLine := by rw [sizeLine_eq]; omega
      have wrong : ¬ (1 ≤ y.length ∧ y.length ≤ 8) → Q (.bl false) H := by
        intro w
        have e : tLabel (.d (.str y)) = false := by
          show (decide (1 ≤ y.length ∧ y.length ≤ 8) && _) = false
          rw [decide_eq_false w]
          rfl
        rw [e] at z
        exact z
      refine iteF ⟨.str y, rfl, y, rfl, line, _, _, rfl, rfl, _, rfl, ite2 (fun h1 => ?_) (fun h1 => ?_)⟩
      · have h1 := of_decide_eq_true h1
        refine ⟨_, _, rfl, rfl, _, rfl, ?_⟩
        by_cases h8 : (y.length : Int) ≤ 8
        · rw [decide_eq_true h8]
          refine iteF ⟨.str y, rfl, y, rfl, fun D nD => ?_⟩
          have size : y.cps.size = y.length := rfl
          refine lc_it (walk_str (z := y)) (fun i G => Same H G ∧ G D = some (.lst (((y.cps.toList.take i).map signOk).map V.bl))) ⟨same_put nD, upd_same⟩ (fun _ _ _ _ => trivial) (fun i x G G' hi h hx => ?_) (fun G h => ?_)
          · obtain ⟨sm, eD⟩ := h
            obtain ⟨rfl, c, hc, rfl⟩ := hx
            have hc' : y.cps.toList[i]? = some c := by simpa using hc
            have fin : ∀ b, b = signOk c → ∃ acc, G' D = some (.lst acc) ∧ acc.length < sizeLine ∧ Same H (upd G' D (.lst (acc ++ [V.bl b]))) ∧ upd G' D (.lst (acc ++ [V.bl b])) D = some (.lst (((y.cps.toList.take (i + 1)).map signOk).map V.bl)) := by
              intro b e
              refine ⟨_, eD, small1000 (by rw [List.length_map, List.length_map, List.length_take]; omega), fun a o w => ?_, ?_⟩
              · rw [upd_ne (ne_of_none w nD)]
                exact sm _ _ w
              · rw [upd_same, List.take_add_one, hc', List.map_append, List.map_append, e]
                rfl
            refine ⟨rfl, _, rfl, _, _, rfl, rfl, _, rfl, ?_⟩
            show if (!decide (([c] : List Nat) < [97])) = true then _ else _
            rw [sign_lo]
            have both := sign_both c
            by_cases lo : 97 ≤ c
            · rw [decide_eq_true lo]
              refine iteT ⟨_, _, rfl, rfl, ?_⟩
              rw [decide_eq_true lo, if_pos rfl] at both
              exact fin (!decide (([122] : List Nat) < [c])) ((sign_hi c).trans both)
            · rw [decide_eq_false lo]
              refine iteF ?_
              rw [decide_eq_false lo, if_neg Bool.false_ne_true] at both
              exact fin _ both
          · obtain ⟨sm, eD⟩ := h
            refine ⟨D, (y.cps.toList.map signOk), rfl, .inl (.inl ?_), ?_⟩
            · rw [eD, List.take_of_length_le (by rw [Array.length_toList]; exact Nat.le_refl _)]
            · have z2 := q G sm
              have e : tLabel (.d (.str y)) = (y.cps.toList.map signOk).all id := by
                show (decide (1 ≤ y.length ∧ y.length ≤ 8) && y.cps.toList.all signOk) = _
                rw [decide_eq_true (⟨by omega, by omega⟩ : 1 ≤ y.length ∧ y.length ≤ 8), Bool.true_and, List.all_map]
                rfl
              rw [e] at z2
              exact z2
        · rw [decide_eq_false h8]
          exact iteT (wrong fun w => h8 (by omega))
      · exact ⟨_, rfl, iteT (wrong fun w => h1 (decide_eq_true (by omega)))⟩
theorem scName : FnScope ["thing", "part"] ["thing"] (defScope s_is_name) := ⟨rfl, rfl, rfl, by decide +kernel, rfl, by decide +kernel, by decide +kernel⟩
theorem ok_name {f C fl : Addr} {fd fdl : FuncData} (F : Fun K "is_name" "is_name" s_is_name f fd) (O : OwnTy K C) (DL : Df K mg "is_label" s_is_label ["thing"] fl fdl) (GL : FnOk P w K mg base CX0 1 fl fdl ["thing"] (spKind K C ShortT tLabel))
    (mis : mg "isinstance" = none) (mt : mg "tuple" = none) (ma : mg "all" = none) : FnOk P w K mg base CX0 2 f fd ["thing"] (spKind K C Fit tName) := by
  refine F.ok scName (fun vs H Q E h => ?_) (fun cdv A outer s H vs Q E hr h => ?_)
  · obtain ⟨x, t, rfl, _⟩ := h
    rfl
  obtain ⟨x, t, rfl, any, fit, q⟩ := h
  have nd := scName.nd
  refine ⟨_, pss_one (ps_ret (pe_and (pe_callB (call_isTup (C := C) O) (by rfl) mis (by decide +kernel) (pa_cons (pv 0) (pa_cons (pe_bltn (v := .ty "tuple") (by rfl) mt (by decide +kernel) rfl) pa_nil)))
    (pe_one (pe_callB (cr_all rfl) (by rfl) ma (by decide +kernel) (pa_cons (pe_lc (own := [("part", 1)]) (g := gName 1) (tt := tYes) rfl nd (pi_tup (pv 0))
      (blkOk_by (N := ["thing", "part"]) (sc := defScope s_is_name) (by decide +kernel)) (fun _ _ _ _ _ => pg_name (i := 1) nd rfl (Or.inl rfl)) (fun _ _ _ _ _ => pts_nil)
      (fun _ _ _ _ _ => pcall DL GL hr (pa_cons (pv 1) pa_nil))) pa_nil))))), ?_⟩
  have z := q H (Same.refl H)
  refine ⟨x, rfl, x, t, rfl, any, gTup t, rfl, ?_⟩
  cases any with
  | emp h => exact iteF z
  | obj h => exact iteF z
  | dp h =>
    rename_i d
    cases h with
    | non => exact iteF z
    | bl b => exact iteF z
    | int i => exact iteF z
    | str y => exact iteF z
    | lst q1 q2 => exact iteF z
    | @tup a xs ds q1 q2 =>
      obtain ⟨p1, p2⟩ := fit.parts ds rfl
      have len := dpa_len q2
      refine iteT ⟨.ref a, rfl, a, rfl, ⟨_, q1⟩, fun D nD => ?_⟩
      refine lc_tup (K := K) (a := a) (xs := xs) (fun i G => Same H G ∧ G D = some (.lst (((ds.take i).map kLabel).map V.bl))) ⟨same_put nD, upd_same⟩ (fun i G _ h => same_seqT h.1 q1) (fun i v G hv h => ?_) (fun G h => ?_)
      · obtain ⟨sm, eD⟩ := h
        obtain ⟨e, he, dv⟩ := dpa_get q2 hv
        refine ⟨rfl, v, rfl, v, .d e, rfl, .dp (dp_same sm dv), fun y w => ?_, fun G2 s2 => ?_⟩
        · cases w
          exact p2 y (List.mem_of_getElem? he)
        · refine ⟨_, s2 _ _ eD, small1000 (by have := (List.getElem?_eq_some_iff.mp hv).1; rw [List.length_map, List.length_map, List.length_take]; omega), fun b o w => ?_, ?_⟩
          · rw [upd_ne (ne_of_none w nD)]
            exact s2 _ _ (sm _ _ w)
          · rw [upd_same, List.take_add_one, he, List.map_append, List.map_append]
            rfl
      · obtain ⟨sm, eD⟩ := h
        refine ⟨D, ds.map kLabel, rfl, .inl (.inl ?_), ?_⟩
        · rw [eD, List.take_of_length_le (by omega)]
        · have z2 := q G sm
          have e : tName (.d (.tuple ds)) = (ds.map kLabel).all id := by
            show ds.all kLabel = _
            rw [List.all_map]
            rfl
          rw [e] at z2
          exact z2
theorem scFull : FnScope ["thing"] ["thing"] (defScope s_is_full) := ⟨rfl, rfl, rfl, by decide +kernel, rfl, by decide +kernel, by decide +kernel⟩
theorem ok_full {f C fn : Addr} {fd fdn : FuncData} (F : Fun K "is_full" "is_full" s_is_full f fd) (DN : Df K mg "is_name" s_is_name ["thing"] fn fdn) (GN : FnOk P w K mg base CX0 2 fn fdn ["thing"] (spKind K C Fit tName)) :
    FnOk P w K mg base CX0 3 f fd ["thing"] (spKind K C Fit tFull) := by
  refine F.ok scFull (fun vs H Q E h => ?_) (fun cdv A outer s H vs Q E hr h => ?_)
  · obtain ⟨x, t, rfl, _⟩ := h
    rfl
  obtain ⟨x, t, rfl, any, fit, q⟩ := h
  refine ⟨_, pss_one (ps_ret (pe_and (pcall DN GN hr (pa_cons (pv 0) pa_nil)) (pe_one (pe_cmpR (op_neD hr.units) (pv 0) (pe_tup pa_nil) (nomark _))))), ?_⟩
  refine ⟨x, rfl, x, t, rfl, any, fit, fun H' sm => ⟨_, rfl, ?_⟩⟩
  have z := q H' sm
  cases any with
  | emp h => exact iteF z
  | obj h => exact iteF z
  | dp h =>
    rename_i d
    have dx := dp_same sm h
    cases h with
    | non => exact iteF z
    | bl b => exact iteF z
    | int i => exact iteF z
    | str y => exact iteF z
    | lst q1 q2 => exact iteF z
    | @tup a xs ds q1 q2 =>
      have g : Good (.tuple ds) 5 sizeLine := (fit.good _ rfl).elim (fun w => by cases w) id
      refine ite2 (fun h1 => ?_) (fun h1 => ?_)
      · refine ⟨_, rfl, by show 0 ≤ sizeLine; decide, fun p np => ?_⟩
        refine ⟨_, .tuple [], dp_same (same_put np) dx, .tup (.inl (.inl upd_same)) .nil, g.shaped (by decide), by decide +kernel, ?_⟩
        have z2 := q _ (sm.trans (same_put (o := .tup []) np))
        have e : tFull (.d (.tuple ds)) = !PyData.eqv (.tuple ds) (.tuple []) := by
          show (ds.all kLabel && !ds.isEmpty) = _
          rw [show ds.all kLabel = true from h1, Bool.true_and]
          cases ds <;> rfl
        rw [e] at z2
        exact z2
      · have e : tFull (.d (.tuple ds)) = false := by
          show (ds.all kLabel && !ds.isEmpty) = false
          rw [show ds.all kLabel = false from Bool.eq_false_iff.mpr h1]
          rfl
        rw [e] at z
        exact z

theorem iteD {c : Prop} [Decidable c] {A B : Prop} (hc : c) (h : A) : if decide c = true then A else B := by
  rw [decide_eq_true hc]
  exact h
theorem iteDF {c : Prop} [Decidable c] {A B : Prop} (hc : ¬ c) (h : B) : if decide c = true then A else B := by
  rw [decide_eq_false hc]
  exact h
theorem ite_no {c : Bool} {A B : Prop} (hc : c = true) (h : B) : if (!c) = true then A else B := by
  rw [hc]
  exact h
theorem ite_gt {m n : Nat} {A B : Prop} (h : m ≤ n) (b : B) : if decide ((m : Int) > (n : Int)) = true then A else B := by
  rw [decide_eq_false (by omega)]
  exact b
def spAreNames (K : PySem.W.Frag) : Sp := fun vs H Q _ => ∃ (l : Addr) (ks : List (Addr × List Str)) (m n : Nat), vs = [.ref l, .int m, .int n] ∧ SqL K H l (ks.map fun p => V.ref p.1) ∧ (∀ p ∈ ks, Nm K H p.1 p.2 ∧ FullN n p.2) ∧ (ks.map (·.2)).Nodup ∧ ks.length ≤ m ∧ m ≤ 60 ∧ n ≤ 100 ∧ ∀ H', Same H H' → Q (.bl true) H'
theorem full_fit {n : List Str} {m : Nat} (f : FullN m n) (hm : m ≤ 100) : Fit (.d (nameD n)) ∧ tFull (.d (nameD n)) = true := by
  have few : ∀ x ∈ n, x.length ≤ 8 := fun x hx => by
    have := f.labs x hx
    unfold kLabel at this
    simp only [Bool.and_eq_true, decide_eq_true_eq] at this
    exact this.1.2
  have ok : ∀ x ∈ n, PyData.strOk x = true := fun x hx => by
    have := f.labs x hx
    unfold kLabel at this
    simp only [Bool.and_eq_true, decide_eq_true_eq, List.all_eq_true] at this
    unfold PyData.strOk
    rw [Array.all_eq_true_iff_forall_mem]
    intro c hc
    have h2 := this.2 c (Array.mem_def.mp hc)
    unfold signOk at h2
    have h3 := of_decide_eq_true h2
    exact decide_eq_true (by omega)
  have lb : Labs n := fun x hx => ⟨ok x hx, Nat.le_trans (few x hx) (by decide)⟩
  have len := f.few
  refine ⟨⟨fun d e => ?_, fun y e => ?_, fun ds e => ?_⟩, ?_⟩
  · cases e
    exact .inr ((good_name lb (by omega)).mono (by decide) (by decide))
  · cases e
  · cases e
    refine ⟨by rw [List.length_map]; omega, fun y hy => ?_⟩
    obtain ⟨x, hx, e⟩ := List.mem_map.mp hy
    cases e
    exact Nat.le_trans (few _ hx) (by decide)
  · show ((n.map PyData.str).all kLabel && !(n.map PyData.str).isEmpty) = true
    rw [Bool.and_eq_true, List.all_eq_true]
    refine ⟨fun d hd => ?_, ?_⟩
    · obtain ⟨x, hx, rfl⟩ := List.mem_map.mp hd
      exact f.labs x hx
    · cases n with
      | nil => exact absurd rfl f.some_
      | cons a l => rfl
theorem same_seqL {H H' : Hp} {a : Addr} {xs : List V} (s : Same H H') (h : SqL K H a xs) : SqL K H' a xs := h.elim (fun e => .inl (same_rd s e)) .inr
theorem ty_seq {H : Hp} {a : Addr} {xs : List V} (h : SqL K H a xs) : TyX K H (.ref a) (.type "list") := by
  rcases h with (q | ⟨o, q⟩) | ⟨o, its, n, q, c, _⟩
  · exact .base (.lst q)
  · exact .base (.frz q)
  · exact .kList q c
theorem scAreNames : FnScope ["thing", "most", "labels", "part"] ["thing", "most", "labels"] (defScope s_are_names) := ⟨rfl, rfl, rfl, by decide +kernel, rfl, by decide +kernel, by decide +kernel⟩
theorem ok_are_names {f C ff : Addr} {fd fdf : FuncData} (F : Fun K "are_names" "are_names" s_are_names f fd) (DF : Df K mg "is_full" s_is_full ["thing"] ff fdf) (GF : FnOk P w K mg base CX0 3 ff fdf ["thing"] (spKind K C Fit tFull))
    (mis : mg "isinstance" = none) (mli : mg "list" = none) (mt : mg "tuple" = none) (ml : mg "len" = none) (ma : mg "all" = none) (ms : mg "set" = none) : FnOk P w K mg base CX0 4 f fd ["thing", "most", "labels"] (spAreNames K) := by
  refine F.ok scAreNames (fun vs H Q E h => ?_) (fun cdv A outer s H vs Q E hr h => ?_)
  · obtain ⟨l, ks, m, n, rfl, _⟩ := h
    rfl
  obtain ⟨l, ks, m, n, rfl, hl, names, once, few, m1, n1, q⟩ := h
  have nd := scAreNames.nd
  have un := hr.un
  refine ⟨_, C8.pss_cut (ps_if (PW.pt (pw_or (pt_not (pt_val (pe_callB cr_isMany (by rfl) mis (by decide +kernel) (pa_cons (pv 0) (pa_cons (pe_tup (pa_cons (pe_bltn (v := .ty "list") (by rfl) mli (by decide +kernel) rfl) (pa_cons (pe_bltn (v := .ty "tuple") (by rfl) mt (by decide +kernel) rfl) pa_nil))) pa_nil)))))
      (pw_or1 (pt_cmpR op_gt (pe_callB call_len_seq (by rfl) ml PySem.boot_len (pa_cons (pv 0) pa_nil)) (pv 1) (nomark _))))) (pss_one (ps_ret pe_bl)) pss_nil)
    (C8.pss_cut (ps_if (pt_not (pt_val (pe_callB (cr_all rfl) (by rfl) ma (by decide +kernel) (pa_cons (pe_lc (own := [("part", 3)]) (g := gName 3) (tt := tYes) rfl nd (pi_list (pv 0))
        (blkOk_by (N := ["thing", "most", "labels", "part"]) (sc := defScope s_are_names) (by decide +kernel)) (fun _ _ _ _ _ => pg_name (i := 3) nd rfl (Or.inl rfl)) (fun _ _ _ _ _ => pts_nil)
        (fun _ _ _ _ _ => pe_and (pcall DF GF hr (pa_cons (pv 3) pa_nil)) (pe_one (pe_cmpR op_le (pe_callB (r := rLenK K) call_lenK (by rfl) ml PySem.boot_len (pa_cons (pv 3) pa_nil)) (pv 2) (nomark _))))) pa_nil)))) (pss_one (ps_ret pe_bl)) pss_nil)
    (pss_one (ps_ret (pe_cmpR op_eq (pe_callB cr_lenN (by rfl) ml PySem.boot_len (pa_cons (pe_callTy (cr_setN rfl (by show A.units + 3 + 64 < cLine; have : A.units + 3 + 16 * 3 + 200 < cLine := un; omega)) (by rfl) ms (by decide +kernel) (pa_cons (pv 0) pa_nil)) pa_nil))
      (pe_callB call_len_seq (by rfl) ml PySem.boot_len (pa_cons (pv 0) pa_nil)) (nomark _))))), ?_⟩
  refine ⟨fun σ' G => σ' = [some (.ref l), some (.int m), some (.int n), none] ∧ Same H G, ?_, ?_⟩
  · refine ⟨.ref l, rfl, by show 2 ≤ sizeLine; decide, fun t nt => ?_⟩
    have st := same_put (o := HO.tup [.ty "list", .ty "tuple"]) nt
    refine ⟨.ref l, t, [.ty "list", .ty "tuple"], .type "list", [.type "list", .type "tuple"], true, rfl, .inl (.inl upd_same), .cons (.ty _) (.cons (.ty _) .nil), ty_seq (same_seqL st hl), kitAny_cons (kit_ty (show kitB "list" "list" = some true by decide +kernel)) (fun z => nomatch z) (fun _ => rfl), true, rfl, iteF ?_⟩
    refine ⟨.ref l, rfl, l, _, rfl, .inl (same_seqL st hl), .int m, rfl, _, _, rfl, rfl, _, rfl, ite_gt (by rw [List.length_map]; exact few) ⟨rfl, st⟩⟩
  rintro _ G ⟨rfl, sG⟩
  refine ⟨fun σ' G' => ∃ y3, σ' = [some (.ref l), some (.int m), some (.int n), y3] ∧ Same G G', ?_, ?_⟩
  · refine ⟨.ref l, rfl, l, rfl, ⟨_, same_seqL sG hl⟩, fun D nD => ?_⟩
    refine lc_list (K := K) (a := l) (xs := ks.map fun p => V.ref p.1) (fun i G' => Same G G' ∧ G' D = some (.lst ((List.replicate i true).map V.bl))) ⟨same_put nD, upd_same⟩ (fun i G' _ h => same_seqL (sG.trans h.1) hl) (fun i v G' hv h => ?_) (fun G' h => ?_)
    · obtain ⟨sm, eD⟩ := h
      rw [List.getElem?_map] at hv
      obtain ⟨p, hp, rfl⟩ := Option.map_eq_some_iff.mp hv
      have il : i < ks.length := (List.getElem?_eq_some_iff.mp hp).1
      obtain ⟨nm, fn⟩ := names p (List.mem_of_getElem? hp)
      obtain ⟨fit, yes⟩ := full_fit fn n1
      have nm' : Nm K G' p.1 p.2 := same_seqT (sG.trans sm) nm
      refine ⟨rfl, .ref p.1, rfl, .ref p.1, .d (nameD p.2), rfl, .dp (nm_dp nm'), fit, fun G3 s3 => ⟨tFull (.d (nameD p.2)), rfl, ?_⟩⟩
      rw [yes]
      refine iteT ⟨.ref p.1, rfl, p.1, _, rfl, .inr (same_seqT s3 nm'), .int n, rfl, _, _, rfl, rfl, _, s3 _ _ eD, small1000 (by rw [List.length_map, List.length_replicate]; omega), fun b o w => ?_, ?_⟩
      · rw [upd_ne (ne_of_none w nD)]
        exact s3 _ _ (sm _ _ w)
      · rw [upd_same, List.length_map]
        show some (HO.lst (List.map V.bl (List.replicate i true) ++ [V.bl (decide ((p.2.length : Int) ≤ (n : Int)))])) = _
        rw [decide_eq_true (show ((p.2.length : Nat) : Int) ≤ (n : Int) by have := fn.few; omega), List.replicate_succ', List.map_append]
        rfl
    · obtain ⟨sm, eD⟩ := h
      refine ⟨D, List.replicate ks.length true, rfl, .inl (.inl ?_), ?_⟩
      · rw [eD, List.length_map]
      · exact ⟨_, rfl, ite_no (by simp) ⟨_, rfl, sm⟩⟩
  rintro _ G2 ⟨y3, rfl, s2⟩
  have s3 := sG.trans s2
  refine ⟨.ref l, rfl, l, ks, rfl, .inl (same_seqL s3 hl), fun p hp => same_seqT s3 (names p hp).1, by omega, fun a c na le iff => ?_⟩
  have sa := same_put (o := setN a c) na
  refine ⟨a, c, rfl, upd_same, .ref l, rfl, l, _, rfl, .inl (same_seqL (s3.trans sa) hl), rfl, ?_⟩
  have e : c = (ks.map fun p => V.ref p.1).length := by rw [List.length_map]; exact iff.mpr once
  have yes : decide (V.int (c : Int) = V.int ((ks.map fun p => V.ref p.1).length : Int)) = true := decide_eq_true (by rw [e])
  rw [yes]
  exact q _ (s3.trans sa)

theorem sq_upd {H : Hp} {a D : Addr} {xs ys : List V} {o : HO} (h : SqT K H a xs) (e : H D = some (.lst ys)) : SqT K (upd H D o) a xs := by
  rcases h with (g | ⟨u, g⟩) | k
  · exact .inl (.inl ((upd_ne (fun z => by rw [z, e] at g; cases g)).trans g))
  · exact .inl (.inr ⟨u, (upd_ne (fun z => by rw [z, e] at g; cases g)).trans g⟩)
  · exact .inr k
theorem small1000' {n : Nat} (h : n ≤ 1000) : n ≤ sizeLine := by
  rw [sizeLine_eq]
  omega
theorem _root_.LN.FullN.labs' {n : List Str} {m : Nat} (f : FullN m n) : Labs n := fun x hx => by
  have h := f.labs x hx
  unfold kLabel at h
  simp only [Bool.and_eq_true, decide_eq_true_eq, List.all_eq_true] at h
  refine ⟨?_, by omega⟩
  unfold PyData.strOk
  rw [Array.all_eq_true_iff_forall_mem]
  intro c hc
  have h2 := h.2 c (Array.mem_def.mp hc)
  unfold signOk at h2
  have h3 := of_decide_eq_true h2
  exact decide_eq_true (by omega)
theorem cut_last {xs : List V} {k : Nat} (hk : 1 ≤ k) : cutV xs (some (-(k : Int))) none = xs.drop (xs.length - k) := by
  have h : HT.sIx xs.length 0 (some (-(k : Int))) = xs.length - k := by
    show (if -(k : Int) < 0 then (-(k : Int) + (xs.length : Int)).toNat else min (-(k : Int)).toNat xs.length) = _
    rw [if_pos (by omega)]
    omega
  unfold cutV
  rw [h, HT.sIx_none]
  exact List.take_of_length_le (by rw [List.length_drop]; exact Nat.le_refl _)
theorem names_dp {H : Hp} : ∀ {ks : List (Addr × List Str)}, (∀ q ∈ ks, Nm K H q.1 q.2) → DpAll K H (ks.map fun q => V.ref q.1) (ks.map fun q : Addr × List Str => nameD q.2)
  | [], _ => .nil
  | q :: ks, h => .cons (nm_dp (h q List.mem_cons_self)) (names_dp fun r hr => h r (List.mem_cons_of_mem _ hr))
theorem any_name {nm : List Str} {ks : List (Addr × List Str)} : ((ks.map fun q : Addr × List Str => nameD q.2).any fun z => PyData.eqv z (nameD nm)) = decide (nm ∈ ks.map (·.2)) := by
  induction ks with
  | nil => simp
  | cons q l ih =>
    rw [List.map_cons, List.any_cons, ih, eqv_name, List.map_cons]
    by_cases e : q.2 = nm
    · simp [e]
    · have e' : ¬ nm = q.2 := fun z => e z.symm
      simp [e, e']
def KsOk (K : PySem.W.Frag) (H : Hp) (m : Nat) (ks : List (Addr × List Str)) : Prop := (∀ q ∈ ks, Nm K H q.1 q.2 ∧ FullN m q.2) ∧ (ks.map (·.2)).Nodup
theorem KsOk.good {H : Hp} {ks : List (Addr × List Str)} (h : KsOk K H 3 ks) (l : ks.length ≤ 100) : Good (.list (ks.map fun q : Addr × List Str => nameD q.2)) 2 2100000 := by
  have e : (ks.map fun q : Addr × List Str => nameD q.2) = (ks.map (·.2)).map nameD := by rw [List.map_map]; rfl
  rw [e]
  refine good_names (fun n hn => ?_) (by rw [List.length_map]; exact l)
  obtain ⟨q, hq, rfl⟩ := List.mem_map.mp hn
  have f := (h.1 q hq).2
  exact ⟨f.labs', Nat.le_trans f.few (by decide)⟩
def spSuf (K : PySem.W.Frag) : Sp := fun vs H Q _ => ∃ (b bc l : Addr) (ls : List Str) (m : Nat), vs = [.ref b, .ref l, .int m] ∧ Bag b bc H ∧ l ≠ b ∧ SqL K H l (ls.map V.str) ∧ Labs ls ∧ (∀ x ∈ ls, kLabel (.str x) = true) ∧ 1 ≤ ls.length ∧ ls.length ≤ 1000 ∧ m ≤ 10 ∧
  ∀ H' r ks, Drew b bc H H' → H r = none → H' r = some (.lst (ks.map fun q => V.ref q.1)) → KsOk K H' 3 ks → ks.length ≤ m → Q (.ref r) H'
theorem scSuf : FnScope ["_law_bag_here", "_law_labels_here", "_law_many", "_law_found", "_law_k", "_law_name"] ["_law_bag_here", "_law_labels_here", "_law_many"] (defScope s_law_suffixes) := ⟨rfl, rfl, rfl, by decide +kernel, rfl, by decide +kernel, by decide +kernel⟩
theorem ok_suf {f ft fp fw : Addr} {fd fdt fdp fdw : FuncData} (F : Fun K "_law_suffixes" "_law_suffixes" s_law_suffixes f fd) (DT : Df K mg "_law_take" s_law_take ["_law_bag_here", "_law_many"] ft fdt)
    (GT : FnOk P w K mg base CX0 1 ft fdt ["_law_bag_here", "_law_many"] spTake) (DP : Df K mg "_law_pick" s_law_pick ["_law_bag_here", "_law_some"] fp fdp) (GP : FnOk P w K mg base CX0 2 fp fdp ["_law_bag_here", "_law_some"] (spPick K))
    (DW : Df K mg "_law_word" s_law_word ["_law_bag_here", "_law_labels_here", "_law_least", "_law_most"] fw fdw) (GW : FnOk P w K mg base CX0 3 fw fdw ["_law_bag_here", "_law_labels_here", "_law_least", "_law_most"] (spWord8 K))
    (ml : mg "len" = none) (mr : mg "range" = none) : FnOk P w K mg base CX0 4 f fd ["_law_bag_here", "_law_labels_here", "_law_many"] (spSuf K) := by
  refine F.ok scSuf (fun vs H Q E h => ?_) (fun cdv A outer s H vs Q E hr h => ?_)
  · obtain ⟨b, bc, l, ls, m, rfl, _⟩ := h
    rfl
  obtain ⟨b, bc, l, ls, m, rfl, bag, nlb, sl, lab, klab, l1, l2, hm, q⟩ := h
  have nd := scSuf.nd
  have un := hr.un
  refine ⟨_, pss_cons (ps_set (i := 3) nd rfl (.inl rfl) (pe_lst pa_nil))
    (C8.pss_cut (ps_for PassesOwn.never rfl (pi_range1 (by rfl) mr (pa_cons (pv 2) pa_nil)) (pg_name (i := 4) nd rfl (.inl rfl))
      (C8.pss_cut (ps_set (i := 5) nd rfl (.inl rfl) (pcall DW GW hr (pa_cons (pv 0) (pa_cons (pv 1) (pa_cons pe_int (pa_cons pe_int pa_nil))))))
      (C8.pss_cut (ps_if (PW.pt (pw_and (pt_cmpR (op_neD hr.units) (pv 3) (pe_lst pa_nil) (nomark _)) (pw_and1 (pt_cmpR op_eq (pcall DT GT (hr.mono (by decide)) (pa_cons (pv 0) (pa_cons pe_int pa_nil))) pe_int (nomark _)))))
        (pss_one (ps_set (i := 5) nd rfl (.inl rfl) (pe_slice sl_tupD (pe_op op_catD (pcall DW GW hr (pa_cons (pv 0) (pa_cons (pv 1) (pa_cons pe_int (pa_cons pe_int pa_nil))))) (pcall DP GP (hr.mono (by decide)) (pa_cons (pv 0) (pa_cons (pv 3) pa_nil)))) (po_some (pe_un un_neg pe_int)) po_none))) pss_nil)
      (pss_one (ps_if (pt_cmpR (op_notInD (by show A.units + 3 + 65 < cLine; have : A.units + 3 + 16 * 3 + 200 < cLine := un; omega)) (pv 5) (pv 3) (by rfl)) (pss_one (ps_expr (pe_bm PySem.F.plainAttrs_list PySem.F.slot_list_insert PySem.F.type_list_insert mt_insert (pv 3)
        (pa_cons (pcall DT GT (hr.mono (by decide)) (pa_cons (pv 0) (pa_cons (pe_op op_add (pe_callB call_len_seq (by rfl) ml PySem.boot_len (pa_cons (pv 3) pa_nil)) pe_int) pa_nil))) (pa_cons (pv 5) pa_nil))))) pss_nil)))))
    (pss_one (ps_ret (pv 3)))), ?_⟩
  refine ⟨by show 0 ≤ sizeLine; decide, fun r nr => ?_⟩
  have s0 := same_put (o := HO.lst []) nr
  have nrb := bag.apart nr
  refine ⟨fun σ' G => ∃ ks y4 y5, σ' = [some (.ref b), some (.ref l), some (.int m), some (.ref r), y4, y5] ∧ Drew b bc H G ∧ G r = some (.lst (ks.map fun q => V.ref q.1)) ∧ KsOk K G 3 ks ∧ ks.length ≤ m, ?_, ?_⟩
  · refine ⟨.int m, rfl, _, rfl, by omega, by omega, ?_⟩
    show ∃ W, _
    rw [show (m : Int).toNat = m from Int.toNat_natCast m]
    refine for_range (lo := 0) (n := m) (fun i σ' G => ∃ ks y4 y5, σ' = [some (.ref b), some (.ref l), some (.int m), some (.ref r), y4, y5] ∧ Drew b bc H G ∧ G r = some (.lst (ks.map fun q => V.ref q.1)) ∧ KsOk K G 3 ks ∧ ks.length ≤ i)
      ⟨[], none, none, rfl, (Drew.refl bag).same s0, upd_same, ⟨fun _ h => absurd h List.not_mem_nil, List.nodup_nil⟩, Nat.le_refl _⟩ (fun i σ' G hi h => ?_) (fun σ' G h => h)
    obtain ⟨ks, y4, y5, rfl, dG, er, ok, le⟩ := h
    have sqL : ∀ {G2 : Hp}, Drew b bc H G2 → SqL K G2 l (ls.map V.str) := fun d => drew_seq d nlb sl
    have keep : ∀ {G1 G2 : Hp}, Drew b bc H G1 → Drew b bc G1 G2 → KsOk K G1 3 ks → KsOk K G2 3 ks := fun d1 d2 k => ⟨fun q hq => ⟨d2.nm d1.bag.lst (k.1 q hq).1, (k.1 q hq).2⟩, k.2⟩
    -- the name
    refine ⟨fun σ' G2 => ∃ p nm, σ' = [some (.ref b), some (.ref l), some (.int m), some (.ref r), some (.int (0 + (i : Nat))), some (.ref p)] ∧ Drew b bc H G2 ∧ G2 r = some (.lst (ks.map fun q => V.ref q.1)) ∧ KsOk K G2 3 ks ∧ Nm K G2 p nm ∧ FullN 3 nm, ?_, ?_⟩
    · refine ⟨.ref b, rfl, .ref l, rfl, b, bc, l, ls, 1, 3, rfl, dG.bag, nlb, sqL dG, lab, klab, l1, l2, by decide, by decide, fun G2 p nm d2 hp _ kn a1 a3 => ?_⟩
      exact ⟨p, nm, rfl, dG.trans d2, d2.keep r _ nrb.1 er, keep dG d2 ok, hp, fun z => by rw [z] at a1; exact absurd a1 (by decide), a3, kn⟩
    rintro _ G2 ⟨p, nm, rfl, d2, er2, ok2, hp, fn⟩
    -- the other one
    refine ⟨fun σ' G3 => ∃ p nm, σ' = [some (.ref b), some (.ref l), some (.int m), some (.ref r), some (.int (0 + (i : Nat))), some (.ref p)] ∧ Drew b bc H G3 ∧ G3 r = some (.lst (ks.map fun q => V.ref q.1)) ∧ KsOk K G3 3 ks ∧ Nm K G3 p nm ∧ FullN 3 nm, ?_, ?_⟩
    · refine ⟨.ref r, rfl, by show 0 ≤ sizeLine; decide, fun e ne => ?_⟩
      have se := same_put (o := HO.lst []) ne
      have de := d2.same se
      have oke : KsOk K (upd G2 e (.lst [])) 3 ks := ⟨fun q hq => ⟨same_seqT se (ok2.1 q hq).1, (ok2.1 q hq).2⟩, ok2.2⟩
      have ere := se _ _ er2
      have gl := (ok2.good (by omega)).shaped (by decide)
      refine ⟨.list (ks.map fun q : Addr × List Str => nameD q.2), .list [], .lst (.inl (.inl ere)) (names_dp fun q hq => (oke.1 q hq).1), .lst (.inl (.inl upd_same)) .nil, gl, by decide +kernel, _, rfl, ?_⟩
      rw [eqv_empty]
      by_cases emp : ks = []
      · subst emp
        exact iteF ⟨p, nm, rfl, de, ere, oke, same_seqT se hp, fn⟩
      · have ne' : (ks.map fun q : Addr × List Str => nameD q.2) ≠ [] := fun z => emp (List.map_eq_nil_iff.mp z)
        rw [decide_eq_false ne']
        refine iteT ⟨.ref b, rfl, b, bc, 2, rfl, de.bag, by decide, by decide, fun G4 r4 d4 _ => ⟨rfl, _, rfl, ?_⟩⟩
        have d4' := de.trans d4
        have ok4 := keep de d4 oke
        have er4 := d4.keep r _ nrb.1 ere
        by_cases z : ((r4 : Nat) : Int) = 0
        · refine iteD (congrArg V.int z) ?_
          refine ⟨.ref b, rfl, .ref l, rfl, b, bc, l, ls, 1, 2, rfl, d4'.bag, nlb, sqL d4', lab, klab, l1, l2, by decide, by decide, fun G5 p5 n5 d5 hp5 _ kn5 a1 a2 => ?_⟩
          have d5' := d4'.trans d5
          have ok5 := keep d4' d5 ok4
          have er5 := d5.keep r _ nrb.1 er4
          refine ⟨.ref b, rfl, .ref r, rfl, b, bc, r, ks.map fun q => V.ref q.1, rfl, d5'.bag, nrb.1, SqL.of er5, by rw [List.length_map]; exact List.length_pos_iff.mpr emp, by rw [List.length_map]; omega, fun G6 j v d6 hv => ?_⟩
          rw [List.getElem?_map] at hv
          obtain ⟨o, ho, rfl⟩ := Option.map_eq_some_iff.mp hv
          have d6' := d5'.trans d6
          have ok6 := keep d5' d6 ok5
          obtain ⟨no, fo⟩ := ok6.1 o (List.mem_of_getElem? ho)
          have hp6 : Nm K G6 p5 n5 := d6.nm d5'.bag.lst hp5
          refine ⟨p5, o.1, _, _, rfl, rfl, hp6, no, small1000' (by rw [List.length_map, List.length_map]; have := fo.few; omega), fun c G7 s7 hc => ?_⟩
          refine ⟨_, rfl, _, rfl, c, _, rfl, hc, fun t G8 s8 ht => ?_⟩
          have d8 := (d6'.same s7).same s8
          have s78 := s7.trans s8
          have ht' : SqT K G8 t (cutV (n5.map V.str ++ o.2.map V.str) (some (-((3 : Nat) : Int))) none) := ht
          rw [cut_last (by decide), ← List.map_append, List.length_map, ← List.map_drop] at ht'
          have ll : (n5 ++ o.2).length = n5.length + o.2.length := List.length_append
          refine ⟨t, (n5 ++ o.2).drop ((n5 ++ o.2).length - 3), rfl, d8, s78 _ _ (d6.keep r _ nrb.1 er5), ⟨fun q hq => ⟨same_seqT s78 (ok6.1 q hq).1, (ok6.1 q hq).2⟩, ok6.2⟩, ht', fun z => ?_, by rw [List.length_drop]; omega, fun x hx => ?_⟩
          · have := congrArg List.length z
            rw [List.length_drop, List.length_nil] at this
            omega
          · rcases List.mem_append.mp (List.mem_of_mem_drop hx) with y | y
            · exact kn5 x y
            · exact fo.labs x y
        · exact iteDF (fun e => z (V.int.inj e)) ⟨p, nm, rfl, d4', er4, ok4, d4.nm de.bag.lst (same_seqT se hp), fn⟩
    rintro _ G3 ⟨p, nm, rfl, d3, er3, ok3, hp3, fn⟩
    -- kept if it is new
    have g3 := (ok3.good (by omega)).shaped (by decide)
    have gn := (good_name fn.labs' (Nat.le_trans fn.few (by decide))).shaped (by decide)
    refine ⟨.ref p, rfl, .ref r, rfl, nameD nm, (ks.map fun q : Addr × List Str => nameD q.2), nm_dp hp3, .lst (.inl (.inl er3)) (names_dp fun q hq => (ok3.1 q hq).1), gn, g3, _, rfl, ?_⟩
    rw [any_name]
    by_cases new : nm ∈ ks.map (·.2)
    · exact ite_no (decide_eq_true new) ⟨ks, _, _, rfl, d3, er3, ok3, Nat.le_succ_of_le le⟩
    · rw [decide_eq_false new]
      refine iteT ⟨.ref r, rfl, .inl ⟨rfl, _, SqL.of er3⟩, .ref b, rfl, .ref r, rfl, r, _, rfl, .inl (SqL.of er3), _, _, rfl, rfl, b, bc, ks.length + 1, ?_, d3.bag, by omega, by omega, fun G4 k d4 hk => ?_⟩
      · show [V.ref b, V.int ((((ks.map fun q => V.ref q.1).length : Nat) : Int) + 1)] = _
        rw [List.length_map]
        rfl
      have er4 := d4.keep r _ nrb.1 er3
      have ok4 := keep d3 d4 ok3
      refine ⟨.ref p, rfl, r, _, k, .ref p, rfl, rfl, er4, small1000 (by rw [List.length_map]; omega), by omega, by omega, ?_⟩
      have pm : (ks.take k ++ [(p, nm)] ++ ks.drop k).Perm ((p, nm) :: ks) := by
        have := List.perm_middle (a := (p, nm)) (l₁ := ks.take k) (l₂ := ks.drop k)
        rw [List.take_append_drop] at this
        rw [List.append_assoc]
        exact this
      refine ⟨ks.take k ++ [(p, nm)] ++ ks.drop k, _, _, rfl, (d3.trans d4).put bag nr, ?_, ⟨fun q hq => ?_, ?_⟩, by rw [pm.length_eq]; exact Nat.succ_le_succ le⟩
      · rw [upd_same, List.map_append, List.map_append, List.map_take, List.map_drop]
        rfl
      · rcases List.mem_cons.mp (pm.mem_iff.mp hq) with z | z
        · subst z
          exact ⟨sq_upd (d4.nm d3.bag.lst hp3) er4, fn⟩
        · exact ⟨sq_upd (ok4.1 q z).1 er4, (ok4.1 q z).2⟩
      · exact (pm.map (·.2)).nodup_iff.mpr (List.nodup_cons.mpr ⟨new, ok4.2⟩)
  rintro _ G ⟨ks, y4, y5, rfl, dG, er, ok, le⟩
  exact ⟨.ref r, rfl, q G r ks dG nr er ok le⟩

def hostF (l : Addr) (dv : V) (st : Bool) : List (Str × V) := [("_suffixes", .ref l), ("_dots", dv), ("_stops", .bl st)]
def DotsV (dv : V) : Prop := dv = .non ∨ ∃ k : Nat, k ≤ 4 ∧ dv = .int k
def spHostInit (K : PySem.W.Frag) (C : Addr) : Sp := fun vs H Q _ => ∃ (p dx l : Addr) (ks : List (Addr × List Str)) (dv : V) (st : Bool), vs = [.ref p, .ref l, dv, .bl st] ∧ H p = some (.ins C dx []) ∧ SqL K H l (ks.map fun q => V.ref q.1) ∧ (∀ q ∈ ks, Nm K H q.1 q.2 ∧ FullN 3 q.2) ∧ (ks.map (·.2)).Nodup ∧ ks.length ≤ 5 ∧ DotsV dv ∧
  ∀ H' l', (∀ b o, H b = some o → b ≠ p → H' b = some o) → H' p = some (.ins C dx (hostF l' dv st)) → H l' = none → H' l' = some (.lst (ks.map fun q => V.ref q.1)) → Q .non H'
theorem Drew_free {H H' : Hp} {a : Addr} (s : Same H H') (e : H' a = none) : H a = none := by
  cases z : H a with
  | none => rfl
  | some o => rw [s _ _ z] at e; cases e
theorem ite_same {x : V} {A B : Prop} (b : B) : if (!decide (x = x)) = true then A else B := by
  rw [decide_eq_true rfl]
  exact b
theorem ite_diff {x y : V} {A B : Prop} (n : x ≠ y) (a : A) : if (!decide (x = y)) = true then A else B := by
  rw [decide_eq_false n]
  exact a
theorem scHostInit : FnScope ["self", "suffixes", "dots", "stops"] ["self", "suffixes", "dots", "stops"] (defScope s_Host_init) := ⟨rfl, rfl, rfl, by decide +kernel, rfl, by decide +kernel, by decide +kernel⟩
theorem ok_host_init {f C fa fn : Addr} {fd fda fdn : FuncData} {t1 t2 t3 : Tok} (F : Fun K "__init__" "Host.__init__" s_Host_init f fd) (cl : Cls K C) (na1 : NoAttr K C "_suffixes") (na2 : NoAttr K C "_dots") (na3 : NoAttr K C "_stops")
    (DA : Df K mg "are_names" s_are_names ["thing", "most", "labels"] fa fda) (GA : FnOk P w K mg base CX0 4 fa fda ["thing", "most", "labels"] (spAreNames K)) (DN : Df K mg "is_number" s_is_number ["many", "thing"] fn fdn) (GN : FnOk P w K mg base CX0 2 fn fdn ["many", "thing"] (spNumber K C))
    (mis : mg "isinstance" = none) (mb : mg "bool" = none) (mli : mg "list" = none) (mS : mg "MOST_SUFFIXES" = some (.int 5 t1)) (mL : mg "SUFFIX_LABELS" = some (.int 3 t2)) (mD : mg "GREATEST_DOTS" = some (.int 4 t3)) : FnOk P w K mg base CX0 5 f fd ["self", "suffixes", "dots", "stops"] (spHostInit K C) := by
  refine F.ok scHostInit (fun vs H Q E h => ?_) (fun cdv A outer s H vs Q E hr h => ?_)
  · obtain ⟨p, dx, l, ks, dv, st, rfl, _⟩ := h
    rfl
  obtain ⟨p, dx, l, ks, dv, st, rfl, hp, hl, names, once, few, hd, q⟩ := h
  have nd := scHostInit.nd
  refine ⟨_, pss_cons (ps_if (pt_not (pt_val (pcall DA GA hr (pa_cons (pv 1) (pa_cons (pe_glob (v := .int 5) rfl mS ⟨_, rfl⟩) (pa_cons (pe_glob (v := .int 3) rfl mL ⟨_, rfl⟩) pa_nil)))))) pss_never pss_nil)
    (C8.pss_cut (ps_if (PW.pt (pw_and (pt_cmpR op_notN (pv 2) pe_non (nomark _)) (pw_and1 (pt_not (pt_val (pcall DN GN (hr.mono (by decide)) (pa_cons (pe_op op_add (pe_glob (v := .int 4) rfl mD ⟨_, rfl⟩) pe_int) (pa_cons (pv 2) pa_nil)))))))) pss_never pss_nil)
    (pss_cons (ps_if (pt_not (pt_val (pe_callB call_isi (by rfl) mis (by decide +kernel) (pa_cons (pv 3) (pa_cons (pe_bltn (v := .ty "bool") (by rfl) mb (by decide +kernel) rfl) pa_nil))))) pss_never pss_nil)
    (pss_cons (ps_fld (pv 0) (pe_callTy call_list_of (by rfl) mli (by decide +kernel) (pa_cons (pv 1) pa_nil)) rfl)
    (pss_cons (ps_fld (pv 0) (pv 2) rfl) (pss_one (ps_fld (pv 0) (pv 3) rfl)))))), ?_⟩
  refine ⟨.ref l, rfl, l, ks, 5, 3, rfl, hl, names, once, few, by decide, by decide, fun G1 s1 => ⟨true, rfl, iteF ?_⟩⟩
  refine ⟨fun σ' G2 => σ' = [some (.ref p), some (.ref l), some dv, some (.bl st)] ∧ Same H G2, ?_, ?_⟩
  · refine ⟨dv, rfl, rfl, _, rfl, ?_⟩
    rcases hd with rfl | ⟨k, hk, rfl⟩
    · exact ite_same ⟨rfl, s1⟩
    · refine ite_diff (fun z => by cases z) ?_
      refine ⟨_, _, rfl, rfl, .int k, rfl, .int k, .d (.int k), 5, rfl, .dp (.int k), fun G2 s2 => ⟨true, ?_, iteF ⟨rfl, s1.trans s2⟩⟩⟩
      show V.bl (decide (0 ≤ (k : Int) ∧ (k : Int) ≤ 5 - 1)) = _
      rw [decide_eq_true (by omega)]
  rintro _ G2 ⟨rfl, s2⟩
  refine ⟨.bl st, rfl, .bl st, .ty "bool", _, _, _, rfl, .ty "bool", .base (.bl st), kit_ty (show kitB "bool" "bool" = some true by decide +kernel), true, rfl, iteF ?_⟩
  refine ⟨.ref l, rfl, l, _, rfl, .inl (same_seqL s2 hl), fun l' nl => ?_⟩
  have sl := same_put (o := HO.lst (ks.map fun q => V.ref q.1)) nl
  have lp : l' ≠ p := fun z => by rw [z, s2 _ _ hp] at nl; cases nl
  refine ⟨.ref p, rfl, p, C, dx, [], rfl, sl _ _ (s2 _ _ hp), cl, na1, by decide, ?_⟩
  refine ⟨dv, rfl, .ref p, rfl, p, C, dx, _, rfl, upd_same, cl, na2, by show 1 < 1000; decide, ?_⟩
  refine ⟨.bl st, rfl, .ref p, rfl, p, C, dx, _, rfl, upd_same, cl, na3, by show 2 < 1000; decide, ?_⟩
  refine q _ l' (fun b o e nb => ?_) (by rw [upd_same]; rfl) (Drew_free s2 nl) ?_
  · rw [upd_ne nb, upd_ne nb, upd_ne nb]
    exact sl _ _ (s2 _ _ e)
  · rw [upd_ne lp, upd_ne lp, upd_ne lp, upd_same]

/-- a host: its suffixes, its dots, its manner -/
def HostAt (C : Addr) (H : Hp) (p : Addr) (ks : List (Addr × List Str)) (dv : V) (st : Bool) : Prop := ∃ dx l, H p = some (.ins C dx (hostF l dv st)) ∧ H l = some (.lst (ks.map fun q => V.ref q.1))
theorem HostAt.same {C p : Addr} {H H' : Hp} {ks : List (Addr × List Str)} {dv : V} {st : Bool} (h : HostAt C H p ks dv st) (s : Same H H') : HostAt C H' p ks dv st := by
  obtain ⟨dx, l, e1, e2⟩ := h
  exact ⟨dx, l, s _ _ e1, s _ _ e2⟩
def spSuffixes (C : Addr) : Sp := fun vs H Q _ => ∃ (p : Addr) (ks : List (Addr × List Str)) (dv : V) (st : Bool), vs = [.ref p] ∧ HostAt C H p ks dv st ∧ ∀ r, H r = none → Q (.ref r) (upd H r (.lst (ks.map fun q => V.ref q.1)))
theorem scSuffixes : FnScope ["self"] ["self"] (defScope s_Host_suffixes) := ⟨rfl, rfl, rfl, by decide +kernel, rfl, by decide +kernel, by decide +kernel⟩
theorem ok_suffixes {f C : Addr} {fd : FuncData} (F : Fun K "suffixes" "Host.suffixes" s_Host_suffixes f fd) (cl : Cls K C) (na1 : NoAttr K C "_suffixes") (mli : mg "list" = none) : FnOk P w K mg base CX0 1 f fd ["self"] (spSuffixes C) := by
  refine F.ok scSuffixes (fun vs H Q E h => ?_) (fun cdv A outer s H vs Q E hr h => ?_)
  · obtain ⟨p, ks, dv, st, rfl, _⟩ := h
    rfl
  obtain ⟨p, ks, dv, st, rfl, ⟨dx, l, e1, e2⟩, q⟩ := h
  refine ⟨_, pss_one (ps_ret (pe_callTy call_list_of (by rfl) mli (by decide +kernel) (pa_cons (pe_fld (pv 0) (by rfl)) pa_nil))), ?_⟩
  exact ⟨.ref p, rfl, p, C, dx, _, _, rfl, e1, cl, na1, rfl, l, _, rfl, .inl (SqL.of e2), q⟩
def spDots (C : Addr) : Sp := fun vs H Q _ => ∃ (p : Addr) (ks : List (Addr × List Str)) (dv : V) (st : Bool), vs = [.ref p] ∧ HostAt C H p ks dv st ∧ Q dv H
theorem scDots : FnScope ["self"] ["self"] (defScope s_Host_dots) := ⟨rfl, rfl, rfl, by decide +kernel, rfl, by decide +kernel, by decide +kernel⟩
theorem ok_dots {f C : Addr} {fd : FuncData} (F : Fun K "dots" "Host.dots" s_Host_dots f fd) (cl : Cls K C) (na2 : NoAttr K C "_dots") : FnOk P w K mg base CX0 1 f fd ["self"] (spDots C) := by
  refine F.ok scDots (fun vs H Q E h => ?_) (fun cdv A outer s H vs Q E hr h => ?_)
  · obtain ⟨p, ks, dv, st, rfl, _⟩ := h
    rfl
  obtain ⟨p, ks, dv, st, rfl, ⟨dx, l, e1, e2⟩, q⟩ := h
  refine ⟨_, pss_one (ps_ret (pe_fld (pv 0) (by rfl))), ?_⟩
  exact ⟨.ref p, rfl, p, C, dx, _, _, rfl, e1, cl, na2, rfl, q⟩

def entL (n : Nat) (dv : V) (len : Nat) : List Nat := match dv with
  | .int k => if k < (len : Int) then n :: List.range n else List.range n ++ [n]
  | _ => List.range n
def spEntries (K : PySem.W.Frag) (C : Addr) : Sp := fun vs H Q _ => ∃ (p c : Addr) (ks : List (Addr × List Str)) (dv : V) (st : Bool) (nm : List Str), vs = [.ref p, .ref c] ∧ HostAt C H p ks dv st ∧ DotsV dv ∧ ks.length ≤ 5 ∧ Nm K H c nm ∧
  ∀ H' r, Same H H' → H' r = some (.lst ((entL ks.length dv nm.length).map fun i => V.int (i : Nat))) → Q (.ref r) H'
theorem scEntries : FnScope ["self", "short", "own", "found"] ["self", "short"] (defScope s_Host_entries) := ⟨rfl, rfl, rfl, by decide +kernel, rfl, by decide +kernel, by decide +kernel⟩
theorem ok_entries {f C : Addr} {fd : FuncData} (F : Fun K "entries" "Host.entries" s_Host_entries f fd) (cl : Cls K C) (na1 : NoAttr K C "_suffixes") (na2 : NoAttr K C "_dots") (mli : mg "list" = none) (mr : mg "range" = none) (ml : mg "len" = none) : FnOk P w K mg base CX0 1 f fd ["self", "short"] (spEntries K C) := by
  refine F.ok scEntries (fun vs H Q E h => ?_) (fun cdv A outer s H vs Q E hr h => ?_)
  · obtain ⟨p, c, ks, dv, st, nm, rfl, _⟩ := h
    rfl
  obtain ⟨p, c, ks, dv, st, nm, rfl, ⟨dx, l, e1, e2⟩, hd, few, hn, q⟩ := h
  have nd := scEntries.nd
  refine ⟨_, pss_cons (ps_set (i := 2) nd rfl (.inl rfl) (pe_callB call_len_seq (by rfl) ml PySem.boot_len (pa_cons (pe_fld (pv 0) (by rfl)) pa_nil)))
    (pss_cons (ps_set (i := 3) nd rfl (.inl rfl) (pe_callTy (cr_listRange rfl) (by rfl) mli (by decide +kernel) (pa_cons (pe_callTy cr_range1 (by rfl) mr (by decide +kernel) (pa_cons (pv 2) pa_nil)) pa_nil)))
    (pss_cons (ps_if (pt_cmpR op_isN (pe_fld (pv 0) (by rfl)) pe_non (nomark _)) (pss_one (ps_ret (pv 3))) pss_nil)
    (pss_one (ps_ret (pe_ifExp (pt_cmpR op_gt (pe_callB call_len_seq (by rfl) ml PySem.boot_len (pa_cons (pv 1) pa_nil)) (pe_fld (pv 0) (by rfl)) (nomark _))
      (pe_lst (pa_cons (pv 2) (StX.pa_star (pv 3) pa_nil))) (pe_lst (StX.pa_star (pv 3) (pa_cons (pv 2) pa_nil)))))))), ?_⟩
  refine ⟨.ref p, rfl, p, C, dx, _, _, rfl, e1, cl, na1, rfl, l, _, rfl, .inl (SqL.of e2), ?_⟩
  refine ⟨_, rfl, _, rfl, fun g ng => ⟨g, ks.length, rfl, by rw [upd_same, List.length_map], by omega, fun u nu => ?_⟩⟩
  have s2 := (same_put (o := HO.rng 0 ((ks.map fun q => V.ref q.1).length : Nat)) ng).trans (same_put (o := HO.lst (upToV ks.length)) nu)
  refine ⟨.ref p, rfl, p, C, dx, _, _, rfl, s2 _ _ e1, cl, na2, rfl, rfl, _, rfl, ?_⟩
  rcases hd with rfl | ⟨k, hk, rfl⟩
  · refine iteD rfl ⟨_, rfl, ?_⟩
    exact q _ u s2 upd_same
  · refine iteDF (fun z => by cases z) ?_
    refine ⟨.ref c, rfl, c, _, rfl, .inr (same_seqT s2 hn), .ref p, rfl, p, C, dx, _, _, rfl, s2 _ _ e1, cl, na2, rfl, _, _, rfl, rfl, _, rfl, ?_⟩
    have lk : ∀ m : Nat, (upToV m).length = m := fun m => by rw [upToV, List.length_map, List.length_range]
    by_cases gt : (k : Int) < ((nm.map V.str).length : Int)
    · refine iteD gt ⟨_, rfl, .ref u, rfl, u, _, rfl, .inr (SqL.of upd_same), small1000' (by rw [List.append_nil, List.length_cons, lk]; omega), fun r nr => q _ r (s2.trans (same_put nr)) ?_⟩
      rw [upd_same]
      unfold entL
      rw [List.length_map] at gt
      simp only
      rw [if_pos gt, List.length_map, List.append_nil]
      rfl
    · refine iteDF gt ⟨.ref u, rfl, u, _, rfl, .inr (SqL.of upd_same), _, rfl, small1000' (by rw [List.length_append, lk, List.length_singleton]; omega), fun r nr => q _ r (s2.trans (same_put nr)) ?_⟩
      rw [upd_same]
      unfold entL
      rw [List.length_map] at gt
      simp only
      rw [if_neg gt, List.length_map, List.map_append]
      rfl

def endsOf (ks : List (Addr × List Str)) : List (List Str) := ks.map (·.2) ++ [[]]
def candL (ks : List (Addr × List Str)) (dv : V) (nm : List Str) : List (List Str) := (entL ks.length dv nm.length).map fun i => nm ++ (endsOf ks).getD i []
def spCandidates (K : PySem.W.Frag) (C : Addr) : Sp := fun vs H Q _ => ∃ (p c : Addr) (ks : List (Addr × List Str)) (dv : V) (st : Bool) (nm : List Str), vs = [.ref p, .ref c] ∧ HostAt C H p ks dv st ∧ DotsV dv ∧ ks.length ≤ 5 ∧ (∀ q ∈ ks, Nm K H q.1 q.2 ∧ q.2.length ≤ 100) ∧ Nm K H c nm ∧ nm.length ≤ 100 ∧
  ∀ H' r (rs : List (Addr × List Str)), Same H H' → H r = none → H' r = some (.lst (rs.map fun q => V.ref q.1)) → (∀ q ∈ rs, Nm K H' q.1 q.2) → rs.map (·.2) = candL ks dv nm → Q (.ref r) H'
theorem scCandidates : FnScope ["self", "short", "ends", "entry"] ["self", "short"] (defScope s_Host_candidates) := ⟨rfl, rfl, rfl, by decide +kernel, rfl, by decide +kernel, by decide +kernel⟩
theorem entL_lt {n : Nat} {dv : V} {m : Nat} (hd : DotsV dv) : ∀ i ∈ entL n dv m, i ≤ n := by
  intro i hi
  rcases hd with rfl | ⟨k, _, rfl⟩
  · exact Nat.le_of_lt (List.mem_range.mp hi)
  · unfold entL at hi
    simp only at hi
    split at hi
    · rcases List.mem_cons.mp hi with e | e
      · omega
      · exact Nat.le_of_lt (List.mem_range.mp e)
    · rcases List.mem_append.mp hi with e | e
      · exact Nat.le_of_lt (List.mem_range.mp e)
      · rw [List.mem_singleton] at e
        omega
theorem ok_candidates {f C fe : Addr} {fd fde : FuncData} (F : Fun K "candidates" "Host.candidates" s_Host_candidates f fd) (cl : Cls K C) (na1 : NoAttr K C "_suffixes") (ME : Meth K C "entries" fe) (GE : FnOk P w K mg base CX0 1 fe fde ["self", "short"] (spEntries K C)) (bE : Binds K fde ["self", "short"] []) : FnOk P w K mg base CX0 2 f fd ["self", "short"] (spCandidates K C) := by
  refine F.ok scCandidates (fun vs H Q E h => ?_) (fun cdv A outer s H vs Q E hr h => ?_)
  · obtain ⟨p, c, ks, dv, st, nm, rfl, _⟩ := h
    rfl
  obtain ⟨p, c, ks, dv, st, nm, rfl, ⟨dx, l, e1, e2⟩, hd, few, names, hn, hm, q⟩ := h
  have nd := scCandidates.nd
  refine ⟨_, pss_cons (ps_set (i := 2) nd rfl (.inr rfl) (pe_lst (StX.pa_star (pe_fld (pv 0) (by rfl)) (pa_cons (pe_tup pa_nil) pa_nil))))
    (pss_one (ps_ret (pe_lc (own := [("entry", 3)]) (g := gName 3) (tt := tYes) rfl nd (pi_list (pe_meth (E := E0) (pv 0) cl ME GE hr bE .nil pass0 (pa_cons (pv 1) pa_nil) (by rfl) (by rfl) (by rfl)))
      (blkOk_by (N := ["self", "short", "ends", "entry"]) (sc := defScope s_Host_candidates) (by decide +kernel)) (fun _ _ _ _ _ => pg_name (i := 3) nd rfl (Or.inl rfl)) (fun _ _ _ _ _ => pts_nil)
      (fun _ _ _ _ _ => pe_op (r := rCatD K) op_catD (pv 1) (pe_ix (r := rIxL K) ix_list (pv 2) (pv 3) (fun _ _ => rfl)))))), ?_⟩
  refine ⟨.ref p, rfl, p, C, dx, _, _, rfl, e1, cl, na1, rfl, l, _, rfl, .inr (SqL.of e2), by show 0 ≤ sizeLine; decide, fun t nt => ?_⟩
  refine ⟨small1000' (by rw [List.length_append, List.length_map]; show ks.length + 1 ≤ 1000; omega), fun g ng => ?_⟩
  have s2 := (same_put (o := HO.tup []) nt).trans (same_put (o := HO.lst ((ks.map fun q => V.ref q.1) ++ [V.ref t])) ng)
  refine ⟨.ref p, rfl, p, dx, _, rfl, s2 _ _ e1, rfl, .ref c, rfl, p, c, ks, dv, st, nm, rfl, ⟨dx, l, s2 _ _ e1, s2 _ _ e2⟩, hd, few, same_seqT s2 hn, fun H3 r s3 er => ?_⟩
  refine ⟨r, rfl, ⟨_, SqL.of er⟩, fun D nD => ?_⟩
  have s23 := s2.trans s3
  have eg : H3 g = some (.lst ((ks.map fun q => V.ref q.1) ++ [V.ref t])) := s3 _ _ upd_same
  have et : H3 t = some (.tup []) := s3 _ _ (same_put ng _ _ upd_same)
  refine lc_list (K := K) (a := r) (xs := (entL ks.length dv nm.length).map fun i => V.int (i : Nat)) (fun i G => ∃ rs : List (Addr × List Str), G D = some (.lst (rs.map fun q => V.ref q.1)) ∧ Same H3 G ∧ (∀ q ∈ rs, Nm K G q.1 q.2) ∧ rs.map (·.2) = ((entL ks.length dv nm.length).take i).map fun i => nm ++ (endsOf ks).getD i [])
    ⟨[], upd_same, same_put nD, fun _ h => absurd h List.not_mem_nil, rfl⟩ (fun i G _ h => SqL.of (h.choose_spec.2.1 _ _ er)) (fun i v G hv h => ?_) (fun G h => ?_)
  · obtain ⟨rs, eD, sm, nms, eq⟩ := h
    rw [List.getElem?_map] at hv
    obtain ⟨j, hj, rfl⟩ := Option.map_eq_some_iff.mp hv
    have jn := entL_lt hd j (List.mem_of_getElem? hj)
    have s4 := s23.trans sm
    have item : ∃ aj, ((ks.map fun q => V.ref q.1) ++ [V.ref t])[j]? = some (.ref aj) ∧ Nm K G aj ((endsOf ks).getD j []) ∧ ((endsOf ks).getD j []).length ≤ 100 := by
      rcases Nat.lt_or_eq_of_le jn with lt | e
      · refine ⟨ks[j].1, ?_, ?_⟩
        · rw [List.getElem?_append_left (by rw [List.length_map]; exact lt), List.getElem?_map, List.getElem?_eq_getElem lt]
          rfl
        · have e1 : (endsOf ks).getD j [] = ks[j].2 := by
            rw [List.getD_eq_getElem?_getD, endsOf, List.getElem?_append_left (by rw [List.length_map]; exact lt), List.getElem?_map, List.getElem?_eq_getElem lt]
            rfl
          rw [e1]
          exact ⟨same_seqT s4 (names _ (List.getElem_mem lt)).1, (names _ (List.getElem_mem lt)).2⟩
      · subst e
        have e1 : (endsOf ks).getD ks.length [] = [] := by
          rw [List.getD_eq_getElem?_getD, endsOf, List.getElem?_append_right (by rw [List.length_map]; exact Nat.le_refl _), List.length_map, Nat.sub_self]
          rfl
        refine ⟨t, ?_, ?_⟩
        · rw [List.getElem?_append_right (by rw [List.length_map]; exact Nat.le_refl _), List.length_map, Nat.sub_self]
          rfl
        · rw [e1]
          exact ⟨.inl (.inl (sm _ _ et)), by decide⟩
    obtain ⟨aj, ej, nj, lj⟩ := item
    refine ⟨rfl, .ref c, rfl, .ref g, rfl, .int j, rfl, g, _, _, _, rfl, rfl, SqL.of (sm _ _ eg), atI_nat ej, c, aj, _, _, rfl, rfl, same_seqT s4 hn, nj, small1000' (by rw [List.length_map, List.length_map]; omega), fun r' G2 s5 hr' => ?_⟩
    have len : rs.length = i ∨ rs.length ≤ i := .inr (by
      have := congrArg List.length eq
      rw [List.length_map, List.length_map, List.length_take] at this
      omega)
    have il : i < (entL ks.length dv nm.length).length := (List.getElem?_eq_some_iff.mp hj).1
    have el : (entL ks.length dv nm.length).length ≤ 6 := by
      rcases hd with rfl | ⟨k, _, rfl⟩
      · show (List.range ks.length).length ≤ 6
        rw [List.length_range]
        omega
      · unfold entL
        simp only
        split
        · rw [List.length_cons, List.length_range]
          omega
        · rw [List.length_append, List.length_range, List.length_singleton]
          omega
    refine ⟨_, s5 _ _ eD, small1000 (by rw [List.length_map]; omega), rs ++ [(r', nm ++ (endsOf ks).getD j [])], ?_, fun b o w => ?_, fun q' hq => ?_, ?_⟩
    · rw [upd_same, List.map_append]
      rfl
    · rw [upd_ne (ne_of_none w nD)]
      exact s5 _ _ (sm _ _ w)
    · have eD2 := s5 _ _ eD
      rcases List.mem_append.mp hq with z | z
      · exact sq_upd (same_seqT s5 (nms _ z)) eD2
      · rw [List.mem_singleton] at z
        subst z
        refine sq_upd ?_ eD2
        rw [List.map_append]
        exact hr'
    · rw [List.map_append, eq, List.take_add_one, hj, List.map_append]
      rfl
  · obtain ⟨rs, eD, sm, nms, eq⟩ := h
    rw [List.length_map, List.take_length] at eq
    exact q _ D rs (s23.trans sm) (Drew_free s23 nD) eD nms eq

theorem scUnder : FnScope ["name", "top", "ahead"] ["name", "top"] (defScope s_is_under) := ⟨rfl, rfl, rfl, by decide +kernel, rfl, by decide +kernel, by decide +kernel⟩
theorem ok_under {f : Addr} {fd : FuncData} (F : Fun K "is_under" "is_under" s_is_under f fd) (ml : mg "len" = none) : FnOk P w K mg base CX0 1 f fd ["name", "top"] (spUnder K) := by
  refine F.ok scUnder (fun vs H Q E h => ?_) (fun cdv A outer s H vs Q E hr h => ?_)
  · obtain ⟨a, c, n, t, rfl, _⟩ := h
    rfl
  obtain ⟨a, c, n, t, rfl, hn, ht, ln, lt, kn, kt, q⟩ := h
  refine ⟨_, pss_cons (ps_set (i := 2) scUnder.nd rfl (.inl rfl) (pe_op op_sub (pe_callB call_len_seq (by rfl) ml PySem.boot_len (pa_cons (pv 0) pa_nil)) (pe_callB call_len_seq (by rfl) ml PySem.boot_len (pa_cons (pv 1) pa_nil))))
    (pss_one (ps_ret (pe_and (pe_cmpR op_ge (pv 2) pe_int (nomark _)) (pe_one (pe_cmpR (op_eqD hr.units) (pe_slice sl_tupA (pv 0) (po_some (pv 2)) po_none) (pv 1) (nomark _)))))), ?_⟩
  refine ⟨.ref a, rfl, a, _, rfl, .inr hn, .ref c, rfl, c, _, rfl, .inr ht, _, _, rfl, rfl, ?_⟩
  have e1 : ((n.map V.str).length : Int) = n.length := by rw [List.length_map]
  have e2 : ((t.map V.str).length : Int) = t.length := by rw [List.length_map]
  rw [e1, e2]
  refine ⟨.int ((n.length : Int) - t.length), rfl, _, _, rfl, rfl, _, rfl, ite2 (fun h => ?_) (fun h => ?_)⟩
  · have le : (0 : Int) ≤ (n.length : Int) - t.length := of_decide_eq_true h
    obtain ⟨k, hk⟩ : ∃ k : Nat, (n.length : Int) - t.length = (k : Int) := ⟨n.length - t.length, by omega⟩
    have kl : k = n.length - t.length := by omega
    have suf : decide (n.drop k = t) = decide (t <:+ n) := by
      have : n.drop k = t ↔ t <:+ n := by
        constructor
        · intro e
          exact ⟨n.take k, by rw [← e, List.take_append_drop]⟩
        · rintro ⟨z, rfl⟩
          have : k = z.length := by rw [kl, List.length_append]; omega
          rw [this, List.drop_left]
      exact decide_eq_decide.mpr this
    have ix : HT.sIx (n.map V.str).length 0 (some ((n.length : Int) - t.length)) = k := by
      rw [hk, HT.sIx_nat, List.length_map]
      omega
    have cut : cutV (n.map V.str) (some ((n.length : Int) - t.length)) none = (n.drop k).map V.str := by
      unfold cutV
      rw [ix, HT.sIx_none, List.map_drop]
      exact List.take_of_length_le (by simp)
    refine ⟨.ref a, rfl, _, rfl, _, rfl, a, _, rfl, hn, fun hw => ?_, fun _ p np => ?_⟩
    · have k0 : k = 0 := ix.symm.trans hw.1
      refine ⟨.ref c, rfl, nameD n, nameD t, nm_dp hn, nm_dp ht, (good_name ln kn).shaped (by decide), (good_name lt kt).shaped (by decide), ?_⟩
      rw [k0, List.drop_zero] at suf
      rw [eqv_name, suf]
      exact q H (Same.refl H)
    · refine ⟨.ref c, rfl, nameD (n.drop k), nameD t, nm_dp (.inl (.inl ?_)), nm_dp (same_seqT (same_put np) ht), (good_name (ln.drop k) (by rw [List.length_drop]; omega)).shaped (by decide), (good_name lt kt).shaped (by decide), ?_⟩
      · rw [upd_same, cut]
      · rw [eqv_name, suf]
        exact q _ (same_put np)
  · have gt : ¬ (t <:+ n) := fun z => h (decide_eq_true (by have := z.length_le; omega))
    have := q H (Same.refl H)
    rw [decide_eq_false gt] at this
    exact this

theorem scBeneath : FnScope ["name", "top"] ["name", "top"] (defScope s_is_beneath) := ⟨rfl, rfl, rfl, by decide +kernel, rfl, by decide +kernel, by decide +kernel⟩
theorem ok_beneath {f fu : Addr} {fd fdu : FuncData} (F : Fun K "is_beneath" "is_beneath" s_is_beneath f fd) (DU : Df K mg "is_under" s_is_under ["name", "top"] fu fdu) (GU : FnOk P w K mg base CX0 1 fu fdu ["name", "top"] (spUnder K))
    (ml : mg "len" = none) : FnOk P w K mg base CX0 2 f fd ["name", "top"] (spBeneath K) := by
  refine F.ok scBeneath (fun vs H Q E h => ?_) (fun cdv A outer s H vs Q E hr h => ?_)
  · obtain ⟨a, c, n, t, rfl, _⟩ := h
    rfl
  obtain ⟨a, c, n, t, rfl, hn, ht, ln, lt, kn, kt, q⟩ := h
  refine ⟨_, pss_one (ps_ret (pe_and (pe_cmpR op_gt (pe_callB call_len_seq (by rfl) ml PySem.boot_len (pa_cons (pv 0) pa_nil)) (pe_callB call_len_seq (by rfl) ml PySem.boot_len (pa_cons (pv 1) pa_nil)) (nomark _))
    (pe_one (pcall DU GU hr (pa_cons (pv 0) (pa_cons (pv 1) pa_nil)))))), ?_⟩
  refine ⟨.ref a, rfl, a, _, rfl, .inr hn, .ref c, rfl, c, _, rfl, .inr ht, _, _, rfl, rfl, _, rfl, ite2 (fun h => ?_) (fun h => ?_)⟩
  · have lt' : t.length < n.length := by
      have := of_decide_eq_true h
      rw [List.length_map, List.length_map] at this
      omega
    refine ⟨.ref a, rfl, .ref c, rfl, a, c, n, t, rfl, hn, ht, ln, lt, kn, kt, fun H' sm => ?_⟩
    have := q H' sm
    rw [show decide (t.length < n.length ∧ t <:+ n) = decide (t <:+ n) from decide_eq_decide.mpr ⟨fun z => z.2, fun z => ⟨lt', z⟩⟩] at this
    exact this
  · have := q H (Same.refl H)
    rw [decide_eq_false (fun z => h (decide_eq_true (by rw [List.length_map, List.length_map]; have := z.1; omega)))] at this
    exact this

def cutL (ks : List (Addr × List Str)) (nm : List Str) : List (List Str) := (ks.filter fun q => decide (q.2.length < nm.length ∧ q.2 <:+ nm)).map fun q => nm.take (nm.length - q.2.length)
def whoL (ks : List (Addr × List Str)) (dv : V) (nm : List Str) : List (List Str) := (cutL ks nm ++ if dv = .non then [] else [nm]).mergeSort fun x y => decide (x.length ≤ y.length)
def spWho (K : PySem.W.Frag) (C : Addr) : Sp := fun vs H Q _ => ∃ (p c : Addr) (ks : List (Addr × List Str)) (dv : V) (st : Bool) (nm : List Str), vs = [.ref p, .ref c] ∧ HostAt C H p ks dv st ∧ DotsV dv ∧ ks.length ≤ 5 ∧ (∀ q ∈ ks, Nm K H q.1 q.2 ∧ Labs q.2 ∧ q.2.length ≤ 100) ∧ Nm K H c nm ∧ Labs nm ∧ nm.length ≤ 100 ∧
  ∀ H' r (rs : List (Addr × List Str)), Same H H' → H r = none → H' r = some (.lst (rs.map fun q => V.ref q.1)) → (∀ q ∈ rs, Nm K H' q.1 q.2) → rs.map (·.2) = whoL ks dv nm → Q (.ref r) H'
theorem scWho : FnScope ["host", "name", "found", "suffix"] ["host", "name"] (defScope s_who_can) := ⟨rfl, rfl, rfl, by decide +kernel, rfl, by decide +kernel, by decide +kernel⟩
theorem ok_who {f C fs fd_ pd fb : Addr} {fd fds fdd fdb : FuncData} (F : Fun K "who_can" "who_can" s_who_can f fd) (cl : Cls K C) (MS : Meth K C "suffixes" fs) (GS : FnOk P w K mg base CX0 1 fs fds ["self"] (spSuffixes C)) (bS : Binds K fds ["self"] [])
    (PD : PropOf K C "dots" pd fd_) (GD : FnOk P w K mg base CX0 1 fd_ fdd ["self"] (spDots C)) (bD : Binds K fdd ["self"] []) (DB : Df K mg "is_beneath" s_is_beneath ["name", "top"] fb fdb) (GB : FnOk P w K mg base CX0 2 fb fdb ["name", "top"] (spBeneath K))
    (ml : mg "len" = none) (ms : mg "sorted" = none) : FnOk P w K mg base CX0 3 f fd ["host", "name"] (spWho K C) := by
  refine F.ok scWho (fun vs H Q E h => ?_) (fun cdv A outer s H vs Q E hr h => ?_)
  · obtain ⟨p, c, ks, dv, st, nm, rfl, _⟩ := h
    rfl
  obtain ⟨p, c, ks, dv, st, nm, rfl, host, hd, few, names, hn, ln, kn, q⟩ := h
  have nd := scWho.nd
  have un := hr.un
  refine ⟨_, C8.pss_cut (ps_setLc (i := 2) (own := [("suffix", 3)]) (g := gName 3) rfl nd rfl rfl (sw_true rfl rfl rfl (by decide +kernel)) (pi_list (pe_meth0 (E := E0) (pv 0) cl MS GS (hr.mono (by decide)) bS .nil pass0 (by rfl)))
      (blkOk_by (N := ["host", "name", "found", "suffix"]) (sc := defScope s_who_can) (by decide +kernel)) (fun _ _ _ _ _ => pg_name (i := 3) nd rfl (Or.inl rfl)) (fun _ _ _ _ _ => pts_one (pt_val (pcall DB GB hr (pa_cons (pv 1) (pa_cons (pv 3) pa_nil)))))
      (fun _ _ _ _ _ => pe_slice (r := rSlD K) sl_tupD (pv 1) po_none (po_some (pe_op op_sub (pe_callB (r := rLenK K) call_lenK (by rfl) ml PySem.boot_len (pa_cons (pv 1) pa_nil)) (pe_callB (r := rLenK K) call_lenK (by rfl) ml PySem.boot_len (pa_cons (pv 3) pa_nil))))))
    (C8.pss_cut (ps_if (pt_cmpR op_notN (pe_prop (E := E0) (pv 0) cl PD GD hr bD .nil pass0 (by rfl)) pe_non (nomark _))
      (pss_one (ps_expr (pe_bm PySem.F.plainAttrs_list PySem.F.slot_list_append PySem.F.type_list_append mt_append (pv 2) (pa_cons (pv 1) pa_nil)))) pss_nil)
    (pss_one (ps_ret (pe_sortedLen (pa_cons (pv 2) pa_nil) ms ml (by show A.units + 3 + 70 < cLine; have : A.units + 3 + 16 * 2 + 200 < cLine := un; omega))))), ?_⟩
  refine ⟨fun σ' G => ∃ (r : Addr) (rs : List (Addr × List Str)) (y3 : Option V), σ' = [some (.ref p), some (.ref c), some (.ref r), y3] ∧ Same H G ∧ H r = none ∧ G r = some (.lst (rs.map fun q => V.ref q.1)) ∧ (∀ q ∈ rs, Nm K G q.1 q.2) ∧ rs.map (·.2) = cutL ks nm, ?_, ?_⟩
  · obtain ⟨dx, l0, e1, e2⟩ := host
    refine ⟨.ref p, rfl, p, dx, _, rfl, e1, rfl, p, ks, dv, st, rfl, ⟨dx, l0, e1, e2⟩, fun l nl => ?_⟩
    have s1 := same_put (o := HO.lst (ks.map fun q => V.ref q.1)) nl
    refine ⟨l, rfl, ⟨_, SqL.of upd_same⟩, fun D nD => ?_⟩
    have nDH := Drew_free s1 nD
    generalize hG1 : upd H l (HO.lst (ks.map fun q => V.ref q.1)) = G1 at *
    have el : G1 l = some (.lst (ks.map fun q => V.ref q.1)) := by rw [← hG1]; exact upd_same
    refine lc_list (K := K) (a := l) (xs := ks.map fun q => V.ref q.1) (fun i G => ∃ rs : List (Addr × List Str), G D = some (.lst (rs.map fun q => V.ref q.1)) ∧ Same G1 G ∧ (∀ q ∈ rs, Nm K G q.1 q.2) ∧ rs.map (·.2) = cutL (ks.take i) nm ∧ rs.length ≤ i)
      ⟨[], upd_same, same_put nD, fun _ h => absurd h List.not_mem_nil, rfl, Nat.le_refl _⟩ (fun i G _ h => SqL.of (h.choose_spec.2.1 _ _ el)) (fun i v G hv h => ?_) (fun G h => ?_)
    · obtain ⟨rs, eD, sm, nms, eq, le⟩ := h
      rw [List.getElem?_map] at hv
      obtain ⟨j, hj, rfl⟩ := Option.map_eq_some_iff.mp hv
      have il : i < ks.length := (List.getElem?_eq_some_iff.mp hj).1
      obtain ⟨nj, lj, kj⟩ := names j (List.mem_of_getElem? hj)
      have s2 := s1.trans sm
      have tk : cutL (ks.take (i + 1)) nm = cutL (ks.take i) nm ++ (if j.2.length < nm.length ∧ j.2 <:+ nm then [nm.take (nm.length - j.2.length)] else []) := by
        unfold cutL
        rw [List.take_add_one, hj, List.filter_append, List.map_append]
        congr 1
        show List.map _ (List.filter _ [j]) = _
        by_cases z : j.2.length < nm.length ∧ j.2 <:+ nm
        · rw [if_pos z]
          simp [List.filter_cons, z]
        · rw [if_neg z]
          simp only [List.filter_cons, decide_eq_false z, List.filter_nil, List.map_nil, Bool.false_eq_true, if_false]
      refine ⟨rfl, .ref c, rfl, .ref j.1, rfl, c, j.1, nm, j.2, rfl, same_seqT s2 hn, same_seqT s2 nj, ln, lj, kn, kj, fun G2 s3 => ⟨_, rfl, ?_⟩⟩
      have s23 := s2.trans s3
      by_cases z : j.2.length < nm.length ∧ j.2 <:+ nm
      · refine iteD z ?_
        refine ⟨.ref c, rfl, .ref c, rfl, c, _, rfl, .inr (same_seqT s23 hn), .ref j.1, rfl, j.1, _, rfl, .inr (same_seqT s23 nj), _, _, rfl, rfl, _, rfl, c, _, rfl, same_seqT s23 hn, fun r' G3 s4 hr' => ?_⟩
        have e : (((nm.map V.str).length : Nat) : Int) - (((j.2.map V.str).length : Nat) : Int) = ((nm.length - j.2.length : Nat) : Int) := by
          rw [List.length_map, List.length_map]
          have := z.1
          omega
        have hc : SqT K G3 r' ((nm.take (nm.length - j.2.length)).map V.str) := by
          rw [List.map_take, ← cut_to, ← e]
          exact hr'
        have eD3 := s4 _ _ (s3 _ _ eD)
        refine ⟨_, eD3, small1000 (by rw [List.length_map]; omega), rs ++ [(r', nm.take (nm.length - j.2.length))], by rw [upd_same, List.map_append]; rfl, fun b o w => ?_, fun q' hq => ?_, by rw [tk, if_pos z, List.map_append, eq]; rfl, by rw [List.length_append]; exact Nat.succ_le_succ le⟩
        · rw [upd_ne (ne_of_none w nD)]
          exact s4 _ _ (s3 _ _ (sm _ _ w))
        · rcases List.mem_append.mp hq with y | y
          · exact sq_upd (same_seqT s4 (same_seqT s3 (nms _ y))) eD3
          · rw [List.mem_singleton] at y
            subst y
            exact sq_upd hc eD3
      · refine iteDF z ⟨rs, s3 _ _ eD, sm.trans s3, fun q' hq => same_seqT s3 (nms q' hq), ?_, Nat.le_succ_of_le le⟩
        rw [tk, if_neg z, List.append_nil]
        exact eq
    · obtain ⟨rs, eD, sm, nms, eq, _⟩ := h
      rw [List.length_map, List.take_length] at eq
      exact ⟨D, rs, _, rfl, s1.trans sm, nDH, eD, nms, eq⟩
  rintro _ G ⟨r, rs, y3, rfl, sG, nr, er, nms, eq⟩
  have rl : rs.length ≤ 5 := by
    have := congrArg List.length eq
    rw [List.length_map, cutL, List.length_map] at this
    have := List.length_filter_le (fun q : Addr × List Str => decide (q.2.length < nm.length ∧ q.2 <:+ nm)) ks
    omega
  refine ⟨fun σ' G' => ∃ rs : List (Addr × List Str), σ' = [some (.ref p), some (.ref c), some (.ref r), y3] ∧ Same H G' ∧ G' r = some (.lst (rs.map fun q => V.ref q.1)) ∧ (∀ q ∈ rs, Nm K G' q.1 q.2) ∧ rs.map (·.2) = (cutL ks nm ++ if dv = .non then [] else [nm]) ∧ rs.length ≤ 6, ?_, ?_⟩
  · obtain ⟨dx, l0, e1, e2⟩ := host
    refine ⟨.ref p, rfl, p, dx, _, rfl, sG _ _ e1, p, ks, dv, st, rfl, ⟨dx, l0, sG _ _ e1, sG _ _ e2⟩, rfl, _, rfl, ?_⟩
    rcases hd with rfl | ⟨k, hk, rfl⟩
    · exact ite_same ⟨rs, rfl, sG, er, nms, by rw [if_pos rfl, List.append_nil]; exact eq, by omega⟩
    · refine ite_diff (fun z => by cases z) ?_
      refine ⟨.ref r, rfl, .inl ⟨rfl, _, SqL.of er⟩, .ref c, rfl, r, _, _, rfl, rfl, er, small1000 (by rw [List.length_map]; omega), ?_⟩
      refine ⟨rs ++ [(c, nm)], rfl, fun b o w => ?_, by rw [upd_same, List.map_append]; rfl, fun q' hq => ?_, by rw [if_neg (fun z => by cases z), List.map_append, eq]; rfl, by rw [List.length_append]; show rs.length + 1 ≤ 6; omega⟩
      · rw [upd_ne (ne_of_none w nr)]
        exact sG _ _ w
      · rcases List.mem_append.mp hq with z | z
        · exact sq_upd (nms _ z) er
        · rw [List.mem_singleton] at z
          subst z
          exact sq_upd (same_seqT sG hn) er
  rintro _ G2 ⟨rs2, rfl, s2, er2, nms2, eq2, rl2⟩
  refine ⟨.ref r, rfl, r, rs2, rfl, SqL.of er2, nms2, by omega, fun t nt => ?_⟩
  have st := same_put (o := HO.lst ((rs2.mergeSort byLen).map fun q => V.ref q.1)) nt
  refine q _ t (rs2.mergeSort byLen) (s2.trans st) (Drew_free s2 nt) upd_same (fun q' hq => same_seqT st (nms2 q' (List.mem_mergeSort.mp hq))) ?_
  unfold whoL
  rw [← eq2]
  exact List.map_mergeSort (fun a _ b _ => rfl)

/-- a host of the law: a tuple of its suffixes, dots and manner -/
def OwnAt (K : PySem.W.Frag) (H : Hp) (t r : Addr) (ks : List (Addr × List Str)) (dv : V) (st : Bool) : Prop := SqT K H t [.ref r, dv, .bl st] ∧ H r = some (.lst (ks.map fun q => V.ref q.1)) ∧ KsOk K H 3 ks ∧ DotsV dv ∧ ks.length ≤ 5
theorem OwnAt.same {H H' : Hp} {t r : Addr} {ks : List (Addr × List Str)} {dv : V} {st : Bool} (h : OwnAt K H t r ks dv st) (s : Same H H') : OwnAt K H' t r ks dv st := by
  obtain ⟨h1, h2, h3, h4, h5⟩ := h
  exact ⟨same_seqT s h1, s _ _ h2, ⟨fun q hq => ⟨same_seqT s (h3.1 q hq).1, (h3.1 q hq).2⟩, h3.2⟩, h4, h5⟩
def spOwn (K : PySem.W.Frag) : Sp := fun vs H Q _ => ∃ (b bc l : Addr) (ls : List Str) (m : Nat), vs = [.ref b, .ref l, .int m] ∧ Bag b bc H ∧ l ≠ b ∧ SqL K H l (ls.map V.str) ∧ Labs ls ∧ (∀ x ∈ ls, kLabel (.str x) = true) ∧ 1 ≤ ls.length ∧ ls.length ≤ 1000 ∧ m ≤ 5 ∧
  ∀ H' t r ks dv st, Drew b bc H H' → H t = none → H r = none → OwnAt K H' t r ks dv st → Q (.ref t) H'
theorem scOwn : FnScope ["_law_bag_here", "_law_labels_here", "_law_many", "_law_points"] ["_law_bag_here", "_law_labels_here", "_law_many"] (defScope s_law_own_host) := ⟨rfl, rfl, rfl, by decide +kernel, rfl, by decide +kernel, by decide +kernel⟩
theorem ok_own {f ft fs : Addr} {fd fdt fds : FuncData} (F : Fun K "_law_own_host" "_law_own_host" s_law_own_host f fd) (DT : Df K mg "_law_take" s_law_take ["_law_bag_here", "_law_many"] ft fdt)
    (GT : FnOk P w K mg base CX0 1 ft fdt ["_law_bag_here", "_law_many"] spTake) (DS : Df K mg "_law_suffixes" s_law_suffixes ["_law_bag_here", "_law_labels_here", "_law_many"] fs fds) (GS : FnOk P w K mg base CX0 4 fs fds ["_law_bag_here", "_law_labels_here", "_law_many"] (spSuf K)) : FnOk P w K mg base CX0 5 f fd ["_law_bag_here", "_law_labels_here", "_law_many"] (spOwn K) := by
  refine F.ok scOwn (fun vs H Q E h => ?_) (fun cdv A outer s H vs Q E hr h => ?_)
  · obtain ⟨b, bc, l, ls, m, rfl, _⟩ := h
    rfl
  obtain ⟨b, bc, l, ls, m, rfl, bag, nlb, sl, lab, klab, l1, l2, hm, q⟩ := h
  have nd := scOwn.nd
  refine ⟨_, C8.pss_cut (ps_set (i := 3) nd rfl (.inl rfl) (pe_ix ix_list (pe_lst (pa_cons pe_non (pa_cons pe_int (pa_cons pe_int (pa_cons pe_int (pa_cons pe_int (pa_cons pe_int pa_nil))))))) (pcall DT GT (hr.mono (by decide)) (pa_cons (pv 0) (pa_cons pe_int pa_nil))) (fun _ _ => rfl)))
    (pss_one (ps_ret (pe_tup (pa_cons (pcall DS GS hr (pa_cons (pv 0) (pa_cons (pv 1) (pa_cons (pcall DT GT (hr.mono (by decide)) (pa_cons (pv 0) (pa_cons (pe_op op_add (pv 2) pe_int) pa_nil))) pa_nil))))
      (pa_cons (pv 3) (pa_cons (pe_cmpR op_gt (pcall DT GT (hr.mono (by decide)) (pa_cons (pv 0) (pa_cons pe_int pa_nil))) pe_int (nomark _)) pa_nil)))))), ?_⟩
  refine ⟨fun σ' G => ∃ dv, σ' = [some (.ref b), some (.ref l), some (.int m), some dv] ∧ Drew b bc H G ∧ DotsV dv, ?_, ?_⟩
  · refine ⟨by show 6 ≤ sizeLine; decide, fun e ne => ?_⟩
    have se := same_put (o := HO.lst [.non, .int 0, .int 1, .int 2, .int 3, .int 4]) ne
    have ap := bag.apart ne
    refine ⟨.ref b, rfl, b, bc, 6, rfl, bag.same se, by decide, by decide, fun G r d hr6 => ?_⟩
    have el : SqL K G e [.non, .int 0, .int 1, .int 2, .int 3, .int 4] := SqL.of (d.keep e _ ap.1 upd_same)
    have item : ∃ dv, ([.non, .int 0, .int 1, .int 2, .int 3, .int 4] : List V)[r]? = some dv ∧ DotsV dv := by
      have : r = 0 ∨ r = 1 ∨ r = 2 ∨ r = 3 ∨ r = 4 ∨ r = 5 := by omega
      rcases this with rfl | rfl | rfl | rfl | rfl | rfl
      · exact ⟨_, rfl, .inl rfl⟩
      · exact ⟨_, rfl, .inr ⟨0, by decide, rfl⟩⟩
      · exact ⟨_, rfl, .inr ⟨1, by decide, rfl⟩⟩
      · exact ⟨_, rfl, .inr ⟨2, by decide, rfl⟩⟩
      · exact ⟨_, rfl, .inr ⟨3, by decide, rfl⟩⟩
      · exact ⟨_, rfl, .inr ⟨4, by decide, rfl⟩⟩
    obtain ⟨dv, hv, hd⟩ := item
    exact ⟨e, _, _, _, rfl, rfl, el, atI_nat hv, dv, rfl, same_drew se d, hd⟩
  rintro _ G ⟨dv, rfl, dG, hd⟩
  refine ⟨.ref b, rfl, .ref l, rfl, .ref b, rfl, .int m, rfl, _, _, rfl, rfl, b, bc, m + 1, rfl, dG.bag, by omega, by omega, fun G2 k d2 hk => ?_⟩
  have d2' := dG.trans d2
  refine ⟨b, bc, l, ls, k, rfl, d2'.bag, nlb, drew_seq d2' nlb sl, lab, klab, l1, l2, by omega, fun G3 r ks d3 nr er ok le => ?_⟩
  refine ⟨dv, rfl, .ref b, rfl, b, bc, 4, rfl, d3.bag, by decide, by decide, fun G4 z d4 _ => ⟨_, _, rfl, rfl, ?_⟩⟩
  refine ⟨by show 3 ≤ sizeLine; decide, fun t nt => ?_⟩
  have d4' := (d2'.trans d3).trans d4
  have st := same_put (o := HO.tup [.ref r, dv, .bl (decide ((0 : Int) < (z : Nat)))]) nt
  have nr' := d2'.free nr
  have rb := bag.apart nr'
  refine q _ t r ks dv _ (d4'.same st) (d4'.free nt) nr' ⟨.inl (.inl upd_same), st _ _ (d4.keep r _ rb.1 er), ⟨fun q' hq => ⟨same_seqT st (d4.nm d3.bag.lst (ok.1 q' hq).1), (ok.1 q' hq).2⟩, ok.2⟩, hd, by omega⟩

def spHostMade (K : PySem.W.Frag) (C : Addr) : Sp := fun vs H Q _ => ∃ (t r : Addr) (ks : List (Addr × List Str)) (dv : V) (st : Bool), vs = [.ref t] ∧ OwnAt K H t r ks dv st ∧ ∀ H' p, Same H H' → H p = none → HostAt C H' p ks dv st → Q (.ref p) H'
theorem scHost : FnScope ["_law_own"] ["_law_own"] (defScope s_law_host) := ⟨rfl, rfl, rfl, by decide +kernel, rfl, by decide +kernel, by decide +kernel⟩
theorem ok_host {f C fi : Addr} {fd fdi : FuncData} {g : List Value → List Value → List Value} (F : Fun K "_law_host" "_law_host" s_law_host f fd) (M : Mk K C fi) (GI : FnOk P w K mg base CX0 5 fi fdi ["self", "suffixes", "dots", "stops"] (spHostInit K C))
    (hb : KBn K fdi ["self", "suffixes", "dots", "stops"] 2 ["dots", "stops"] g (fun vs zs => vs ++ zs)) (mH : mg "Host" = some (.ref C)) (mli : mg "list" = none) : FnOk P w K mg base CX0 7 f fd ["_law_own"] (spHostMade K C) := by
  refine F.ok scHost (fun vs H Q E h => ?_) (fun cdv A outer s H vs Q E hr h => ?_)
  · obtain ⟨t, r, ks, dv, st, rfl, _⟩ := h
    rfl
  obtain ⟨t, r, ks, dv, st, rfl, ⟨ht, er, ok, hd, le⟩, q⟩ := h
  refine ⟨_, pss_one (ps_ret (pe_makeK (n := 1) (E := E0) M GI hr (by rfl) mH hb pass0 (pa_cons (pe_callTy call_list_of (by rfl) mli (by decide +kernel) (pa_cons (pe_ix ix_tup (pv 0) pe_int (fun _ _ => rfl)) pa_nil)) pa_nil)
      (pk_cons (pe_ix ix_tup (pv 0) pe_int (fun _ _ => rfl)) (pk_cons (pe_ix ix_tup (pv 0) pe_int (fun _ _ => rfl)) pk_nil)) (by rfl) (by rfl) (by decide) (by rfl) (by rfl))), ?_⟩
  refine ⟨.ref t, rfl, t, _, 0, _, rfl, rfl, ht, rfl, r, _, rfl, .inl (SqL.of er), fun l nl => ?_⟩
  have s1 := same_put (o := HO.lst (ks.map fun q => V.ref q.1)) nl
  refine ⟨.ref t, rfl, t, _, 1, _, rfl, rfl, same_seqT s1 ht, rfl, .ref t, rfl, t, _, 2, _, rfl, rfl, same_seqT s1 ht, rfl, rfl, rfl, fun x dx nx nd ne => ?_⟩
  have s2 : Same (upd H l (.lst (ks.map fun q => V.ref q.1))) (upd (upd (upd H l (.lst (ks.map fun q => V.ref q.1))) dx (.own x)) x (.ins C dx [])) := fun b o e => by
    rw [upd_ne (ne_of_none e nx), upd_ne (ne_of_none e nd)]
    exact e
  refine ⟨x, dx, l, ks, dv, st, rfl, upd_same, SqL.of (s2 _ _ upd_same), fun q' hq => ⟨same_seqT (s1.trans s2) (ok.1 q' hq).1, (ok.1 q' hq).2⟩, ok.2, le, hd, fun H' l' kp ep _ el => ⟨rfl, ?_⟩⟩
  refine q H' x (fun b o e => ?_) (Drew_free s1 nx) ⟨dx, l', ep, el⟩
  have e1 := s1 _ _ e
  exact kp b o (s2 _ _ e1) (ne_of_none e1 nx)

theorem scLUnder : FnScope ["_law_name", "_law_top"] ["_law_name", "_law_top"] (defScope s_law_under) := ⟨rfl, rfl, rfl, by decide +kernel, rfl, by decide +kernel, by decide +kernel⟩
theorem ok_law_under {f : Addr} {fd : FuncData} (F : Fun K "_law_under" "_law_under" s_law_under f fd) (ml : mg "len" = none) : FnOk P w K mg base CX0 1 f fd ["_law_name", "_law_top"] (spUnder K) := by
  refine F.ok scLUnder (fun vs H Q E h => ?_) (fun cdv A outer s H vs Q E hr h => ?_)
  · obtain ⟨a, c, n, t, rfl, _⟩ := h
    rfl
  obtain ⟨a, c, n, t, rfl, hn, ht, ln, lt, kn, kt, q⟩ := h
  refine ⟨_, pss_one (ps_ret (pe_and (pe_cmpR op_ge (pe_callB call_len_seq (by rfl) ml PySem.boot_len (pa_cons (pv 0) pa_nil)) (pe_callB call_len_seq (by rfl) ml PySem.boot_len (pa_cons (pv 1) pa_nil)) (nomark _))
    (pe_one (pe_cmpR (op_eqD hr.units) (pe_slice sl_tupD (pv 0) (po_some (pe_op op_sub (pe_callB call_len_seq (by rfl) ml PySem.boot_len (pa_cons (pv 0) pa_nil)) (pe_callB call_len_seq (by rfl) ml PySem.boot_len (pa_cons (pv 1) pa_nil)))) po_none) (pv 1) (nomark _))))), ?_⟩
  refine ⟨.ref a, rfl, a, _, rfl, .inr hn, .ref c, rfl, c, _, rfl, .inr ht, _, _, rfl, rfl, _, rfl, ite2 (fun h => ?_) (fun h => ?_)⟩
  · have le : t.length ≤ n.length := by
      have := of_decide_eq_true h
      rw [List.length_map, List.length_map] at this
      omega
    have suf : decide (n.drop (n.length - t.length) = t) = decide (t <:+ n) := by
      have : n.drop (n.length - t.length) = t ↔ t <:+ n := by
        constructor
        · intro e
          exact ⟨n.take (n.length - t.length), by
            have := List.take_append_drop (n.length - t.length) n
            rw [e] at this
            exact this⟩
        · rintro ⟨z, rfl⟩
          rw [List.length_append, Nat.add_sub_cancel, List.drop_left]
      exact decide_eq_decide.mpr this
    refine ⟨.ref a, rfl, .ref a, rfl, a, _, rfl, .inr hn, .ref c, rfl, c, _, rfl, .inr ht, _, _, rfl, rfl, _, rfl, a, _, rfl, hn, fun p H' s hp => ?_⟩
    have e : (((n.map V.str).length : Nat) : Int) - (((t.map V.str).length : Nat) : Int) = ((n.length - t.length : Nat) : Int) := by
      rw [List.length_map, List.length_map]
      omega
    have hp' : Nm K H' p (n.drop (n.length - t.length)) := by
      show SqT K H' p _
      rw [List.map_drop, ← cut_from, ← e]
      exact hp
    refine ⟨.ref c, rfl, nameD (n.drop (n.length - t.length)), nameD t, nm_dp hp', nm_dp (same_seqT s ht), (good_name (ln.drop _) (by rw [List.length_drop]; omega)).shaped (by decide), (good_name lt kt).shaped (by decide), ?_⟩
    rw [eqv_name, suf]
    exact q H' s
  · have gt : ¬ (t <:+ n) := fun z => h (decide_eq_true (by have := z.length_le; rw [List.length_map, List.length_map]; omega))
    have := q H (Same.refl H)
    rw [decide_eq_false gt] at this
    exact this
def spLawCand (K : PySem.W.Frag) : Sp := fun vs H Q _ => ∃ (t r c : Addr) (ks : List (Addr × List Str)) (dv : V) (st : Bool) (nm : List Str), vs = [.ref t, .ref c] ∧ OwnAt K H t r ks dv st ∧ Nm K H c nm ∧ FullN 5 nm ∧
  ∀ H' o (rs : List (Addr × List Str)), Same H H' → H o = none → H' o = some (.lst (rs.map fun q => V.ref q.1)) → (∀ q ∈ rs, Nm K H' q.1 q.2 ∧ FullN 8 q.2) → rs.length ≤ 6 → Q (.ref o) H'
theorem scLCand : FnScope ["_law_own", "_law_short", "_law_found", "_law_suffix"] ["_law_own", "_law_short"] (defScope s_law_candidates) := ⟨rfl, rfl, rfl, by decide +kernel, rfl, by decide +kernel, by decide +kernel⟩
theorem ok_law_cand {f : Addr} {fd : FuncData} (F : Fun K "_law_candidates" "_law_candidates" s_law_candidates f fd) (ml : mg "len" = none) : FnOk P w K mg base CX0 1 f fd ["_law_own", "_law_short"] (spLawCand K) := by
  refine F.ok scLCand (fun vs H Q E h => ?_) (fun cdv A outer s H vs Q E hr h => ?_)
  · obtain ⟨t, r, c, ks, dv, st, nm, rfl, _⟩ := h
    rfl
  obtain ⟨t, r, c, ks, dv, st, nm, rfl, ⟨ht, er, ok, hd, le⟩, hc, fn, q⟩ := h
  have nd := scLCand.nd
  refine ⟨_, C8.pss_cut (ps_setLc (i := 2) (own := [("_law_suffix", 3)]) (g := gName 3) (tt := tYes) rfl nd rfl rfl (sw_true rfl rfl rfl (by decide +kernel)) (pi_list (pe_ix ix_tup (pv 0) pe_int (fun _ _ => rfl)))
      (blkOk_by (N := ["_law_own", "_law_short", "_law_found", "_law_suffix"]) (sc := defScope s_law_candidates) (by decide +kernel)) (fun _ _ _ _ _ => pg_name (i := 3) nd rfl (Or.inl rfl)) (fun _ _ _ _ _ => pts_nil)
      (fun _ _ _ _ _ => pe_op (r := rCatD K) op_catD (pv 1) (pv 3)))
    (pss_cons (ps_if (pt_cmpR op_isN (pe_ix ix_tup (pv 0) pe_int (fun _ _ => rfl)) pe_non (nomark _)) (pss_one (ps_ret (pv 2))) pss_nil)
    (pss_one (ps_ret (pe_ifExp (pt_cmpR op_gt (pe_callB call_len_seq (by rfl) ml PySem.boot_len (pa_cons (pv 1) pa_nil)) (pe_ix ix_tup (pv 0) pe_int (fun _ _ => rfl)) (nomark _))
      (pe_op op_cat (pe_lst (pa_cons (pv 1) pa_nil)) (pv 2)) (pe_op op_cat (pv 2) (pe_lst (pa_cons (pv 1) pa_nil))))))), ?_⟩
  refine ⟨fun σ' G => ∃ (o : Addr) (rs : List (Addr × List Str)) (y3 : Option V), σ' = [some (.ref t), some (.ref c), some (.ref o), y3] ∧ Same H G ∧ H o = none ∧ G o = some (.lst (rs.map fun q => V.ref q.1)) ∧ (∀ q ∈ rs, Nm K G q.1 q.2 ∧ FullN 8 q.2) ∧ rs.length ≤ 5, ?_, ?_⟩
  · refine ⟨.ref t, rfl, t, _, 0, _, rfl, rfl, ht, rfl, r, rfl, ⟨_, SqL.of er⟩, fun D nD => ?_⟩
    refine lc_list (K := K) (a := r) (xs := ks.map fun q => V.ref q.1) (fun i G => ∃ rs : List (Addr × List Str), G D = some (.lst (rs.map fun q => V.ref q.1)) ∧ Same H G ∧ (∀ q ∈ rs, Nm K G q.1 q.2 ∧ FullN 8 q.2) ∧ rs.length = i)
      ⟨[], upd_same, same_put nD, fun _ h => absurd h List.not_mem_nil, rfl⟩ (fun i G _ h => SqL.of (h.choose_spec.2.1 _ _ er)) (fun i v G hv h => ?_) (fun G h => ?_)
    · obtain ⟨rs, eD, sm, nms, hl⟩ := h
      rw [List.getElem?_map] at hv
      obtain ⟨j, hj, rfl⟩ := Option.map_eq_some_iff.mp hv
      have il : i < ks.length := (List.getElem?_eq_some_iff.mp hj).1
      obtain ⟨nj, fj⟩ := ok.1 j (List.mem_of_getElem? hj)
      have f1 := fn.few
      have f2 := fj.few
      refine ⟨rfl, .ref c, rfl, .ref j.1, rfl, c, j.1, _, _, rfl, rfl, same_seqT sm hc, same_seqT sm nj, small1000' (by rw [List.length_map, List.length_map]; omega), fun r' G2 s2 hr' => ?_⟩
      have eD2 := s2 _ _ eD
      refine ⟨_, eD2, small1000 (by rw [List.length_map]; omega), rs ++ [(r', nm ++ j.2)], by rw [upd_same, List.map_append]; rfl, fun b o w => ?_, fun q' hq => ?_, by rw [List.length_append, hl]; rfl⟩
      · rw [upd_ne (ne_of_none w nD)]
        exact s2 _ _ (sm _ _ w)
      · rcases List.mem_append.mp hq with z | z
        · exact ⟨sq_upd (same_seqT s2 (nms _ z).1) eD2, (nms _ z).2⟩
        · rw [List.mem_singleton] at z
          subst z
          refine ⟨sq_upd (by rw [List.map_append]; exact hr') eD2, fun z => fn.some_ (List.append_eq_nil_iff.mp z).1, by rw [List.length_append]; omega, fun x hx => ?_⟩
          exact (List.mem_append.mp hx).elim (fn.labs x) (fj.labs x)
    · obtain ⟨rs, eD, sm, nms, hl⟩ := h
      exact ⟨D, rs, _, rfl, sm, nD, eD, nms, by rw [hl, List.length_map]; exact le⟩
  rintro _ G ⟨o, rs, y3, rfl, sG, no, eo, nms, hl⟩
  have f8 : FullN 8 nm := ⟨fn.some_, Nat.le_trans fn.few (by decide), fn.labs⟩
  refine ⟨.ref t, rfl, t, _, 1, _, rfl, rfl, same_seqT sG ht, rfl, rfl, _, rfl, ?_⟩
  rcases hd with rfl | ⟨k, hk, rfl⟩
  · exact iteD rfl ⟨.ref o, rfl, q G o rs sG no eo nms (by omega)⟩
  · refine iteDF (fun z => by cases z) ?_
    refine ⟨.ref c, rfl, c, _, rfl, .inr (same_seqT sG hc), .ref t, rfl, t, _, 1, _, rfl, rfl, same_seqT sG ht, rfl, _, _, rfl, rfl, _, rfl, ?_⟩
    by_cases gt : (k : Int) < ((nm.map V.str).length : Int)
    · refine iteD gt ⟨.ref c, rfl, by show 1 ≤ sizeLine; decide, fun u nu => ?_⟩
      have su := same_put (o := HO.lst [.ref c]) nu
      refine ⟨.ref o, rfl, u, o, _, _, rfl, rfl, upd_same, su _ _ eo, small1000' (by rw [List.length_map]; show 1 + rs.length ≤ 1000; omega), fun z nz => ?_⟩
      have sz := su.trans (same_put (o := HO.lst ([V.ref c] ++ rs.map fun q => V.ref q.1)) nz)
      refine q _ z ((c, nm) :: rs) (sG.trans sz) (Drew_free (sG.trans su) nz) (by rw [upd_same]; rfl) (fun q' hq => ?_) (by rw [List.length_cons]; omega)
      rcases List.mem_cons.mp hq with y | y
      · subst y
        exact ⟨same_seqT (sG.trans sz) hc, f8⟩
      · exact ⟨same_seqT sz (nms _ y).1, (nms _ y).2⟩
    · refine iteDF gt ⟨.ref o, rfl, .ref c, rfl, by show 1 ≤ sizeLine; decide, fun u nu => ?_⟩
      have su := same_put (o := HO.lst [.ref c]) nu
      refine ⟨o, u, _, _, rfl, rfl, su _ _ eo, upd_same, small1000' (by rw [List.length_map]; show rs.length + 1 ≤ 1000; omega), fun z nz => ?_⟩
      have sz := su.trans (same_put (o := HO.lst ((rs.map fun q => V.ref q.1) ++ [V.ref c])) nz)
      refine q _ z (rs ++ [(c, nm)]) (sG.trans sz) (Drew_free (sG.trans su) nz) (by rw [upd_same, List.map_append]; rfl) (fun q' hq => ?_) (by rw [List.length_append]; show rs.length + 1 ≤ 6; omega)
      rcases List.mem_append.mp hq with y | y
      · exact ⟨same_seqT sz (nms _ y).1, (nms _ y).2⟩
      · rw [List.mem_singleton] at y
        subst y
        exact ⟨same_seqT (sG.trans sz) hc, f8⟩

def adr : V → Addr
  | .ref a => a
  | _ => 0
def nameAt (rs : List (Addr × List Str)) (x : V) : List Str := ((rs.find? fun q => decide (V.ref q.1 = x)).map (·.2)).getD []
theorem nameAt_mem {rs : List (Addr × List Str)} {x : V} (h : x ∈ rs.map fun q => V.ref q.1) : ∃ q ∈ rs, x = .ref q.1 ∧ nameAt rs x = q.2 := by
  obtain ⟨q, hq, rfl⟩ := List.mem_map.mp h
  unfold nameAt
  cases e : rs.find? fun p => decide (V.ref p.1 = V.ref q.1) with
  | none => exact absurd (decide_eq_true rfl) (List.find?_eq_none.mp e q hq)
  | some p => exact ⟨p, List.mem_of_find?_eq_some e, (of_decide_eq_true (List.find?_some (p := fun p : Addr × List Str => decide (V.ref p.1 = V.ref q.1)) e)).symm, rfl⟩
/-- a list of names, put otherwise -/
theorem perm_names {rs : List (Addr × List Str)} {ys : List V} (pm : ys.Perm (rs.map fun q => V.ref q.1)) : ∃ rs' : List (Addr × List Str), ys = rs'.map (fun q => V.ref q.1) ∧ (∀ q ∈ rs', q ∈ rs) ∧ rs'.length = rs.length := by
  refine ⟨ys.map fun y => (adr y, nameAt rs y), ?_, fun q hq => ?_, ?_⟩
  · rw [List.map_map]
    have : ∀ y ∈ ys, ((fun q : Addr × List Str => V.ref q.1) ∘ fun y => (adr y, nameAt rs y)) y = id y := fun y hy => by
      obtain ⟨q, _, e, _⟩ := nameAt_mem (pm.mem_iff.mp hy)
      rw [e]
      rfl
    rw [List.map_congr_left this, List.map_id]
  · obtain ⟨y, hy, rfl⟩ := List.mem_map.mp hq
    obtain ⟨q, h1, e, e2⟩ := nameAt_mem (pm.mem_iff.mp hy)
    rw [e2, e]
    exact h1
  · rw [List.length_map, pm.length_eq, List.length_map]
def Nms (K : PySem.W.Frag) (H : Hp) (φ : List Str → Prop) (rs : List (Addr × List Str)) : Prop := ∀ q ∈ rs, Nm K H q.1 q.2 ∧ φ q.2
theorem Nms.same {H H' : Hp} {φ : List Str → Prop} {rs : List (Addr × List Str)} (h : Nms K H φ rs) (s : Same H H') : Nms K H' φ rs := fun q hq => ⟨same_seqT s (h q hq).1, (h q hq).2⟩
def LenN (k : Nat) (n : List Str) : Prop := n.length = k ∧ ∀ x ∈ n, kLabel (.str x) = true
def spShorts (K : PySem.W.Frag) : Sp := fun vs H Q _ => ∃ (l : Addr) (ls : List Str), vs = [.ref l, .int 4] ∧ SqL K H l (ls.map V.str) ∧ (∀ x ∈ ls, kLabel (.str x) = true) ∧ ls.length ≤ 3 ∧
  ∀ H' r rs, Same H H' → H r = none → H' r = some (.lst (rs.map fun q : Addr × List Str => V.ref q.1)) → Nms K H' (FullN 4) rs → rs.length ≤ 400 → Q (.ref r) H'
theorem scShorts : FnScope ["_law_labels_here", "_law_most", "_law_found", "_law_last", "_law_k", "_law_longer_ones", "_law_name", "_law_label"] ["_law_labels_here", "_law_most"] (defScope s_law_shorts) := ⟨rfl, rfl, rfl, by decide +kernel, rfl, by decide +kernel, by decide +kernel⟩
theorem ok_shorts {f : Addr} {fd : FuncData} (F : Fun K "_law_shorts" "_law_shorts" s_law_shorts f fd) (mr : mg "range" = none) (ms : mg "sorted" = none) : FnOk P w K mg base CX0 1 f fd ["_law_labels_here", "_law_most"] (spShorts K) := by
  refine F.ok scShorts (fun vs H Q E h => ?_) (fun cdv A outer s H vs Q E hr h => ?_)
  · obtain ⟨l, ls, rfl, _⟩ := h
    rfl
  obtain ⟨l, ls, rfl, hl, kl, le, q⟩ := h
  have nd := scShorts.nd
  refine ⟨_, C8.pss_cut (ps_par (i := 2) (j := 3) (by rfl) nd rfl rfl (by decide) rfl rfl (pa_cons (pe_lst pa_nil) (pa_cons (pe_lst (pa_cons (pe_tup pa_nil) pa_nil)) pa_nil)) (by rfl))
    (C8.pss_cut (ps_for PassesOwn.never rfl (pi_range1 (by rfl) mr (pa_cons (pv 1) pa_nil)) (pg_name (i := 4) nd rfl (.inl rfl))
      (pss_cons (ps_set (i := 5) nd rfl (.inl rfl) (pe_lst pa_nil))
      (C8.pss_cut (ps_for PassesOwn.never rfl (pi_list (pv 3)) (pg_name (i := 6) nd rfl (.inr rfl))
        (pss_one (ps_set (i := 5) nd rfl (.inl rfl) (pe_op op_cat (pv 5) (pe_lc (own := [("_law_label", 7)]) (g := gName 7) (tt := tYes) rfl nd (pi_list (pv 0))
          (blkOk_by (N := ["_law_labels_here", "_law_most", "_law_found", "_law_last", "_law_k", "_law_longer_ones", "_law_name", "_law_label"]) (sc := defScope s_law_shorts) (by decide +kernel)) (fun _ _ _ _ _ => pg_name (i := 7) nd rfl (Or.inl rfl)) (fun _ _ _ _ _ => pts_nil)
          (fun _ _ _ _ _ => pe_op (r := rCatD K) op_catD (pv 6) (pe_tup (pa_cons (pv 7) pa_nil))))))))
      (C8.pss_cut (ps_set (i := 3) nd rfl (.inl rfl) (pe_callB cr_sortedN (by rfl) ms (by decide +kernel) (pa_cons (pv 5) pa_nil)))
      (pss_one (ps_set (i := 2) nd rfl (.inl rfl) (pe_op op_cat (pv 2) (pv 3))))))))
    (pss_one (ps_ret (pv 2)))), ?_⟩
  refine ⟨fun σ' G => ∃ (fo la : Addr) (lr : List (Addr × List Str)), σ' = [some (.ref l), some (.int 4), some (.ref fo), some (.ref la), none, none, none, none] ∧ Same H G ∧ H fo = none ∧ G fo = some (.lst []) ∧ G la = some (.lst (lr.map fun q => V.ref q.1)) ∧ Nms K G (LenN 0) lr ∧ lr.length = 1, ?_, ?_⟩
  · refine ⟨by show 0 ≤ sizeLine; decide, fun fo n1 => ⟨by show 0 ≤ sizeLine; decide, fun t n2 => ?_⟩⟩
    refine ⟨by show 1 ≤ sizeLine; decide, fun la n3 => ⟨.ref fo, .ref la, rfl, fo, la, [(t, [])], rfl, ?_, n1, ?_, upd_same, fun q hq => ?_, rfl⟩⟩
    · exact (same_put n1).trans ((same_put n2).trans (same_put n3))
    · exact same_put n3 _ _ (same_put n2 _ _ upd_same)
    · rw [List.mem_singleton] at hq
      subst hq
      exact ⟨.inl (.inl (same_put n3 _ _ upd_same)), rfl, fun _ h => absurd h List.not_mem_nil⟩
  rintro _ G ⟨fo, la, lr, rfl, sG, nfo, efo, ela, nlr, one⟩
  refine ⟨fun σ' G => ∃ (fo : Addr) (fr : List (Addr × List Str)) (y3 y4 y5 y6 y7 : Option V), σ' = [some (.ref l), some (.int 4), some (.ref fo), y3, y4, y5, y6, y7] ∧ Same H G ∧ H fo = none ∧ G fo = some (.lst (fr.map fun q => V.ref q.1)) ∧ Nms K G (FullN 4) fr ∧ fr.length ≤ 400, ?_, ?_⟩
  · refine ⟨.int 4, rfl, 4, rfl, by decide, by decide, ?_⟩
    refine for_range (lo := 0) (n := 4) (fun k σ' G => ∃ (fo la : Addr) (fr lr : List (Addr × List Str)) (y4 y5 y6 y7 : Option V), σ' = [some (.ref l), some (.int 4), some (.ref fo), some (.ref la), y4, y5, y6, y7] ∧ Same H G ∧ H fo = none ∧ G fo = some (.lst (fr.map fun q => V.ref q.1)) ∧ G la = some (.lst (lr.map fun q => V.ref q.1)) ∧ Nms K G (FullN 4) fr ∧ Nms K G (LenN k) lr ∧ lr.length ≤ 3 ^ k ∧ fr.length ≤ 81 * k)
      ⟨fo, la, [], lr, none, none, none, none, rfl, sG, nfo, efo, ela, fun _ h => absurd h List.not_mem_nil, nlr, by rw [one]; decide, by decide⟩ (fun k σ' G hk h => ?_) (fun σ' G h => ?_)
    · obtain ⟨fo, la, fr, lr, y4, y5, y6, y7, rfl, s0, nfo, efo, ela, nf, nl, ll, lf⟩ := h
      have k3 : 3 ^ k ≤ 27 := by
        have : k = 0 ∨ k = 1 ∨ k = 2 ∨ k = 3 := by omega
        rcases this with rfl | rfl | rfl | rfl <;> decide
      have k4 : 3 ^ (k + 1) = 3 * 3 ^ k := by rw [Nat.pow_succ, Nat.mul_comm]
      refine ⟨by show 0 ≤ sizeLine; decide, fun lo0 n5 => ?_⟩
      have s5 := same_put (o := HO.lst []) n5
      refine ⟨fun σ' G' => ∃ (lo : Addr) (gr : List (Addr × List Str)) (y6 y7 : Option V), σ' = [some (.ref l), some (.int 4), some (.ref fo), some (.ref la), some (.int (0 + (k : Nat))), some (.ref lo), y6, y7] ∧ Same G G' ∧ G' lo = some (.lst (gr.map fun q => V.ref q.1)) ∧ Nms K G' (LenN (k + 1)) gr ∧ gr.length ≤ 3 ^ (k + 1), ?_, ?_⟩
      · refine ⟨.ref la, rfl, la, rfl, ⟨_, SqL.of (s5 _ _ ela)⟩, ?_⟩
        refine for_list (K := K) (a := la) (xs := lr.map fun q => V.ref q.1) (fun i σ' G' => ∃ (lo : Addr) (gr : List (Addr × List Str)) (y6 y7 : Option V), σ' = [some (.ref l), some (.int 4), some (.ref fo), some (.ref la), some (.int (0 + (k : Nat))), some (.ref lo), y6, y7] ∧ Same G G' ∧ G' lo = some (.lst (gr.map fun q => V.ref q.1)) ∧ Nms K G' (LenN (k + 1)) gr ∧ gr.length ≤ 3 * i)
          ⟨lo0, [], y6, y7, rfl, s5, upd_same, fun _ h => absurd h List.not_mem_nil, Nat.zero_le _⟩ (fun i σ' G' _ h => ?_) (fun i v σ' G' hv h => ?_) (fun σ' G' h => ?_)
        · obtain ⟨_, _, _, _, _, s, _⟩ := h
          exact SqL.of (s _ _ ela)
        · obtain ⟨lo, gr, y6, y7, rfl, s6, elo, ng, lg⟩ := h
          rw [List.getElem?_map] at hv
          obtain ⟨j, hj, rfl⟩ := Option.map_eq_some_iff.mp hv
          have il : i < lr.length := (List.getElem?_eq_some_iff.mp hj).1
          obtain ⟨nj, lj, kj⟩ := nl j (List.mem_of_getElem? hj)
          refine ⟨.ref lo, rfl, .ref l, rfl, l, rfl, ⟨_, same_seqL (s0.trans s6) hl⟩, fun D nD => ?_⟩
          refine lc_list (K := K) (a := l) (xs := ls.map V.str) (fun i G2 => ∃ cr : List (Addr × List Str), G2 D = some (.lst (cr.map fun q => V.ref q.1)) ∧ Same G' G2 ∧ Nms K G2 (LenN (k + 1)) cr ∧ cr.length = i)
            ⟨[], upd_same, same_put nD, fun _ h => absurd h List.not_mem_nil, rfl⟩ (fun i G2 _ h => same_seqL ((s0.trans s6).trans h.choose_spec.2.1) hl) (fun i v G2 hv h => ?_) (fun G2 h => ?_)
          · obtain ⟨cr, eD, sm, nc, lc⟩ := h
            rw [List.getElem?_map] at hv
            obtain ⟨x, hx, rfl⟩ := Option.map_eq_some_iff.mp hv
            have xl : i < ls.length := (List.getElem?_eq_some_iff.mp hx).1
            refine ⟨rfl, .ref j.1, rfl, .str x, rfl, by show 1 ≤ sizeLine; decide, fun t nt => ?_⟩
            have st := same_put (o := HO.tup [.str x]) nt
            refine ⟨j.1, t, _, _, rfl, rfl, same_seqT (s6.trans (sm.trans st)) nj, .inl (.inl upd_same), small1000' (by rw [List.length_map]; show j.2.length + 1 ≤ 1000; omega), fun r' G3 s7 hr' => ?_⟩
            have eD3 := s7 _ _ (st _ _ eD)
            refine ⟨_, eD3, small1000 (by rw [List.length_map]; omega), cr ++ [(r', j.2 ++ [x])], by rw [upd_same, List.map_append]; rfl, fun b o w => ?_, fun q' hq => ?_, by rw [List.length_append, lc]; rfl⟩
            · rw [upd_ne (ne_of_none w nD)]
              exact s7 _ _ (st _ _ (sm _ _ w))
            · rcases List.mem_append.mp hq with y | y
              · exact ⟨sq_upd (same_seqT (st.trans s7) (nc _ y).1) eD3, (nc _ y).2⟩
              · rw [List.mem_singleton] at y
                subst y
                refine ⟨sq_upd (by rw [List.map_append]; exact hr') eD3, by rw [List.length_append, lj]; rfl, fun z hz => ?_⟩
                rcases List.mem_append.mp hz with w | w
                · exact kj z w
                · rw [List.mem_singleton.mp w]
                  exact kl x (List.mem_of_getElem? hx)
          · obtain ⟨cr, eD, sm, nc, lc⟩ := h
            rw [List.length_map] at lc
            refine ⟨lo, D, _, _, rfl, rfl, sm _ _ elo, eD, small1000' (by rw [List.length_map, List.length_map]; omega), fun z nz => ?_⟩
            have sz := same_put (o := HO.lst ((gr.map fun q => V.ref q.1) ++ cr.map fun q => V.ref q.1)) nz
            refine ⟨z, gr ++ cr, _, _, rfl, s6.trans (sm.trans sz), by rw [upd_same, List.map_append], fun q' hq => ?_, by rw [List.length_append]; omega⟩
            exact (List.mem_append.mp hq).elim (fun y => (ng.same (sm.trans sz)) q' y) (fun y => (nc.same sz) q' y)
        · obtain ⟨lo, gr, y6, y7, rfl, s6, elo, ng, lg⟩ := h
          rw [List.length_map] at lg
          exact ⟨lo, gr, _, _, rfl, s6, elo, ng, by omega⟩
      rintro _ G3 ⟨lo, gr, y6, y7, rfl, s3, elo, ng, lg⟩
      refine ⟨fun σ' G' => ∃ (la : Addr) (lr : List (Addr × List Str)), σ' = [some (.ref l), some (.int 4), some (.ref fo), some (.ref la), some (.int (0 + (k : Nat))), some (.ref lo), y6, y7] ∧ Same G3 G' ∧ G' la = some (.lst (lr.map fun q => V.ref q.1)) ∧ Nms K G' (LenN (k + 1)) lr ∧ lr.length ≤ 3 ^ (k + 1), ?_, ?_⟩
      · refine ⟨.ref lo, rfl, lo, _, nameAt gr, rfl, SqL.of elo, fun x hx => ?_, fun ys p _ pm np => ?_⟩
        · obtain ⟨q', h1, rfl, e⟩ := nameAt_mem hx
          refine ⟨q'.1, rfl, by rw [e]; exact (ng q' h1).1, fun z => ?_⟩
          rw [e] at z
          have := (ng q' h1).2.1
          rw [z] at this
          cases this
        · obtain ⟨rs', rfl, sub, len⟩ := perm_names pm
          exact ⟨p, rs', rfl, same_put np, upd_same, fun q' hq => (ng.same (same_put np)) q' (sub q' hq), by omega⟩
      rintro _ G4 ⟨la2, lr2, rfl, s4, ela2, nl2, ll2⟩
      have s34 := s3.trans s4
      refine ⟨.ref fo, rfl, .ref la2, rfl, fo, la2, _, _, rfl, rfl, s34 _ _ efo, ela2, small1000' (by rw [List.length_map, List.length_map]; omega), fun z nz => ?_⟩
      have sz := same_put (o := HO.lst ((fr.map fun q => V.ref q.1) ++ lr2.map fun q => V.ref q.1)) nz
      refine ⟨z, la2, fr ++ lr2, lr2, _, _, _, _, rfl, s0.trans (s34.trans sz), Drew_free (s0.trans s34) nz, by rw [upd_same, List.map_append], sz _ _ ela2, fun q' hq => ?_, nl2.same sz, ll2, by rw [List.length_append]; omega⟩
      rcases List.mem_append.mp hq with y | y
      · exact (nf.same (s34.trans sz)) q' y
      · obtain ⟨a1, a2, a3⟩ := (nl2.same sz) q' y
        exact ⟨a1, ⟨fun w => (by rw [w] at a2; cases a2), by omega, a3⟩⟩
    · obtain ⟨fo, la, fr, lr, y4, y5, y6, y7, rfl, s, n, e, _, nf, _, _, lf⟩ := h
      exact ⟨fo, fr, _, _, _, _, _, rfl, s, n, e, nf, by omega⟩
  rintro _ G2 ⟨fo, fr, y3, y4, y5, y6, y7, rfl, s2, n2, e2, nf, lf⟩
  exact ⟨.ref fo, rfl, q G2 fo fr s2 n2 e2 nf lf⟩

theorem ite_and {c : Prop} [Decidable c] {A B : Prop} (h1 : c → A) (h2 : ¬ c → B) : if decide c = true then A else B := by
  by_cases z : c
  · rw [decide_eq_true z]
    exact h1 z
  · rw [decide_eq_false z]
    exact h2 z
def Pre (nm : List Str) (n : List Str) : Prop := n = nm.take n.length ∧ n.length ≤ nm.length
def spDueH (K : PySem.W.Frag) : Sp := fun vs H Q _ => ∃ (t r c : Addr) (ks : List (Addr × List Str)) (dv : V) (st : Bool) (nm : List Str), vs = [.ref t, .ref c] ∧ OwnAt K H t r ks dv st ∧ Nm K H c nm ∧ FullN 8 nm ∧
  ∀ H' o (rs : List (Addr × List Str)), Same H H' → H o = none → H' o = some (.lst (rs.map fun q => V.ref q.1)) → (∀ q ∈ rs, Nm K H' q.1 q.2) → rs.map (·.2) = whoL ks dv nm → Q (.ref o) H'
theorem scDueH : FnScope ["_law_own", "_law_name", "_law_ends", "_law_found", "_law_suffix", "_law_short", "_law_many"] ["_law_own", "_law_name"] (defScope s_law_due) := ⟨rfl, rfl, rfl, by decide +kernel, rfl, by decide +kernel, by decide +kernel⟩
theorem ok_due {f fu : Addr} {fd fdu : FuncData} (F : Fun K "_law_due" "_law_due" s_law_due f fd) (DU : Df K mg "_law_under" s_law_under ["_law_name", "_law_top"] fu fdu) (GU : FnOk P w K mg base CX0 1 fu fdu ["_law_name", "_law_top"] (spUnder K))
    (ml : mg "len" = none) (ms : mg "sorted" = none) : FnOk P w K mg base CX0 2 f fd ["_law_own", "_law_name"] (spDueH K) := by
  refine F.ok scDueH (fun vs H Q E h => ?_) (fun cdv A outer s H vs Q E hr h => ?_)
  · obtain ⟨t, r, c, ks, dv, st, nm, rfl, _⟩ := h
    rfl
  obtain ⟨t, r, c, ks, dv, st, nm, rfl, ⟨ht, er, ok, hd, le⟩, hc, fn, q⟩ := h
  have nd := scDueH.nd
  have un := hr.un
  refine ⟨_, C8.pss_cut (ps_setLc (i := 2) (own := [("_law_suffix", 4)]) (g := gName 4) rfl nd rfl rfl (sw_true rfl rfl rfl (by decide +kernel)) (pi_list (pe_ix ix_tup (pv 0) pe_int (fun _ _ => rfl)))
      (blkOk_by (N := ["_law_own", "_law_name", "_law_ends", "_law_found", "_law_suffix", "_law_short", "_law_many"]) (sc := defScope s_law_due) (by decide +kernel)) (fun _ _ _ _ _ => pg_name (i := 4) nd rfl (Or.inl rfl))
      (fun _ _ _ _ _ => pts_one (PW.pt (pw_and (pt_cmpR op_lt (pe_callB (r := rLenK K) call_lenK (by rfl) ml PySem.boot_len (pa_cons (pv 4) pa_nil)) (pe_callB (r := rLenK K) call_lenK (by rfl) ml PySem.boot_len (pa_cons (pv 1) pa_nil)) (nomark _)) (pw_and1 (pt_val (pcall DU GU hr (pa_cons (pv 1) (pa_cons (pv 4) pa_nil))))))))
      (fun _ _ _ _ _ => pv 4))
    (C8.pss_cut (ps_setLc (i := 3) (own := [("_law_suffix", 4)]) (g := gName 4) (tt := tYes) rfl nd rfl rfl (sw_true rfl rfl rfl (by decide +kernel)) (pi_list (pv 2))
      (blkOk_by (N := ["_law_own", "_law_name", "_law_ends", "_law_found", "_law_suffix", "_law_short", "_law_many"]) (sc := defScope s_law_due) (by decide +kernel)) (fun _ _ _ _ _ => pg_name (i := 4) nd rfl (Or.inl rfl)) (fun _ _ _ _ _ => pts_nil)
      (fun _ _ _ _ _ => pe_slice (r := rSlD K) sl_tupD (pv 1) po_none (po_some (pe_op op_sub (pe_callB (r := rLenK K) call_lenK (by rfl) ml PySem.boot_len (pa_cons (pv 1) pa_nil)) (pe_callB (r := rLenK K) call_lenK (by rfl) ml PySem.boot_len (pa_cons (pv 4) pa_nil))))))
    (C8.pss_cut (ps_if (pt_cmpR op_notN (pe_ix ix_tup (pv 0) pe_int (fun _ _ => rfl)) pe_non (nomark _))
      (pss_one (ps_expr (pe_bm PySem.F.plainAttrs_list PySem.F.slot_list_append PySem.F.type_list_append mt_append (pv 3) (pa_cons (pv 1) pa_nil)))) pss_nil)
    (pss_one (ps_ret (pe_lc (own := [("_law_many", 6), ("_law_short", 5)]) (g := gTup K 2 (gCons (gName 6) (gCons (gName 5) gNil))) (tt := tYes) rfl nd (pi_list (pe_callB (cr_sortP (by show A.units + 3 + 70 < cLine; have : A.units + 3 + 16 * 1 + 200 < cLine := un; omega)) (by rfl) ms (by decide +kernel)
        (pa_cons (pe_lc (own := [("_law_short", 5)]) (g := gName 5) (tt := tYes) rfl nd (pi_list (pv 3))
          (blkOk_by (N := ["_law_own", "_law_name", "_law_ends", "_law_found", "_law_suffix", "_law_short", "_law_many"]) (sc := defScope s_law_due) (by decide +kernel)) (fun _ _ _ _ _ => pg_name (i := 5) nd rfl (Or.inl rfl)) (fun _ _ _ _ _ => pts_nil)
          (fun _ _ _ _ _ => pe_tup (pa_cons (pe_callB (r := rLenK K) call_lenK (by rfl) ml PySem.boot_len (pa_cons (pv 5) pa_nil)) (pa_cons (pv 5) pa_nil)))) pa_nil)))
      (blkOk_by (N := ["_law_own", "_law_name", "_law_ends", "_law_found", "_law_suffix", "_law_short", "_law_many"]) (sc := defScope s_law_due) (by decide +kernel)) (fun _ _ _ _ _ => pg_tup rfl (pgs_cons (pg_name (i := 6) nd rfl (Or.inl rfl)) (pgs_cons (pg_name (i := 5) nd rfl (Or.inl rfl)) pgs_nil))) (fun _ _ _ _ _ => pts_nil)
      (fun _ _ _ _ _ => pv 5)))))), ?_⟩
  have few8 := fn.few
  have ln := fn.labs'
  refine ⟨fun σ' G => ∃ (eo : Addr) (y4 y5 y6 : Option V), σ' = [some (.ref t), some (.ref c), some (.ref eo), none, y4, y5, y6] ∧ Same H G ∧ G eo = some (.lst ((ks.filter fun q => decide (q.2.length < nm.length ∧ q.2 <:+ nm)).map fun q => V.ref q.1)), ?_, ?_⟩
  · refine ⟨.ref t, rfl, t, _, 0, _, rfl, rfl, ht, rfl, r, rfl, ⟨_, SqL.of er⟩, fun D nD => ?_⟩
    refine lc_list (K := K) (a := r) (xs := ks.map fun q => V.ref q.1) (fun i G => G D = some (.lst (((ks.take i).filter fun q => decide (q.2.length < nm.length ∧ q.2 <:+ nm)).map fun q => V.ref q.1)) ∧ Same H G)
      ⟨upd_same, same_put nD⟩ (fun i G _ h => SqL.of (h.2 _ _ er)) (fun i v G hv h => ?_) (fun G h => ?_)
    · obtain ⟨eD, sm⟩ := h
      rw [List.getElem?_map] at hv
      obtain ⟨j, hj, rfl⟩ := Option.map_eq_some_iff.mp hv
      have il : i < ks.length := (List.getElem?_eq_some_iff.mp hj).1
      obtain ⟨nj, fj⟩ := ok.1 j (List.mem_of_getElem? hj)
      have f3 := fj.few
      have tk : (ks.take (i + 1)).filter (fun q => decide (q.2.length < nm.length ∧ q.2 <:+ nm)) = (ks.take i).filter (fun q => decide (q.2.length < nm.length ∧ q.2 <:+ nm)) ++ if j.2.length < nm.length ∧ j.2 <:+ nm then [j] else [] := by
        rw [List.take_add_one, hj, List.filter_append]
        congr 1
        show List.filter _ [j] = _
        by_cases z : j.2.length < nm.length ∧ j.2 <:+ nm
        · rw [if_pos z]
          simp [List.filter_cons, z]
        · rw [if_neg z]
          simp only [List.filter_cons, decide_eq_false z, List.filter_nil, Bool.false_eq_true, if_false]
      have fl : ((ks.take i).filter fun q => decide (q.2.length < nm.length ∧ q.2 <:+ nm)).length ≤ 5 := by
        have := List.length_filter_le (fun q : Addr × List Str => decide (q.2.length < nm.length ∧ q.2 <:+ nm)) (ks.take i)
        rw [List.length_take] at this
        omega
      refine ⟨rfl, .ref j.1, rfl, j.1, _, rfl, .inr (same_seqT sm nj), .ref c, rfl, c, _, rfl, .inr (same_seqT sm hc), _, _, rfl, rfl, _, rfl, ite_and (fun lt => ?_) (fun lt => ?_)⟩
      · rw [List.length_map, List.length_map] at lt
        refine ⟨.ref c, rfl, .ref j.1, rfl, c, j.1, nm, j.2, rfl, same_seqT sm hc, same_seqT sm nj, ln, fj.labs', by omega, by omega, fun G2 s2 => ⟨_, rfl, ite_and (fun suf => ?_) (fun suf => ?_)⟩⟩
        · refine ⟨.ref j.1, rfl, _, s2 _ _ eD, small1000 (by rw [List.length_map]; omega), ?_, fun b o w => ?_⟩
          · rw [upd_same, tk, if_pos ⟨by omega, suf⟩, List.map_append]
            rfl
          · rw [upd_ne (ne_of_none w nD)]
            exact s2 _ _ (sm _ _ w)
        · refine ⟨?_, sm.trans s2⟩
          rw [tk, if_neg (fun z => suf z.2), List.append_nil]
          exact s2 _ _ eD
      · rw [List.length_map, List.length_map] at lt
        refine iteF ⟨?_, sm⟩
        rw [tk, if_neg (fun z => lt (by have := z.1; omega)), List.append_nil]
        exact eD
    · obtain ⟨eD, sm⟩ := h
      rw [List.length_map, List.take_length] at eD
      exact ⟨D, _, _, _, rfl, sm, eD⟩
  rintro _ G1 ⟨eo, y4, y5, y6, rfl, s1, eeo⟩
  have fl5 : (ks.filter fun q => decide (q.2.length < nm.length ∧ q.2 <:+ nm)).length ≤ 5 := by
    have := List.length_filter_le (fun q : Addr × List Str => decide (q.2.length < nm.length ∧ q.2 <:+ nm)) ks
    omega
  refine ⟨fun σ' G => ∃ (fo : Addr) (cr : List (Addr × List Str)) (y4 y5 y6 : Option V), σ' = [some (.ref t), some (.ref c), some (.ref eo), some (.ref fo), y4, y5, y6] ∧ Same H G ∧ H fo = none ∧ G fo = some (.lst (cr.map fun q => V.ref q.1)) ∧ Nms K G (Pre nm) cr ∧ cr.map (·.2) = cutL ks nm ∧ cr.length ≤ 5, ?_, ?_⟩
  · refine ⟨.ref eo, rfl, eo, rfl, ⟨_, SqL.of eeo⟩, fun D nD => ?_⟩
    refine lc_list (K := K) (a := eo) (xs := (ks.filter fun q => decide (q.2.length < nm.length ∧ q.2 <:+ nm)).map fun q => V.ref q.1) (fun i G => ∃ cr : List (Addr × List Str), G D = some (.lst (cr.map fun q => V.ref q.1)) ∧ Same G1 G ∧ Nms K G (Pre nm) cr ∧ cr.map (·.2) = ((ks.filter fun q => decide (q.2.length < nm.length ∧ q.2 <:+ nm)).take i).map (fun q => nm.take (nm.length - q.2.length)) ∧ cr.length = i)
      ⟨[], upd_same, same_put nD, fun _ h => absurd h List.not_mem_nil, rfl, rfl⟩ (fun i G _ h => SqL.of (h.choose_spec.2.1 _ _ eeo)) (fun i v G hv h => ?_) (fun G h => ?_)
    · obtain ⟨cr, eD, sm, nc, eq, lc⟩ := h
      rw [List.getElem?_map] at hv
      obtain ⟨j, hj, rfl⟩ := Option.map_eq_some_iff.mp hv
      have il : i < (ks.filter fun q => decide (q.2.length < nm.length ∧ q.2 <:+ nm)).length := (List.getElem?_eq_some_iff.mp hj).1
      have jf := List.mem_filter.mp (List.mem_of_getElem? hj)
      have jp := of_decide_eq_true jf.2
      obtain ⟨nj, fj⟩ := ok.1 j jf.1
      have s2 := s1.trans sm
      refine ⟨rfl, .ref c, rfl, .ref c, rfl, c, _, rfl, .inr (same_seqT s2 hc), .ref j.1, rfl, j.1, _, rfl, .inr (same_seqT s2 nj), _, _, rfl, rfl, _, rfl, c, _, rfl, same_seqT s2 hc, fun r' G3 s4 hr' => ?_⟩
      have e : (((nm.map V.str).length : Nat) : Int) - (((j.2.map V.str).length : Nat) : Int) = ((nm.length - j.2.length : Nat) : Int) := by
        rw [List.length_map, List.length_map]
        have := jp.1
        omega
      have hcut : SqT K G3 r' ((nm.take (nm.length - j.2.length)).map V.str) := by
        rw [List.map_take, ← cut_to, ← e]
        exact hr'
      have eD3 := s4 _ _ eD
      have lt : (nm.take (nm.length - j.2.length)).length = nm.length - j.2.length := by rw [List.length_take]; omega
      refine ⟨_, eD3, small1000 (by rw [List.length_map]; omega), cr ++ [(r', nm.take (nm.length - j.2.length))], by rw [upd_same, List.map_append]; rfl, fun b o w => ?_, fun q' hq => ?_, by rw [List.map_append, eq, List.take_add_one, hj, List.map_append]; rfl, by rw [List.length_append, lc]; rfl⟩
      · rw [upd_ne (ne_of_none w nD)]
        exact s4 _ _ (sm _ _ w)
      · rcases List.mem_append.mp hq with y | y
        · exact ⟨sq_upd (same_seqT s4 (nc _ y).1) eD3, (nc _ y).2⟩
        · rw [List.mem_singleton] at y
          subst y
          exact ⟨sq_upd hcut eD3, by rw [lt], by rw [lt]; omega⟩
    · obtain ⟨cr, eD, sm, nc, eq, lc⟩ := h
      rw [List.length_map] at eq lc
      rw [List.take_length] at eq
      exact ⟨D, cr, _, _, _, rfl, s1.trans sm, Drew_free s1 nD, eD, nc, eq, by omega⟩
  rintro _ G2 ⟨fo, cr, y4, y5, y6, rfl, s2, nfo, efo, nc, eqc, lc⟩
  refine ⟨fun σ' G => ∃ (cr : List (Addr × List Str)), σ' = [some (.ref t), some (.ref c), some (.ref eo), some (.ref fo), y4, y5, y6] ∧ Same H G ∧ G fo = some (.lst (cr.map fun q => V.ref q.1)) ∧ Nms K G (Pre nm) cr ∧ cr.map (·.2) = (cutL ks nm ++ if dv = .non then [] else [nm]) ∧ cr.length ≤ 6, ?_, ?_⟩
  · refine ⟨.ref t, rfl, t, _, 1, _, rfl, rfl, same_seqT s2 ht, rfl, rfl, _, rfl, ?_⟩
    rcases hd with rfl | ⟨k, hk, rfl⟩
    · exact ite_same ⟨cr, rfl, s2, efo, nc, by rw [if_pos rfl, List.append_nil]; exact eqc, by omega⟩
    · refine ite_diff (fun z => by cases z) ?_
      refine ⟨.ref fo, rfl, .inl ⟨rfl, _, SqL.of efo⟩, .ref c, rfl, fo, _, _, rfl, rfl, efo, small1000 (by rw [List.length_map]; omega), ?_⟩
      refine ⟨cr ++ [(c, nm)], rfl, fun b o w => ?_, by rw [upd_same, List.map_append]; rfl, fun q' hq => ?_, by rw [if_neg (fun z => by cases z), List.map_append, eqc]; rfl, by rw [List.length_append]; show cr.length + 1 ≤ 6; omega⟩
      · rw [upd_ne (ne_of_none w nfo)]
        exact s2 _ _ w
      · rcases List.mem_append.mp hq with z | z
        · exact ⟨sq_upd (nc _ z).1 efo, (nc _ z).2⟩
        · rw [List.mem_singleton] at z
          subst z
          exact ⟨sq_upd (same_seqT s2 hc) efo, (List.take_length).symm, Nat.le_refl _⟩
  rintro _ G3 ⟨cr, rfl, s3, efo3, nc3, eq3, lc3⟩
  refine ⟨.ref fo, rfl, fo, rfl, ⟨_, SqL.of efo3⟩, fun D nD => ?_⟩
  refine lc_list (K := K) (a := fo) (xs := cr.map fun q => V.ref q.1) (fun i G => ∃ ps : List PairN, G D = some (.lst (ps.map fun p : PairN => V.ref p.1)) ∧ Same G3 G ∧ (∀ p ∈ ps, SqT K G p.1 [.int (p.2.2.length : Nat), .ref p.2.1] ∧ Nm K G p.2.1 p.2.2) ∧ ps.map (·.2) = cr.take i)
    ⟨[], upd_same, same_put nD, fun _ h => absurd h List.not_mem_nil, rfl⟩ (fun i G _ h => SqL.of (h.choose_spec.2.1 _ _ efo3)) (fun i v G hv h => ?_) (fun G h => ?_)
  · obtain ⟨ps, eD, sm, np, eq⟩ := h
    rw [List.getElem?_map] at hv
    obtain ⟨j, hj, rfl⟩ := Option.map_eq_some_iff.mp hv
    have il : i < cr.length := (List.getElem?_eq_some_iff.mp hj).1
    obtain ⟨nj, _⟩ := nc3 j (List.mem_of_getElem? hj)
    have pl : ps.length ≤ i := by
      have := congrArg List.length eq
      rw [List.length_map, List.length_take] at this
      omega
    refine ⟨rfl, .ref j.1, rfl, j.1, _, rfl, .inr (same_seqT sm nj), .ref j.1, rfl, by show 2 ≤ sizeLine; decide, fun u nu => ?_⟩
    have su := same_put (o := HO.tup [.int ((j.2.map V.str).length : Nat), .ref j.1]) nu
    have eD2 := su _ _ eD
    refine ⟨_, eD2, small1000 (by rw [List.length_map]; omega), ps ++ [(u, j.1, j.2)], by rw [upd_same, List.map_append]; rfl, fun b o w => ?_, fun q' hq => ?_, by rw [List.map_append, eq, List.take_add_one, hj]; rfl⟩
    · rw [upd_ne (ne_of_none w nD)]
      exact su _ _ (sm _ _ w)
    · rcases List.mem_append.mp hq with y | y
      · exact ⟨sq_upd (same_seqT su (np _ y).1) eD2, sq_upd (same_seqT su (np _ y).2) eD2⟩
      · rw [List.mem_singleton] at y
        subst y
        refine ⟨sq_upd (.inl (.inl ?_)) eD2, sq_upd (same_seqT (sm.trans su) nj) eD2⟩
        rw [upd_same, List.length_map]
  · obtain ⟨ps, eD, sm, np, eq⟩ := h
    rw [List.length_map, List.take_length] at eq
    have names : ps.map (fun p : PairN => p.2.2) = cutL ks nm ++ if dv = .non then [] else [nm] := by
      rw [← eq3, ← eq, List.map_map]
      rfl
    have pre : ∀ p ∈ ps, Pre nm p.2.2 := fun p hp => by
      have : p.2 ∈ cr := by rw [← eq]; exact List.mem_map_of_mem hp
      exact (nc3 _ this).2
    have pl : ps.length ≤ 6 := by
      have := congrArg List.length eq
      rw [List.length_map] at this
      omega
    refine ⟨D, ps, rfl, SqL.of eD, np, fun p hp q hq e => ?_, by omega, fun o ps' no sub eq' => ?_⟩
    · rw [(pre p hp).1, (pre q hq).1, e]
    have so := same_put (o := HO.lst (ps'.map fun p : PairN => V.ref p.1)) no
    have s5 := s3.trans (sm.trans so)
    have pl' : ps'.length ≤ 6 := by
      have := congrArg List.length eq'
      rw [List.length_map, List.length_mergeSort, List.length_map] at this
      omega
    refine ⟨o, rfl, ⟨_, SqL.of upd_same⟩, fun D2 nD2 => ?_⟩
    have eo' : upd G o (HO.lst (ps'.map fun p : PairN => V.ref p.1)) o = some (.lst (ps'.map fun p : PairN => V.ref p.1)) := upd_same
    have np' : ∀ p ∈ ps', SqT K (upd G o (HO.lst (ps'.map fun p : PairN => V.ref p.1))) p.1 [.int (p.2.2.length : Nat), .ref p.2.1] ∧ Nm K (upd G o (HO.lst (ps'.map fun p : PairN => V.ref p.1))) p.2.1 p.2.2 := fun p hp => ⟨same_seqT so (np p (sub p hp)).1, same_seqT so (np p (sub p hp)).2⟩
    generalize upd G o (HO.lst (ps'.map fun p : PairN => V.ref p.1)) = G6 at *
    refine lc_list (K := K) (a := o) (xs := ps'.map fun p : PairN => V.ref p.1) (fun i G => G D2 = some (.lst ((ps'.take i).map fun p : PairN => V.ref p.2.1)) ∧ Same G6 G)
      ⟨upd_same, same_put nD2⟩ (fun i G _ h => SqL.of (h.2 _ _ eo')) (fun i v G hv h => ?_) (fun G h => ?_)
    · obtain ⟨eD2, sm2⟩ := h
      rw [List.getElem?_map] at hv
      obtain ⟨j, hj, rfl⟩ := Option.map_eq_some_iff.mp hv
      have il : i < ps'.length := (List.getElem?_eq_some_iff.mp hj).1
      obtain ⟨n1, n2⟩ := np' j (List.mem_of_getElem? hj)
      refine ⟨j.1, _, rfl, same_seqT sm2 n1, rfl, _, _, rfl, _, _, rfl, rfl, rfl, .ref j.2.1, rfl, _, eD2, small1000 (by rw [List.length_map, List.length_take]; omega), ?_, fun b o w => ?_⟩
      · rw [upd_same, List.take_add_one, hj, List.map_append]
        rfl
      · rw [upd_ne (ne_of_none w nD2)]
        exact sm2 _ _ w
    · obtain ⟨eD2, sm2⟩ := h
      rw [List.length_map, List.take_length] at eD2
      refine q G D2 (ps'.map (·.2)) (s5.trans sm2) (Drew_free s5 nD2) (by rw [eD2, List.map_map]; rfl) (fun q' hq => ?_) ?_
      · obtain ⟨p, hp, rfl⟩ := List.mem_map.mp hq
        exact same_seqT sm2 (np' p hp).2
      · rw [List.map_map]
        unfold whoL
        rw [← names]
        exact eq'

theorem scAlike : FnScope ["_law_found", "_law_right"] ["_law_found", "_law_right"] (defScope s_law_alike) := ⟨rfl, rfl, rfl, by decide +kernel, rfl, by decide +kernel, by decide +kernel⟩
theorem ok_alike {f : Addr} {fd : FuncData} (F : Fun K "_law_alike" "_law_alike" s_law_alike f fd) (mr : mg "repr" = none) : FnQ P w K mg base 1 f fd ["_law_found", "_law_right"] (spAlike K) := by
  refine okQ F scAlike (fun vs H Q h => ?_) (fun cdv A outer s H vs Q quiet hr h => ?_)
  · obtain ⟨x, y, d, k, n, rfl, _⟩ := h
    rfl
  obtain ⟨x, y, d, k, n, rfl, dx, dy, g, hk, hn, q⟩ := h
  have un := hr.un
  refine ⟨_, pss_one (ps_ret (pe_and (pe_cmpR (op_eqD hr.units) (pv 0) (pv 1) (nomark _))
    (pe_one (pe_cmpR op_eq (pe_callB (cr_repr quiet (by show A.units + 3 + 70 < cLine; have : A.units + 3 + 16 * 0 + 200 < cLine := un; omega)) (by rfl) mr (by decide +kernel) (pa_cons (pv 0) pa_nil))
      (pe_callB (cr_repr quiet (by show A.units + 3 + 70 < cLine; have : A.units + 3 + 16 * 0 + 200 < cLine := un; omega)) (by rfl) mr (by decide +kernel) (pa_cons (pv 1) pa_nil)) (nomark _))))), ?_⟩
  have len : d.shown.length ≤ sizeLine := Nat.le_trans g.len hn
  refine ⟨x, rfl, y, rfl, d, d, dx, dy, g.shaped hk, g.shaped hk, true, by rw [g.self], ?_⟩
  refine iteT ?_
  refine ⟨x, rfl, x, d, rfl, dx, g.shows, g.noDict, Nat.le_trans g.deep hk, len, y, rfl, y, d, rfl, dy, g.shows, g.noDict, Nat.le_trans g.deep hk, len, rfl, ?_⟩
  show Q (.bl (decide (V.str d.shown = V.str d.shown))) H
  rw [decide_eq_true rfl]
  exact q

theorem mem_cut {ks : List (Addr × List Str)} {nm one : List Str} : one ∈ cutL ks nm ↔ ∃ q ∈ ks, nm = one ++ q.2 ∧ one ≠ [] := by
  unfold cutL
  constructor
  · intro h
    obtain ⟨q, hq, rfl⟩ := List.mem_map.mp h
    obtain ⟨h1, h2⟩ := List.mem_filter.mp hq
    obtain ⟨lt, z, e⟩ := of_decide_eq_true h2
    refine ⟨q, h1, ?_, fun w => ?_⟩
    · rw [← e, List.length_append, Nat.add_sub_cancel, List.take_left' rfl]
    · have := congrArg List.length w
      rw [List.length_take, List.length_nil] at this
      omega
  · rintro ⟨q, hq, e, ne⟩
    have pos : 0 < one.length := List.length_pos_iff.mpr ne
    have len : nm.length = one.length + q.2.length := by rw [e, List.length_append]
    refine List.mem_map.mpr ⟨q, List.mem_filter.mpr ⟨hq, decide_eq_true ⟨by omega, one, e.symm⟩⟩, ?_⟩
    rw [len, Nat.add_sub_cancel, e]
    exact List.take_left' rfl
theorem mem_who {ks : List (Addr × List Str)} {dv : V} {nm one : List Str} : one ∈ whoL ks dv nm ↔ (∃ q ∈ ks, nm = one ++ q.2 ∧ one ≠ []) ∨ (dv ≠ .non ∧ one = nm) := by
  unfold whoL
  rw [List.mem_mergeSort, List.mem_append, mem_cut]
  by_cases z : dv = .non
  · rw [if_pos z]
    simp [z]
  · rw [if_neg z]
    simp [z]
theorem ends_at {ks : List (Addr × List Str)} {i : Nat} (h : i < ks.length) : (endsOf ks).getD i [] = ks[i].2 := by
  rw [List.getD_eq_getElem?_getD, endsOf, List.getElem?_append_left (by rw [List.length_map]; exact h), List.getElem?_map, List.getElem?_eq_getElem h]
  rfl
theorem ends_last {ks : List (Addr × List Str)} : (endsOf ks).getD ks.length [] = [] := by
  rw [List.getD_eq_getElem?_getD, endsOf, List.getElem?_append_right (by rw [List.length_map]; exact Nat.le_refl _), List.length_map, Nat.sub_self]
  rfl
theorem mem_ent {n m i : Nat} {dv : V} (hd : DotsV dv) : i ∈ entL n dv m ↔ i < n ∨ (dv ≠ .non ∧ i = n) := by
  rcases hd with rfl | ⟨k, _, rfl⟩
  · simp [entL]
  · unfold entL
    simp only
    split
    · simp
      omega
    · simp
theorem mem_cand {ks : List (Addr × List Str)} {dv : V} {nm one : List Str} (hd : DotsV dv) : nm ∈ candL ks dv one ↔ (∃ q ∈ ks, nm = one ++ q.2) ∨ (dv ≠ .non ∧ one = nm) := by
  unfold candL
  rw [List.mem_map]
  constructor
  · rintro ⟨i, hi, rfl⟩
    rcases (mem_ent hd).mp hi with lt | ⟨nd, rfl⟩
    · exact .inl ⟨ks[i], List.getElem_mem lt, by rw [ends_at lt]⟩
    · exact .inr ⟨nd, by rw [ends_last, List.append_nil]⟩
  · rintro (⟨q, hq, rfl⟩ | ⟨nd, rfl⟩)
    · obtain ⟨i, lt, e⟩ := List.getElem_of_mem hq
      exact ⟨i, (mem_ent hd).mpr (.inl lt), by rw [ends_at lt, e]⟩
    · exact ⟨ks.length, (mem_ent hd).mpr (.inr ⟨nd, rfl⟩), by rw [ends_last, List.append_nil]⟩
theorem who_cand {ks : List (Addr × List Str)} {dv : V} {nm one : List Str} (hd : DotsV dv) (ne : one ≠ []) : one ∈ whoL ks dv nm ↔ nm ∈ candL ks dv one := by
  rw [mem_who, mem_cand hd]
  constructor
  · rintro (⟨q, h, e, _⟩ | h)
    · exact .inl ⟨q, h, e⟩
    · exact .inr h
  · rintro (⟨q, h, e⟩ | h)
    · exact .inl ⟨q, h, e, ne⟩
    · exact .inr h
section
variable {H H' : Hp} {b bc x p t r : Addr} {ks rs : List (Addr × List Str)} {dv : V} {st : Bool} {φ : List Str → Prop}
theorem refs_ne (e : H x = some (.lst (rs.map fun q => V.ref q.1))) (bag : Bag b bc H) : x ≠ b := by
  obtain ⟨x0, x1, x2, ns, _, hb, _⟩ := bag
  rintro rfl
  rw [e] at hb
  cases rs with
  | nil => cases hb
  | cons q l => cases hb
theorem refs_drew (e : H x = some (.lst (rs.map fun q => V.ref q.1))) (bag : Bag b bc H) (s : Drew b bc H H') : H' x = some (.lst (rs.map fun q => V.ref q.1)) := s.keep x _ (refs_ne e bag) e
theorem Nms.drew (h : Nms K H φ rs) (bag : Bag b bc H) (s : Drew b bc H H') : Nms K H' φ rs := fun q hq => ⟨s.nm bag.lst (h q hq).1, (h q hq).2⟩
theorem HostAt.drew {C : Addr} (h : HostAt C H p ks dv st) (bag : Bag b bc H) (s : Drew b bc H H') : HostAt C H' p ks dv st := by
  obtain ⟨dx, l, e1, e2⟩ := h
  obtain ⟨ys, hb⟩ := bag.lst
  exact ⟨dx, l, s.keep p _ (fun z => by rw [z, hb] at e1; cases e1) e1, refs_drew e2 bag s⟩
theorem OwnAt.drew (h : OwnAt K H t r ks dv st) (bag : Bag b bc H) (s : Drew b bc H H') : OwnAt K H' t r ks dv st := by
  obtain ⟨h1, h2, h3, h4, h5⟩ := h
  obtain ⟨ys, hb⟩ := bag.lst
  refine ⟨?_, refs_drew h2 bag s, ⟨fun q hq => ⟨s.nm bag.lst (h3.1 q hq).1, (h3.1 q hq).2⟩, h3.2⟩, h4, h5⟩
  rcases h1 with (g | ⟨u, g⟩) | k
  · exact .inl (.inl (s.keep t _ (fun z => by rw [z, hb] at g; cases g) g))
  · exact .inl (.inr ⟨u, s.keep t _ (fun z => by rw [z, hb] at g; cases g) g⟩)
  · exact .inr k
end

theorem scLaw : FnScope ["_law_script", "_law_bag_here", "_law_labels_here", "_law_shorts_here", "_law_turn", "_law_own", "_law_host_here", "_law_short", "_law_some", "_law_names", "_law_name", "_law_found", "_law_mine", "_law_k", "_law_one"] ["_law_script"] (defScope s_law) := ⟨rfl, rfl, rfl, by decide +kernel, rfl, by decide +kernel, by decide +kernel⟩
def spLaw (K : PySem.W.Frag) : Sp := fun vs H Q _ => ∃ (a : Addr) (ns : List Int), vs = [.ref a] ∧ SqL K H a (ns.map V.int) ∧ ns.length ≤ 63 ∧ ∀ H', Q (.bl true) H'
theorem ok_law {C f fbag ft fal fpi fla fwo fsh fow fho fca fdu fwh fcd : Addr} {fd fdbag fdt fdal fdpi fdla fdwo fdsh fdow fdho fdca fddu fdwh fdcd : FuncData} (F : Fun K "law" "law" s_law f fd)
    (DBag : Df K mg "_law_bag" s_law_bag ["_law_script"] fbag fdbag) (GBag : FnOk P w K mg base CX0 1 fbag fdbag ["_law_script"] (spBag K))
    (DT : Df K mg "_law_take" s_law_take ["_law_bag_here", "_law_many"] ft fdt) (GT : FnOk P w K mg base CX0 1 ft fdt ["_law_bag_here", "_law_many"] spTake)
    (DA : Df K mg "_law_alike" s_law_alike ["_law_found", "_law_right"] fal fdal) (GA : FnQ P w K mg base 1 fal fdal ["_law_found", "_law_right"] (spAlike K))
    (DP : Df K mg "_law_pick" s_law_pick ["_law_bag_here", "_law_some"] fpi fdpi) (GP : FnOk P w K mg base CX0 2 fpi fdpi ["_law_bag_here", "_law_some"] (spPick K))
    (DL : Df K mg "_law_labels" s_law_labels ["_law_bag_here", "_law_many"] fla fdla) (GL : FnOk P w K mg base CX0 2 fla fdla ["_law_bag_here", "_law_many"] spLabels8)
    (DW : Df K mg "_law_word" s_law_word ["_law_bag_here", "_law_labels_here", "_law_least", "_law_most"] fwo fdwo) (GW : FnOk P w K mg base CX0 3 fwo fdwo ["_law_bag_here", "_law_labels_here", "_law_least", "_law_most"] (spWord8 K))
    (DSh : Df K mg "_law_shorts" s_law_shorts ["_law_labels_here", "_law_most"] fsh fdsh) (GSh : FnOk P w K mg base CX0 1 fsh fdsh ["_law_labels_here", "_law_most"] (spShorts K))
    (DO : Df K mg "_law_own_host" s_law_own_host ["_law_bag_here", "_law_labels_here", "_law_many"] fow fdow) (GO : FnOk P w K mg base CX0 5 fow fdow ["_law_bag_here", "_law_labels_here", "_law_many"] (spOwn K))
    (DH : Df K mg "_law_host" s_law_host ["_law_own"] fho fdho) (GH : FnOk P w K mg base CX0 7 fho fdho ["_law_own"] (spHostMade K C))
    (DC : Df K mg "_law_candidates" s_law_candidates ["_law_own", "_law_short"] fca fdca) (GC : FnOk P w K mg base CX0 1 fca fdca ["_law_own", "_law_short"] (spLawCand K))
    (DD : Df K mg "_law_due" s_law_due ["_law_own", "_law_name"] fdu fddu) (GD : FnOk P w K mg base CX0 2 fdu fddu ["_law_own", "_law_name"] (spDueH K))
    (DWho : Df K mg "who_can" s_who_can ["host", "name"] fwh fdwh) (GWho : FnOk P w K mg base CX0 3 fwh fdwh ["host", "name"] (spWho K C))
    (cl : Cls K C) (MC : Meth K C "candidates" fcd) (GCd : FnOk P w K mg base CX0 2 fcd fdcd ["self", "short"] (spCandidates K C)) (bC : Binds K fdcd ["self", "short"] [])
    (ml : mg "len" = none) (mr : mg "range" = none) (mi : mg "int" = none) : FnQ P w K mg base 8 f fd ["_law_script"] (spLaw K) := by
  refine okQ F scLaw (fun vs H Q h => ?_) (fun cdv A outer s H vs Q quiet hr h => ?_)
  · obtain ⟨a, ns, rfl, _⟩ := h
    rfl
  obtain ⟨a, ns, rfl, hS, hlen, q⟩ := h
  have nd := scLaw.nd
  have un := hr.un
  refine ⟨_, pss_cons (ps_set (i := 1) nd rfl (.inr rfl) (pcall DBag GBag (hr.mono (by decide)) (pa_cons (pv 0) pa_nil)))
    (C8.pss_cut (ps_set (i := 2) nd rfl (.inl rfl) (pcall DL GL (hr.mono (by decide)) (pa_cons (pv 1) (pa_cons (pe_op op_add pe_int (pcall DT GT (hr.mono (by decide)) (pa_cons (pv 1) (pa_cons pe_int pa_nil)))) pa_nil))))
    (C8.pss_cut (ps_set (i := 3) nd rfl (.inl rfl) (pcall DSh GSh (hr.mono (by decide)) (pa_cons (pv 2) (pa_cons pe_int pa_nil))))
    (pss_cons (ps_for PassesOwn.never rfl (pi_range1 (by rfl) mr (pa_cons pe_int pa_nil)) (pg_name (i := 4) nd rfl (.inl rfl))
      (C8.pss_cut (ps_set (i := 5) nd rfl (.inl rfl) (pcall DO GO (hr.mono (by decide)) (pa_cons (pv 1) (pa_cons (pv 2) (pa_cons pe_int pa_nil)))))
      (C8.pss_cut (ps_asg (pe_tup (pa_cons (pcall DH GH hr (pa_cons (pv 5) pa_nil)) (pa_cons (pcall DW GW (hr.mono (by decide)) (pa_cons (pv 1) (pa_cons (pv 2) (pa_cons pe_int (pa_cons pe_int pa_nil))))) pa_nil))) (pg_tup rfl (pgs_cons (pg_name (i := 6) nd rfl (.inr rfl)) (pgs_cons (pg_name (i := 7) nd rfl (.inl rfl)) pgs_nil))))
      (C8.pss_cut (ps_set (i := 8) nd rfl (.inr rfl) (pe_op op_cat (pe_op op_cat (pcall DC GC (hr.mono (by decide)) (pa_cons (pv 5) (pa_cons (pv 7) pa_nil))) (pe_ix ix_tup (pv 5) pe_int (fun _ _ => rfl))) (pe_lst (pa_cons (pcall DW GW (hr.mono (by decide)) (pa_cons (pv 1) (pa_cons (pv 2) (pa_cons pe_int (pa_cons pe_int pa_nil))))) pa_nil))))
      (C8.pss_cut (ps_asg (pe_lc (own := [("_law_k", 13)]) (g := gName 13) (tt := tYes) rfl nd (pi_range1 (by rfl) mr (pa_cons pe_int pa_nil)) (blkOk_by (N := ["_law_script", "_law_bag_here", "_law_labels_here", "_law_shorts_here", "_law_turn", "_law_own", "_law_host_here", "_law_short", "_law_some", "_law_names", "_law_name", "_law_found", "_law_mine", "_law_k", "_law_one"]) (sc := defScope s_law) (by decide +kernel)) (fun _ _ _ _ _ => pg_name (i := 13) nd rfl (Or.inl rfl)) (fun _ _ _ _ _ => pts_nil)
          (fun _ _ _ _ _ => pcall DP GP (hr.mono (by decide)) (pa_cons (pv 1) (pa_cons (pv 8) pa_nil)))) (pg_name (i := 9) nd rfl (.inr rfl)))
      (C8.pss_cut (ps_asg (pe_lc (own := [("_law_name", 10)]) (g := gName 10) (tt := tYes) rfl nd (pi_list (pv 9)) (blkOk_by (N := ["_law_script", "_law_bag_here", "_law_labels_here", "_law_shorts_here", "_law_turn", "_law_own", "_law_host_here", "_law_short", "_law_some", "_law_names", "_law_name", "_law_found", "_law_mine", "_law_k", "_law_one"]) (sc := defScope s_law) (by decide +kernel)) (fun _ _ _ _ _ => pg_name (i := 10) nd rfl (Or.inl rfl)) (fun _ _ _ _ _ => pts_nil)
          (fun _ _ _ _ _ => pe_slice (r := rSlD K) sl_tupD (pv 10) (po_some (pe_op op_mul (pcall DT GT (hr.mono (by decide)) (pa_cons (pv 1) (pa_cons (pe_callB (r := rLenK K) call_lenK (by rfl) ml PySem.boot_len (pa_cons (pv 10) pa_nil)) pa_nil))) (pe_callTy call_int1 (by rfl) mi (by decide +kernel) (pa_cons (pe_cmpR op_eq (pcall DT GT (hr.mono (by decide)) (pa_cons (pv 1) (pa_cons pe_int pa_nil))) pe_int (nomark _)) pa_nil)))) po_none)) (pg_name (i := 9) nd rfl (.inr rfl)))
      (C8.pss_cut (ps_for PassesOwn.never rfl (pi_list (pe_op op_cat (pv 9) (pe_slice sl_list (pv 9) po_none (po_some pe_int)))) (pg_name (i := 10) nd rfl (.inl rfl))
        (C8.pss_cut (ps_set (i := 11) nd rfl (.inl rfl) (pcall DWho GWho (hr.mono (by decide)) (pa_cons (pv 6) (pa_cons (pv 10) pa_nil))))
        (C8.pss_cut (ps_if (pt_not (pt_val (qcall DA GA quiet (hr.mono (by decide)) (pa_cons (pv 11) (pa_cons (pcall DD GD (hr.mono (by decide)) (pa_cons (pv 5) (pa_cons (pv 10) pa_nil))) pa_nil))))) (pss_one (ps_ret pe_bl)) pss_nil)
        (pss_one (ps_expr (pe_bm PySem.F.plainAttrs_list PySem.F.slot_list_append PySem.F.type_list_append mt_append (pv 11) (pa_cons (pv 10) pa_nil)))))))
      (C8.pss_cut (ps_set (i := 12) nd rfl (.inr rfl) (pcall DWho GWho (hr.mono (by decide)) (pa_cons (pv 6) (pa_cons (pe_ix ix_list (pv 9) pe_int (fun _ _ => rfl)) pa_nil))))
      (pss_one (ps_if (pt_cmpR (op_neD hr.units) (pe_lc (own := [("_law_one", 14)]) (g := gName 14) rfl nd (pi_list (pv 3)) (blkOk_by (N := ["_law_script", "_law_bag_here", "_law_labels_here", "_law_shorts_here", "_law_turn", "_law_own", "_law_host_here", "_law_short", "_law_some", "_law_names", "_law_name", "_law_found", "_law_mine", "_law_k", "_law_one"]) (sc := defScope s_law) (by decide +kernel)) (fun _ _ _ _ _ => pg_name (i := 14) nd rfl (Or.inl rfl))
          (fun _ _ _ _ _ => pts_one (pt_cmpR op_ne (pe_cmpR (r := rInD K) (op_inD (by show A.units + 3 + 65 < cLine; have : A.units + 3 + 16 * 7 + 200 < cLine := un; omega)) (pv 14) (pv 12) (by rfl)) (pe_cmpR (r := rInD K) (op_inD (by show A.units + 3 + 65 < cLine; have : A.units + 3 + 16 * 7 + 200 < cLine := un; omega)) (pe_ix (r := rIxL K) ix_list (pv 9) pe_int (fun _ _ => rfl)) (pe_meth (E := E0) (pv 6) cl MC GCd (hr.mono (by decide)) bC .nil pass0 (pa_cons (pv 14) pa_nil) (by rfl) (by rfl) (by rfl)) (by rfl)) (nomark _)))
          (fun _ _ _ _ _ => pv 14)) (pe_lst pa_nil) (nomark _)) (pss_one (ps_ret pe_bl)) pss_nil))))))))))
    (pss_one (ps_ret pe_bl))))), ?_⟩
  have FullN_up : ∀ {m n : Nat} {x : List Str}, FullN m x → m ≤ n → FullN n x := fun f l => ⟨f.some_, Nat.le_trans f.few l, f.labs⟩
  refine ⟨.ref a, rfl, a, ns, rfl, hS, hlen, fun H1 b bc s1 fb fbc bag => ?_⟩
  refine ⟨fun σ' G => ∃ (L : Addr) (ms : List Str), σ' = [some (.ref a), some (.ref b), some (.ref L), none, none, none, none, none, none, none, none, none, none, none, none] ∧ Bag b bc G ∧ L ≠ b ∧ G L = some (.lst (ms.map V.str)) ∧ Labs ms ∧ (∀ x ∈ ms, kLabel (.str x) = true) ∧ 1 ≤ ms.length ∧ ms.length ≤ 3, ?_, ?_⟩
  · refine ⟨.ref b, rfl, .ref b, rfl, b, bc, 3, rfl, bag, by decide, by decide, fun H2 r d2 hr2 => ?_⟩
    refine ⟨_, _, rfl, rfl, b, bc, r + 1, ?_, d2.bag, by omega, fun H3 l ls d3 nl el lab kl hl => ?_⟩
    · show [V.ref b, V.int (1 + (r : Int))] = _
      rw [show (1 : Int) + (r : Int) = ((r + 1 : Nat) : Int) by omega]
    exact ⟨l, ls, rfl, d3.bag, (d2.bag.apart nl).1, el, lab, kl, by omega, by omega⟩
  rintro _ G0 ⟨L, ms, rfl, bag0, nLb, eL, lms, kms, m1, m3⟩
  refine ⟨fun σ' G => ∃ (S : Addr) (sr : List (Addr × List Str)), σ' = [some (.ref a), some (.ref b), some (.ref L), some (.ref S), none, none, none, none, none, none, none, none, none, none, none] ∧ Bag b bc G ∧ G L = some (.lst (ms.map V.str)) ∧ G S = some (.lst (sr.map fun q => V.ref q.1)) ∧ Nms K G (FullN 4) sr ∧ sr.length ≤ 400, ?_, ?_⟩
  · exact ⟨.ref L, rfl, L, ms, rfl, SqL.of eL, kms, m3, fun G1 S sr s1' nS eS nsr lsr => ⟨S, sr, rfl, bag0.same s1', s1' _ _ eL, eS, nsr, lsr⟩⟩
  rintro _ G1 ⟨S, sr, rfl, bag1, eL1, eS, nsr, lsr⟩
  refine ⟨6, rfl, by decide, by decide, ?_⟩
  refine for_range (lo := 0) (n := 6) (fun _ σ' G' => ∃ y4 y5 y6 y7 y8 y9 y10 y11 y12 y13 y14, σ' = [some (.ref a), some (.ref b), some (.ref L), some (.ref S), y4, y5, y6, y7, y8, y9, y10, y11, y12, y13, y14] ∧ Drew b bc G1 G')
    ⟨none, none, none, none, none, none, none, none, none, none, none, rfl, Drew.refl bag1⟩ (fun i σ' G' _ h => ?_) (fun σ' G' _ => q G')
  obtain ⟨y4, y5, y6, y7, y8, y9, y10, y11, y12, y13, y14, rfl, dG⟩ := h
  have sqL : ∀ {G2 : Hp}, Drew b bc G1 G2 → SqL K G2 L (ms.map V.str) := fun d => drew_seq d nLb (SqL.of eL1)
  -- a host's own tuple
  refine ⟨fun σ' G => ∃ (t r : Addr) (ks : List (Addr × List Str)) (dv : V) (st : Bool), σ' = [some (.ref a), some (.ref b), some (.ref L), some (.ref S), some (.int (0 + (i : Nat))), some (.ref t), y6, y7, y8, y9, y10, y11, y12, y13, y14] ∧ Drew b bc G1 G ∧ OwnAt K G t r ks dv st, ?_, ?_⟩
  · exact ⟨.ref b, rfl, .ref L, rfl, b, bc, L, ms, 5, rfl, dG.bag, nLb, sqL dG, lms, kms, m1, by omega, by decide, fun G2 t r ks dv st d2 nt nr own => ⟨t, r, ks, dv, st, rfl, dG.trans d2, own⟩⟩
  rintro _ G2 ⟨t, r, ks, dv, st, rfl, d2, own2⟩
  -- the host, a short name
  refine ⟨fun σ' G => ∃ (p w : Addr) (nm : List Str), σ' = [some (.ref a), some (.ref b), some (.ref L), some (.ref S), some (.int (0 + (i : Nat))), some (.ref t), some (.ref p), some (.ref w), y8, y9, y10, y11, y12, y13, y14] ∧ Drew b bc G1 G ∧ OwnAt K G t r ks dv st ∧ HostAt C G p ks dv st ∧ Nm K G w nm ∧ FullN 5 nm, ?_, ?_⟩
  · refine ⟨.ref t, rfl, t, r, ks, dv, st, rfl, own2, fun G3 p s3 np host3 => ?_⟩
    have d3 := d2.same s3
    refine ⟨.ref b, rfl, .ref L, rfl, b, bc, L, ms, 1, 5, rfl, d3.bag, nLb, sqL d3, lms, kms, m1, by omega, by decide, by decide, fun G4 w nm d4 hw _ kw a1 a5 => ?_⟩
    refine ⟨by show 2 ≤ sizeLine; decide, fun T nT => ⟨T, _, rfl, .inl (.inl upd_same), rfl, _, _, rfl, _, _, rfl, rfl, ?_⟩⟩
    have sT := same_put (o := HO.tup [.ref p, .ref w]) nT
    exact ⟨p, w, nm, rfl, (d3.trans d4).same sT, ((own2.same s3).drew d3.bag d4).same sT, (host3.drew d3.bag d4).same sT, same_seqT sT hw, fun z => by rw [z] at a1; exact absurd a1 (by decide), a5, kw⟩
  rintro _ G5 ⟨p, w, nm, rfl, d5, own5, host5, hw, fw⟩
  have hd : DotsV dv := own5.2.2.2.1
  have k5 : ks.length ≤ 5 := own5.2.2.2.2
  -- some names
  refine ⟨fun σ' G => ∃ (so : Addr) (rr : List (Addr × List Str)), σ' = [some (.ref a), some (.ref b), some (.ref L), some (.ref S), some (.int (0 + (i : Nat))), some (.ref t), some (.ref p), some (.ref w), some (.ref so), y9, y10, y11, y12, y13, y14] ∧ Drew b bc G1 G ∧ OwnAt K G t r ks dv st ∧ HostAt C G p ks dv st ∧ G so = some (.lst (rr.map fun q => V.ref q.1)) ∧ Nms K G (FullN 8) rr ∧ 1 ≤ rr.length ∧ rr.length ≤ 12, ?_, ?_⟩
  · refine ⟨.ref t, rfl, .ref w, rfl, t, r, w, ks, dv, st, nm, rfl, own5, hw, fw, fun G6 o rs s6 no eo nrs lrs => ?_⟩
    have own6 := own5.same s6
    have d6 := d5.same s6
    refine ⟨.ref t, rfl, t, _, 0, _, rfl, rfl, own6.1, rfl, o, r, _, _, rfl, rfl, eo, own6.2.1, small1000' (by rw [List.length_map, List.length_map]; omega), fun z nz => ?_⟩
    have sz := same_put (o := HO.lst ((rs.map fun q => V.ref q.1) ++ ks.map fun q => V.ref q.1)) nz
    have ez : upd G6 z (HO.lst ((rs.map fun q => V.ref q.1) ++ ks.map fun q => V.ref q.1)) z = some (.lst ((rs ++ ks).map fun q => V.ref q.1)) := by rw [upd_same, List.map_append]
    have d7 := d6.same sz
    have nz7 : Nms K (upd G6 z (HO.lst ((rs.map fun q => V.ref q.1) ++ ks.map fun q => V.ref q.1))) (FullN 8) (rs ++ ks) := fun q' hq => by
      rcases List.mem_append.mp hq with y | y
      · exact ⟨same_seqT sz (nrs q' y).1, (nrs q' y).2⟩
      · exact ⟨same_seqT sz (own6.2.2.1.1 q' y).1, FullN_up (own6.2.2.1.1 q' y).2 (by decide)⟩
    refine ⟨.ref b, rfl, .ref L, rfl, b, bc, L, ms, 1, 8, rfl, d7.bag, nLb, sqL d7, lms, kms, m1, by omega, by decide, by decide, fun G8 w8 n8 d8 hw8 _ kw8 a1 a8 => ?_⟩
    have ez8 := refs_drew ez d7.bag d8
    refine ⟨by show 1 ≤ sizeLine; decide, fun e ne => ?_⟩
    have se := same_put (o := HO.lst [.ref w8]) ne
    refine ⟨z, e, _, _, rfl, rfl, se _ _ ez8, upd_same, small1000' (by rw [List.length_map, List.length_append]; show rs.length + ks.length + 1 ≤ 1000; omega), fun so nso => ?_⟩
    have ss := same_put (o := HO.lst (((rs ++ ks).map fun q => V.ref q.1) ++ [V.ref w8])) nso
    have s89 := se.trans ss
    refine ⟨so, (rs ++ ks) ++ [(w8, n8)], rfl, (d7.trans d8).same s89, (((own6.same sz).drew d7.bag d8).same s89), ((((host5.same s6).same sz).drew d7.bag d8).same s89), by rw [upd_same]; simp, fun q' hq => ?_, by rw [List.length_append]; exact Nat.le_add_left _ _, by rw [List.length_append, List.length_append]; show rs.length + ks.length + 1 ≤ 12; omega⟩
    rcases List.mem_append.mp hq with y | y
    · exact ⟨same_seqT s89 ((nz7.drew d7.bag d8) q' y).1, (nz7 q' y).2⟩
    · rw [List.mem_singleton] at y
      subst y
      exact ⟨same_seqT s89 hw8, ⟨fun z => (by have z' : n8 = [] := z; rw [z'] at a1; exact absurd a1 (by decide)), a8, kw8⟩⟩
  rintro _ G9 ⟨so, rr, rfl, d9, own9, host9, eso, nrr, r1, r12⟩
  -- three of them
  refine ⟨fun σ' G => ∃ (no : Addr) (nr : List (Addr × List Str)) (y13 : Option V), σ' = [some (.ref a), some (.ref b), some (.ref L), some (.ref S), some (.int (0 + (i : Nat))), some (.ref t), some (.ref p), some (.ref w), some (.ref so), some (.ref no), y10, y11, y12, y13, y14] ∧ Drew b bc G1 G ∧ OwnAt K G t r ks dv st ∧ HostAt C G p ks dv st ∧ G no = some (.lst (nr.map fun q => V.ref q.1)) ∧ Nms K G (FullN 8) nr ∧ nr.length = 3, ?_, ?_⟩
  · refine ⟨3, rfl, by decide, by decide, fun D nD => ?_⟩
    refine lc_range (lo := 0) (n := 3) (fun j G => ∃ nr : List (Addr × List Str), G D = some (.lst (nr.map fun q => V.ref q.1)) ∧ Drew b bc G9 G ∧ Nms K G (FullN 8) nr ∧ nr.length = j)
      ⟨[], upd_same, (Drew.refl d9.bag).put d9.bag nD, fun _ h => absurd h List.not_mem_nil, rfl⟩ (fun j G hj h => ?_) (fun G h => ?_)
    · obtain ⟨nr, eD, dD, nn, ln⟩ := h
      have eso' := refs_drew eso d9.bag dD
      refine ⟨rfl, .ref b, rfl, .ref so, rfl, b, bc, so, rr.map fun q => V.ref q.1, rfl, dD.bag, refs_ne eso d9.bag, SqL.of eso', by rw [List.length_map]; exact r1, by rw [List.length_map]; omega, fun G' x v d' hv => ?_⟩
      rw [List.getElem?_map] at hv
      obtain ⟨o, ho, rfl⟩ := Option.map_eq_some_iff.mp hv
      have eD' := refs_drew eD dD.bag d'
      have hn := ((nrr.drew d9.bag (dD.trans d')) o (List.mem_of_getElem? ho))
      refine ⟨_, eD', small1000 (by rw [List.length_map]; omega), nr ++ [o], by rw [upd_same, List.map_append]; rfl, (dD.trans d').put d9.bag nD, fun q' hq => ?_, by rw [List.length_append, ln]; rfl⟩
      rcases List.mem_append.mp hq with y | y
      · exact ⟨sq_upd ((nn.drew dD.bag d') q' y).1 eD', (nn q' y).2⟩
      · rw [List.mem_singleton] at y
        subst y
        exact ⟨sq_upd hn.1 eD', hn.2⟩
    · obtain ⟨nr, eD, dD, nn, ln⟩ := h
      exact ⟨D, nr, _, rfl, d9.trans dD, own9.drew d9.bag dD, host9.drew d9.bag dD, eD, nn, ln⟩
  rintro _ Ga ⟨no0, nr0, y13, rfl, da, owna, hosta, eno0, nnr0, l30⟩
  -- ends of them
  refine ⟨fun σ' G => ∃ (no : Addr) (nr : List (Addr × List Str)) (y10 : Option V), σ' = [some (.ref a), some (.ref b), some (.ref L), some (.ref S), some (.int (0 + (i : Nat))), some (.ref t), some (.ref p), some (.ref w), some (.ref so), some (.ref no), y10, y11, y12, y13, y14] ∧ Drew b bc G1 G ∧ OwnAt K G t r ks dv st ∧ HostAt C G p ks dv st ∧ G no = some (.lst (nr.map fun q => V.ref q.1)) ∧ Nms K G (FullN 8) nr ∧ nr.length = 3, ?_, ?_⟩
  · refine ⟨.ref no0, rfl, no0, rfl, ⟨_, SqL.of eno0⟩, fun D nD => ?_⟩
    refine lc_list (K := K) (a := no0) (xs := nr0.map fun q => V.ref q.1) (fun j G => ∃ nr : List (Addr × List Str), G D = some (.lst (nr.map fun q => V.ref q.1)) ∧ Drew b bc Ga G ∧ Nms K G (FullN 8) nr ∧ nr.length = j)
      ⟨[], upd_same, (Drew.refl da.bag).put da.bag nD, fun _ h => absurd h List.not_mem_nil, rfl⟩ (fun j G _ h => SqL.of (refs_drew eno0 da.bag h.choose_spec.2.1)) (fun j v G hv h => ?_) (fun G h => ?_)
    · obtain ⟨nr, eD, dD, nn, ln⟩ := h
      rw [List.getElem?_map] at hv
      obtain ⟨o, ho, rfl⟩ := Option.map_eq_some_iff.mp hv
      have jl : j < nr0.length := (List.getElem?_eq_some_iff.mp ho).1
      obtain ⟨hn, fo⟩ := (nnr0.drew da.bag dD) o (List.mem_of_getElem? ho)
      have pos : 0 < o.2.length := List.length_pos_iff.mpr fo.some_
      have f8 := fo.few
      refine ⟨rfl, .ref o.1, rfl, .ref b, rfl, .ref o.1, rfl, o.1, _, rfl, .inr hn, b, bc, o.2.length, ?_, dD.bag, pos, by omega, fun G' k d' hk => ?_⟩
      · show [V.ref b, V.int (((o.2.map V.str).length : Nat) : Int)] = [V.ref b, V.int ((o.2.length : Nat) : Int)]
        rw [List.length_map]
      refine ⟨.ref b, rfl, b, bc, 3, rfl, d'.bag, by decide, by decide, fun G'' z d'' hz => ⟨rfl, .inr ⟨_, rfl, _, _, rfl, rfl, ?_, _, rfl, o.1, _, rfl, d''.nm d'.bag.lst (d'.nm dD.bag.lst hn), fun r' G3 s3 hr' => ?_⟩⟩⟩
      · exact .inl ⟨by omega, by omega⟩
      have cut : ∃ m : Nat, m < o.2.length ∧ (k : Int) * (if decide (V.int (z : Nat) = V.int 0) = true then 1 else 0) = (m : Int) := by
        by_cases zz : V.int (z : Nat) = V.int 0
        · exact ⟨k, hk, by rw [decide_eq_true zz, if_pos rfl]; omega⟩
        · exact ⟨0, pos, by rw [decide_eq_false zz, if_neg Bool.false_ne_true]; omega⟩
      obtain ⟨m, hm, em⟩ := cut
      have hr2 : SqT K G3 r' ((o.2.drop m).map V.str) := by
        rw [List.map_drop, ← cut_from, ← em]
        exact hr'
      have dd := (dD.trans d').trans d''
      have eD3 := s3 _ _ (refs_drew (refs_drew eD dD.bag d') d'.bag d'')
      refine ⟨_, eD3, small1000 (by rw [List.length_map]; omega), nr ++ [(r', o.2.drop m)], by rw [upd_same, List.map_append]; rfl, (dd.same s3).put da.bag nD, fun q' hq => ?_, by rw [List.length_append, ln]; rfl⟩
      rcases List.mem_append.mp hq with y | y
      · exact ⟨sq_upd (same_seqT s3 (((nn.drew dD.bag d').drew d'.bag d'') q' y).1) eD3, (nn q' y).2⟩
      · rw [List.mem_singleton] at y
        subst y
        refine ⟨sq_upd hr2 eD3, fun z => ?_, by rw [List.length_drop]; omega, fun x hx => fo.labs x (List.mem_of_mem_drop hx)⟩
        have := congrArg List.length z
        rw [List.length_drop, List.length_nil] at this
        omega
    · obtain ⟨nr, eD, dD, nn, ln⟩ := h
      exact ⟨D, nr, _, rfl, da.trans dD, owna.drew da.bag dD, hosta.drew da.bag dD, eD, nn, by rw [ln, List.length_map, l30]⟩
  rintro _ Gb ⟨no, nr, y10, rfl, db, ownb, hostb, eno, nnr, l3⟩
  have ksn : ∀ {G : Hp}, OwnAt K G t r ks dv st → ∀ q' ∈ ks, Nm K G q'.1 q'.2 ∧ Labs q'.2 ∧ q'.2.length ≤ 100 := fun o q' hq => ⟨(o.2.2.1.1 q' hq).1, (o.2.2.1.1 q' hq).2.labs', Nat.le_trans (o.2.2.1.1 q' hq).2.few (by decide)⟩
  -- the two readings agree
  refine ⟨fun σ' G => ∃ (y10 y11 : Option V), σ' = [some (.ref a), some (.ref b), some (.ref L), some (.ref S), some (.int (0 + (i : Nat))), some (.ref t), some (.ref p), some (.ref w), some (.ref so), some (.ref no), y10, y11, y12, y13, y14] ∧ Same Gb G, ?_, ?_⟩
  · refine ⟨.ref no, rfl, .ref no, rfl, 2, rfl, no, _, rfl, SqL.of eno, fun z nz => ?_⟩
    have sz := same_put (o := HO.lst (cutV (nr.map fun q => V.ref q.1) none (some 2))) nz
    have cz : cutV (nr.map fun q => V.ref q.1) none (some ((2 : Nat) : Int)) = (nr.take 2).map fun q => V.ref q.1 := by rw [cut_to, List.map_take]
    have ez : upd Gb z (HO.lst (cutV (nr.map fun q => V.ref q.1) none (some 2))) z = some (.lst ((nr.take 2).map fun q => V.ref q.1)) := by
      rw [← cz]
      exact upd_same
    refine ⟨no, z, _, _, rfl, rfl, sz _ _ eno, ez, small1000' (by rw [List.length_map, List.length_map, List.length_take]; omega), fun y ny => ⟨y, rfl, ⟨_, SqL.of upd_same⟩, ?_⟩⟩
    have sy := same_put (o := HO.lst ((nr.map fun q => V.ref q.1) ++ (nr.take 2).map fun q => V.ref q.1)) ny
    have s0 := sz.trans sy
    have ey : upd (upd Gb z (HO.lst (cutV (nr.map fun q => V.ref q.1) none (some 2)))) y (HO.lst ((nr.map fun q => V.ref q.1) ++ (nr.take 2).map fun q => V.ref q.1)) y = some (.lst ((nr ++ nr.take 2).map fun q => V.ref q.1)) := by rw [upd_same, List.map_append]
    generalize upd (upd Gb z (HO.lst (cutV (nr.map fun q => V.ref q.1) none (some 2)))) y (HO.lst ((nr.map fun q => V.ref q.1) ++ (nr.take 2).map fun q => V.ref q.1)) = Gc at *
    refine for_list (K := K) (a := y) (xs := (nr ++ nr.take 2).map fun q => V.ref q.1) (fun _ σ' G => ∃ (y10 y11 : Option V), σ' = [some (.ref a), some (.ref b), some (.ref L), some (.ref S), some (.int (0 + (i : Nat))), some (.ref t), some (.ref p), some (.ref w), some (.ref so), some (.ref no), y10, y11, y12, y13, y14] ∧ Same Gc G)
      ⟨y10, y11, rfl, Same.refl _⟩ (fun j σ' G _ h => ?_) (fun j v σ' G hv h => ?_) (fun σ' G h => ?_)
    · obtain ⟨_, _, _, s⟩ := h
      exact SqL.of (s _ _ ey)
    · obtain ⟨y10, y11, rfl, sc⟩ := h
      rw [List.getElem?_map] at hv
      obtain ⟨o, ho, rfl⟩ := Option.map_eq_some_iff.mp hv
      have om : o ∈ nr := by
        rcases List.mem_append.mp (List.mem_of_getElem? ho) with m | m
        · exact m
        · exact List.mem_of_mem_take m
      have s1' := s0.trans sc
      obtain ⟨hn, fo⟩ := (nnr.same s1') o om
      have own' := ownb.same s1'
      have host' := hostb.same s1'
      have lo := fo.labs'
      have f8 := fo.few
      refine ⟨fun σ' G' => ∃ (f : Addr) (rs : List (Addr × List Str)), σ' = [some (.ref a), some (.ref b), some (.ref L), some (.ref S), some (.int (0 + (i : Nat))), some (.ref t), some (.ref p), some (.ref w), some (.ref so), some (.ref no), some (.ref o.1), some (.ref f), y12, y13, y14] ∧ Same G G' ∧ G f = none ∧ G' f = some (.lst (rs.map fun q => V.ref q.1)) ∧ (∀ q ∈ rs, Nm K G' q.1 q.2) ∧ rs.map (·.2) = whoL ks dv o.2, ?_, ?_⟩
      · exact ⟨.ref p, rfl, .ref o.1, rfl, p, o.1, ks, dv, st, o.2, rfl, host', hd, k5, ksn own', hn, lo, by omega, fun G' f rs s2 nf ef nrs eq => ⟨f, rs, rfl, s2, nf, ef, nrs, eq⟩⟩
      rintro _ Gd ⟨f, rs, rfl, s2, nf, ef, nrs, eq⟩
      have good : Good (.list ((whoL ks dv o.2).map nameD)) 2 2100000 := by
        refine good_names (fun n hn => ?_) ?_
        · rcases mem_who.mp hn with ⟨q', _, e, _⟩ | ⟨_, e⟩
          · refine ⟨fun x hx => lo x (by rw [e]; exact List.mem_append_left _ hx), ?_⟩
            have := congrArg List.length e
            rw [List.length_append] at this
            omega
          · rw [e]
            exact ⟨lo, by omega⟩
        · have := congrArg List.length eq
          unfold whoL at this ⊢
          rw [List.length_mergeSort, List.length_append]
          have l1 := List.length_filter_le (fun q : Addr × List Str => decide (q.2.length < o.2.length ∧ q.2 <:+ o.2)) ks
          have l2 : (cutL ks o.2).length ≤ 5 := by
            unfold cutL
            rw [List.length_map]
            omega
          split
          · simp only [List.length_nil]
            omega
          · simp only [List.length_singleton]
            omega
      have data : ∀ {G' : Hp} {rs : List (Addr × List Str)}, (∀ q ∈ rs, Nm K G' q.1 q.2) → rs.map (·.2) = whoL ks dv o.2 → DpAll K G' (rs.map fun q => V.ref q.1) ((whoL ks dv o.2).map nameD) := fun {G' rs} nm e => by
        rw [← e, List.map_map]
        exact names_dp nm
      refine ⟨fun σ' G' => σ' = [some (.ref a), some (.ref b), some (.ref L), some (.ref S), some (.int (0 + (i : Nat))), some (.ref t), some (.ref p), some (.ref w), some (.ref so), some (.ref no), some (.ref o.1), some (.ref f), y12, y13, y14] ∧ Same Gd G', ?_, ?_⟩
      · refine ⟨.ref f, rfl, .ref t, rfl, .ref o.1, rfl, t, r, o.1, ks, dv, st, o.2, rfl, own'.same s2, same_seqT s2 hn, fo, fun Ge u rs' s3 nu eu nrs' eq' => ?_⟩
        exact ⟨.ref f, .ref u, .list ((whoL ks dv o.2).map nameD), 2, _, rfl, .lst (.inl (.inl (s3 _ _ ef))) (data (fun q hq => same_seqT s3 (nrs q hq)) eq), .lst (.inl (.inl eu)) (data nrs' eq'), good, by decide, by decide, true, rfl, iteF ⟨rfl, s3⟩⟩
      rintro _ Ge ⟨rfl, s3⟩
      have ef3 := s3 _ _ ef
      have lf : rs.length ≤ 1000 := by
        have := congrArg List.length eq
        unfold whoL cutL at this
        rw [List.length_map, List.length_mergeSort, List.length_append, List.length_map] at this
        have l1 := List.length_filter_le (fun q : Addr × List Str => decide (q.2.length < o.2.length ∧ q.2 <:+ o.2)) ks
        split at this
        · simp only [List.length_nil] at this
          omega
        · simp only [List.length_singleton] at this
          omega
      refine ⟨.ref f, rfl, .inl ⟨rfl, _, SqL.of ef3⟩, .ref o.1, rfl, f, _, _, rfl, rfl, ef3, small1000 (by rw [List.length_map]; omega), ?_⟩
      refine ⟨_, _, rfl, sc.trans fun k u e => ?_⟩
      rw [upd_ne (ne_of_none e nf)]
      exact s3 _ _ (s2 _ _ e)
    · obtain ⟨_, _, rfl, s⟩ := h
      exact ⟨_, _, rfl, s0.trans s⟩
  rintro _ Gf ⟨y10, y11, rfl, sf⟩
  -- all short names
  have ownf := ownb.same sf
  have hostf := hostb.same sf
  have nnf := nnr.same sf
  have enof := sf _ _ eno
  obtain ⟨n0, hn0⟩ : ∃ n0, nr[0]? = some n0 := ⟨_, List.getElem?_eq_getElem (by omega)⟩
  obtain ⟨hn, fo⟩ := nnf n0 (List.mem_of_getElem? hn0)
  have f8 := fo.few
  have lo := fo.labs'
  have at0 : atI (nr.map fun q => V.ref q.1) ((0 : Nat) : Int) = some (.ref n0.1) := atI_nat (by rw [List.getElem?_map, hn0]; rfl)
  refine ⟨fun σ' G => ∃ (mn : Addr) (mr : List (Addr × List Str)), σ' = [some (.ref a), some (.ref b), some (.ref L), some (.ref S), some (.int (0 + (i : Nat))), some (.ref t), some (.ref p), some (.ref w), some (.ref so), some (.ref no), y10, y11, some (.ref mn), y13, y14] ∧ Same Gf G ∧ G mn = some (.lst (mr.map fun q => V.ref q.1)) ∧ (∀ q ∈ mr, Nm K G q.1 q.2) ∧ mr.map (·.2) = whoL ks dv n0.2, ?_, ?_⟩
  · exact ⟨.ref p, rfl, .ref no, rfl, no, _, _, _, rfl, rfl, SqL.of enof, at0, p, n0.1, ks, dv, st, n0.2, rfl, hostf, hd, k5, ksn ownf, hn, lo, by omega, fun G' f rs s2 nf ef nrs eq => ⟨f, rs, rfl, s2, ef, nrs, eq⟩⟩
  rintro _ Gg ⟨mn, mr, rfl, sg, emn, nmr, eqm⟩
  have sfg := sf.trans sg
  have dg := db.same sfg
  have eSg := refs_drew eS bag1 dg
  have nsg := nsr.drew bag1 dg
  have ownG := ownb.same sfg
  have hostG := hostb.same sfg
  have enog := sg _ _ enof
  have hng := same_seqT sg hn
  refine ⟨.ref S, rfl, S, rfl, ⟨_, SqL.of eSg⟩, fun D nD => ?_⟩
  refine lc_list (K := K) (a := S) (xs := sr.map fun q => V.ref q.1) (fun j G => Same Gg G ∧ G D = some (.lst [])) ⟨same_put nD, upd_same⟩ (fun j G _ h => SqL.of (h.1 _ _ eSg)) (fun j v G hv h => ?_) (fun G h => ?_)
  · obtain ⟨sm, eD⟩ := h
    rw [List.getElem?_map] at hv
    obtain ⟨o, ho, rfl⟩ := Option.map_eq_some_iff.mp hv
    obtain ⟨hone, fone⟩ := (nsg.same sm) o (List.mem_of_getElem? ho)
    have f4 := fone.few
    have gone := (good_name fone.labs' (by omega)).shaped (by decide)
    have gn0 := (good_name lo (by omega)).shaped (by decide)
    have dmr : DpAll K G (mr.map fun q => V.ref q.1) (mr.map fun q : Addr × List Str => nameD q.2) := names_dp fun q hq => same_seqT sm (nmr q hq)
    have smr : SeqAt.shaped (.list (mr.map fun q : Addr × List Str => nameD q.2)) = true := by
      have e : (mr.map fun q : Addr × List Str => nameD q.2) = (whoL ks dv n0.2).map nameD := by rw [← eqm, List.map_map]; rfl
      rw [e]
      refine (good_names (fun n hn => ?_) ?_).shaped (by decide)
      · rcases mem_who.mp hn with ⟨q', _, e, _⟩ | ⟨_, e⟩
        · refine ⟨fun x hx => lo x (by rw [e]; exact List.mem_append_left _ hx), ?_⟩
          have := congrArg List.length e
          rw [List.length_append] at this
          omega
        · rw [e]
          exact ⟨lo, by omega⟩
      · unfold whoL cutL
        rw [List.length_mergeSort, List.length_append, List.length_map]
        have l1 := List.length_filter_le (fun q : Addr × List Str => decide (q.2.length < n0.2.length ∧ q.2 <:+ n0.2)) ks
        split
        · simp only [List.length_nil]
          omega
        · simp only [List.length_singleton]
          omega
    refine ⟨rfl, .ref o.1, rfl, .ref mn, rfl, nameD o.2, (mr.map fun q : Addr × List Str => nameD q.2), nm_dp hone, .lst (.inl (.inl (sm _ _ emn))) dmr, gone, smr, ?_⟩
    refine ⟨.ref no, rfl, no, _, _, _, rfl, rfl, SqL.of (sm _ _ enog), at0, ?_⟩
    obtain ⟨dx, lh, eh1, eh2⟩ := hostG.same sm
    refine ⟨.ref p, rfl, p, dx, _, rfl, eh1, rfl, .ref o.1, rfl, p, o.1, ks, dv, st, o.2, rfl, ⟨dx, lh, eh1, eh2⟩, hd, k5, fun q hq => ⟨(ksn (ownG.same sm) q hq).1, (ksn (ownG.same sm) q hq).2.2⟩, hone, by omega, fun G' cd cs s4 ncd ecd ncs eqc => ?_⟩
    have dcs : DpAll K G' (cs.map fun q => V.ref q.1) (cs.map fun q : Addr × List Str => nameD q.2) := names_dp ncs
    have scs : SeqAt.shaped (.list (cs.map fun q : Addr × List Str => nameD q.2)) = true := by
      have e : (cs.map fun q : Addr × List Str => nameD q.2) = (candL ks dv o.2).map nameD := by rw [← eqc, List.map_map]; rfl
      rw [e]
      refine (good_names (fun n hn => ?_) ?_).shaped (by decide)
      · rcases (mem_cand hd).mp hn with ⟨q', hq', e⟩ | ⟨_, e⟩
        · have k1 := ksn ownG q' hq'
          have k2 := (ownG.2.2.1.1 q' hq').2.few
          rw [e]
          exact ⟨fone.labs'.append k1.2.1, by rw [List.length_append]; omega⟩
        · rw [← e]
          exact ⟨fone.labs', by omega⟩
      · unfold candL
        rw [List.length_map]
        rcases hd with rfl | ⟨k, _, rfl⟩
        · show (List.range ks.length).length ≤ 100
          rw [List.length_range]
          omega
        · unfold entL
          simp only
          split
          · rw [List.length_cons, List.length_range]
            omega
          · rw [List.length_append, List.length_range, List.length_singleton]
            omega
    refine ⟨nameD n0.2, (cs.map fun q : Addr × List Str => nameD q.2), nm_dp (same_seqT (sm.trans s4) hng), .lst (.inl (.inl ecd)) dcs, gn0, scs, rfl, _, rfl, ?_⟩
    rw [any_name, any_name, eqm, eqc]
    have same : decide (o.2 ∈ whoL ks dv n0.2) = decide (n0.2 ∈ candL ks dv o.2) := decide_eq_decide.mpr (who_cand hd fone.some_)
    rw [same, decide_eq_true rfl]
    refine iteF ⟨sm.trans s4, s4 _ _ eD⟩
  · obtain ⟨sm, eD⟩ := h
    refine ⟨by show 0 ≤ sizeLine; decide, fun e ne => ?_⟩
    have se := same_put (o := HO.lst []) ne
    refine ⟨.list [], .list [], .lst (.inl (.inl (se _ _ eD))) .nil, .lst (.inl (.inl upd_same)) .nil, by decide +kernel, by decide +kernel, _, rfl, iteF ?_⟩
    exact ⟨_, _, _, _, _, _, _, _, _, _, _, rfl, dg.same (sm.trans se)⟩

end
theorem all_mk {l : PySem.W.OpenLaw} {w : World} {K : PySem.W.Frag} {h : Heap} {mg : Str → Option Value} {fa f0 f1 f2 f3 f4 f5 f6 f7 f8 f9 f10 f11 f12 f13 f14 f15 f16 f17 f18 f19 f20 f21 f22 C_Host g0 g1 g2 g3 g4 : Addr} (X : K.In h) (G : h.Ns mainGlobals mg) (hfa : mg "law" = some (.ref fa))
    {mod0 man0 mod1 man1 mod2 man2 mod3 man3 mod4 man4 : Option Addr} {msl0 msl1 msl2 msl3 msl4 : Array (Option Value)} {moc0 mkV0 mdc0 mpm0 mcd0 mct0 moc1 mkV1 mdc1 mpm1 mcd1 mct1 moc2 mkV2 mdc2 mpm2 mcd2 mct2 moc3 mkV3 mdc3 mpm3 mcd3 mct3 moc4 mkV4 mdc4 mpm4 mcd4 mct4 : Value}
    {tk_LABEL_SIGNS tk_MOST_SUFFIXES tk_SUFFIX_LABELS tk_GREATEST_DOTS : Tok}
    (gl_LABEL_SIGNS : PySem.W.nsIn K mainGlobals "LABEL_SIGNS" = some (some (.int 8 tk_LABEL_SIGNS)))
    (gl_MOST_SUFFIXES : PySem.W.nsIn K mainGlobals "MOST_SUFFIXES" = some (some (.int 5 tk_MOST_SUFFIXES)))
    (gl_SUFFIX_LABELS : PySem.W.nsIn K mainGlobals "SUFFIX_LABELS" = some (some (.int 3 tk_SUFFIX_LABELS)))
    (gl_GREATEST_DOTS : PySem.W.nsIn K mainGlobals "GREATEST_DOTS" = some (some (.int 4 tk_GREATEST_DOTS)))
    (cC_Host : PySem.W.nsIn K mainGlobals "Host" = some (some (.ref C_Host)))
    {pd_dots : Addr} {rest_dots : List Value} (pa_dots : PySem.W.findIn K (.ref C_Host) "dots" = some (some (.ref pd_dots))) (pb_dots : PySem.W.specialIn K (.ref pd_dots) "__get__" = some (some (.builtin "property.__get__"))) (pc_dots : PySem.W.takesIn K (.ref pd_dots) = some true) (pe_dots : PySem.W.recIn K pd_dots "property" = some (.ref g4 :: rest_dots))
    (ma0 : PySem.W.findIn K (.ref C_Host) "__init__" = some (some (.ref g0))) (mi0 : PySem.W.isFn K (.ref g0) = true) (ml0 : K.lookup g0 = some ⟨moc0, mod0, .func (PySem.W.fnOf "__init__" "Host.__init__" (defArgs s_Host_init) (defBody s_Host_init) (defScope s_Host_init) .none mkV0 mdc0 mpm0 man0 mcd0 mct0), msl0⟩) (mc0 : PySem.W.codeIn K mcd0 "Host.__init__" = true) (mk0 : PySem.W.keepIn K (.ref g0) = true)
    (ma1 : PySem.W.findIn K (.ref C_Host) "suffixes" = some (some (.ref g1))) (mi1 : PySem.W.isFn K (.ref g1) = true) (ml1 : K.lookup g1 = some ⟨moc1, mod1, .func (PySem.W.fnOf "suffixes" "Host.suffixes" (defArgs s_Host_suffixes) (defBody s_Host_suffixes) (defScope s_Host_suffixes) .none mkV1 mdc1 mpm1 man1 mcd1 mct1), msl1⟩) (mc1 : PySem.W.codeIn K mcd1 "Host.suffixes" = true) (mk1 : PySem.W.keepIn K (.ref g1) = true)
    (ma2 : PySem.W.findIn K (.ref C_Host) "entries" = some (some (.ref g2))) (mi2 : PySem.W.isFn K (.ref g2) = true) (ml2 : K.lookup g2 = some ⟨moc2, mod2, .func (PySem.W.fnOf "entries" "Host.entries" (defArgs s_Host_entries) (defBody s_Host_entries) (defScope s_Host_entries) .none mkV2 mdc2 mpm2 man2 mcd2 mct2), msl2⟩) (mc2 : PySem.W.codeIn K mcd2 "Host.entries" = true) (mk2 : PySem.W.keepIn K (.ref g2) = true)
    (ma3 : PySem.W.findIn K (.ref C_Host) "candidates" = some (some (.ref g3))) (mi3 : PySem.W.isFn K (.ref g3) = true) (ml3 : K.lookup g3 = some ⟨moc3, mod3, .func (PySem.W.fnOf "candidates" "Host.candidates" (defArgs s_Host_candidates) (defBody s_Host_candidates) (defScope s_Host_candidates) .none mkV3 mdc3 mpm3 man3 mcd3 mct3), msl3⟩) (mc3 : PySem.W.codeIn K mcd3 "Host.candidates" = true) (mk3 : PySem.W.keepIn K (.ref g3) = true)
    (ml4 : K.lookup g4 = some ⟨moc4, mod4, .func (PySem.W.fnOf "dots" "Host.dots" (defArgs s_Host_dots) (defBody s_Host_dots) (defScope s_Host_dots) .none mkV4 mdc4 mpm4 man4 mcd4 mct4), msl4⟩) (mc4 : PySem.W.codeIn K mcd4 "Host.dots" = true) (mk4 : PySem.W.keepIn K (.ref g4) = true)
    (pg_Host : PySem.W.plainGet K C_Host Str.empty = true) (hd_Host : PySem.W.hasDictIn K C_Host = true) (po_Host : PySem.W.plainOver K C_Host = true) (sa_Host : PySem.W.findIn K (.ref C_Host) "__setattr__" = some (some (.builtin "object.__setattr__"))) (mm_Host : PySem.W.makesIn K C_Host = true) (kc_Host : PySem.W.keepIn K (.ref C_Host) = true)
    (na_Host_suffixes : PySem.W.findIn K (.ref C_Host) "_suffixes" = some none)
    (na_Host_dots : PySem.W.findIn K (.ref C_Host) "_dots" = some none)
    (na_Host_stops : PySem.W.findIn K (.ref C_Host) "_stops" = some none)
    (oa_Host : PySem.W.findIn K (.ref C_Host) "__class__" = some (some (.builtin "object.__class__"))) (on_Host : PySem.W.specialIn K (.builtin "object.__class__") "__get__" = some (some (.builtin "getset_descriptor.__get__"))) (ot_Host : PySem.W.takesIn K (.builtin "object.__class__") = some true) (om_Host : PySem.W.mroIn K C_Host (.type "object") = some true)
    (oi_Host : PySem.W.kitOne K (.ref C_Host) (.type "int") = some false) (os_Host : PySem.W.kitOne K (.ref C_Host) (.type "str") = some false) (ou_Host : PySem.W.kitOne K (.ref C_Host) (.type "tuple") = some false)
    {od0 an0 od1 an1 od2 an2 od3 an3 od4 an4 od5 an5 od6 an6 od7 an7 od8 an8 od9 an9 od10 an10 od11 an11 od12 an12 od13 an13 od14 an14 od15 an15 od16 an16 od17 an17 od18 an18 od19 an19 od20 an20 od21 an21 od22 an22 : Option Addr} {sl0 sl1 sl2 sl3 sl4 sl5 sl6 sl7 sl8 sl9 sl10 sl11 sl12 sl13 sl14 sl15 sl16 sl17 sl18 sl19 sl20 sl21 sl22 : Array (Option Value)} {oc0 kV0 dc0 pm0 cd0 ct0 oc1 kV1 dc1 pm1 cd1 ct1 oc2 kV2 dc2 pm2 cd2 ct2 oc3 kV3 dc3 pm3 cd3 ct3 oc4 kV4 dc4 pm4 cd4 ct4 oc5 kV5 dc5 pm5 cd5 ct5 oc6 kV6 dc6 pm6 cd6 ct6 oc7 kV7 dc7 pm7 cd7 ct7 oc8 kV8 dc8 pm8 cd8 ct8 oc9 kV9 dc9 pm9 cd9 ct9 oc10 kV10 dc10 pm10 cd10 ct10 oc11 kV11 dc11 pm11 cd11 ct11 oc12 kV12 dc12 pm12 cd12 ct12 oc13 kV13 dc13 pm13 cd13 ct13 oc14 kV14 dc14 pm14 cd14 ct14 oc15 kV15 dc15 pm15 cd15 ct15 oc16 kV16 dc16 pm16 cd16 ct16 oc17 kV17 dc17 pm17 cd17 ct17 oc18 kV18 dc18 pm18 cd18 ct18 oc19 kV19 dc19 pm19 cd19 ct19 oc20 kV20 dc20 pm20 cd20 ct20 oc21 kV21 dc21 pm21 cd21 ct21 oc22 kV22 dc22 pm22 cd22 ct22 : Value}
    (a0 : PySem.W.nsIn K mainGlobals "is_integer" = some (some (.ref f0))) (l0 : K.lookup f0 = some ⟨oc0, od0, .func (PySem.W.fnOf "is_integer" "is_integer" (defArgs s_is_integer) (defBody s_is_integer) (defScope s_is_integer) .none kV0 dc0 pm0 an0 cd0 ct0), sl0⟩) (c0 : PySem.W.codeIn K cd0 "is_integer" = true) (k0 : PySem.W.keepIn K (.ref f0) = true)
    (a1 : PySem.W.nsIn K mainGlobals "is_label" = some (some (.ref f1))) (l1 : K.lookup f1 = some ⟨oc1, od1, .func (PySem.W.fnOf "is_label" "is_label" (defArgs s_is_label) (defBody s_is_label) (defScope s_is_label) .none kV1 dc1 pm1 an1 cd1 ct1), sl1⟩) (c1 : PySem.W.codeIn K cd1 "is_label" = true) (k1 : PySem.W.keepIn K (.ref f1) = true)
    (a2 : PySem.W.nsIn K mainGlobals "is_name" = some (some (.ref f2))) (l2 : K.lookup f2 = some ⟨oc2, od2, .func (PySem.W.fnOf "is_name" "is_name" (defArgs s_is_name) (defBody s_is_name) (defScope s_is_name) .none kV2 dc2 pm2 an2 cd2 ct2), sl2⟩) (c2 : PySem.W.codeIn K cd2 "is_name" = true) (k2 : PySem.W.keepIn K (.ref f2) = true)
    (a3 : PySem.W.nsIn K mainGlobals "is_full" = some (some (.ref f3))) (l3 : K.lookup f3 = some ⟨oc3, od3, .func (PySem.W.fnOf "is_full" "is_full" (defArgs s_is_full) (defBody s_is_full) (defScope s_is_full) .none kV3 dc3 pm3 an3 cd3 ct3), sl3⟩) (c3 : PySem.W.codeIn K cd3 "is_full" = true) (k3 : PySem.W.keepIn K (.ref f3) = true)
    (a4 : PySem.W.nsIn K mainGlobals "is_number" = some (some (.ref f4))) (l4 : K.lookup f4 = some ⟨oc4, od4, .func (PySem.W.fnOf "is_number" "is_number" (defArgs s_is_number) (defBody s_is_number) (defScope s_is_number) .none kV4 dc4 pm4 an4 cd4 ct4), sl4⟩) (c4 : PySem.W.codeIn K cd4 "is_number" = true) (k4 : PySem.W.keepIn K (.ref f4) = true)
    (a5 : PySem.W.nsIn K mainGlobals "are_names" = some (some (.ref f5))) (l5 : K.lookup f5 = some ⟨oc5, od5, .func (PySem.W.fnOf "are_names" "are_names" (defArgs s_are_names) (defBody s_are_names) (defScope s_are_names) .none kV5 dc5 pm5 an5 cd5 ct5), sl5⟩) (c5 : PySem.W.codeIn K cd5 "are_names" = true) (k5 : PySem.W.keepIn K (.ref f5) = true)
    (a6 : PySem.W.nsIn K mainGlobals "is_under" = some (some (.ref f6))) (l6 : K.lookup f6 = some ⟨oc6, od6, .func (PySem.W.fnOf "is_under" "is_under" (defArgs s_is_under) (defBody s_is_under) (defScope s_is_under) .none kV6 dc6 pm6 an6 cd6 ct6), sl6⟩) (c6 : PySem.W.codeIn K cd6 "is_under" = true) (k6 : PySem.W.keepIn K (.ref f6) = true)
    (a7 : PySem.W.nsIn K mainGlobals "is_beneath" = some (some (.ref f7))) (l7 : K.lookup f7 = some ⟨oc7, od7, .func (PySem.W.fnOf "is_beneath" "is_beneath" (defArgs s_is_beneath) (defBody s_is_beneath) (defScope s_is_beneath) .none kV7 dc7 pm7 an7 cd7 ct7), sl7⟩) (c7 : PySem.W.codeIn K cd7 "is_beneath" = true) (k7 : PySem.W.keepIn K (.ref f7) = true)
    (a8 : PySem.W.nsIn K mainGlobals "who_can" = some (some (.ref f8))) (l8 : K.lookup f8 = some ⟨oc8, od8, .func (PySem.W.fnOf "who_can" "who_can" (defArgs s_who_can) (defBody s_who_can) (defScope s_who_can) .none kV8 dc8 pm8 an8 cd8 ct8), sl8⟩) (c8 : PySem.W.codeIn K cd8 "who_can" = true) (k8 : PySem.W.keepIn K (.ref f8) = true)
    (a9 : PySem.W.nsIn K mainGlobals "_law_bag" = some (some (.ref f9))) (l9 : K.lookup f9 = some ⟨oc9, od9, .func (PySem.W.fnOf "_law_bag" "_law_bag" (defArgs s_law_bag) (defBody s_law_bag) (defScope s_law_bag) .none kV9 dc9 pm9 an9 cd9 ct9), sl9⟩) (c9 : PySem.W.codeIn K cd9 "_law_bag" = true) (k9 : PySem.W.keepIn K (.ref f9) = true)
    (a10 : PySem.W.nsIn K mainGlobals "_law_take" = some (some (.ref f10))) (l10 : K.lookup f10 = some ⟨oc10, od10, .func (PySem.W.fnOf "_law_take" "_law_take" (defArgs s_law_take) (defBody s_law_take) (defScope s_law_take) .none kV10 dc10 pm10 an10 cd10 ct10), sl10⟩) (c10 : PySem.W.codeIn K cd10 "_law_take" = true) (k10 : PySem.W.keepIn K (.ref f10) = true)
    (a11 : PySem.W.nsIn K mainGlobals "_law_alike" = some (some (.ref f11))) (l11 : K.lookup f11 = some ⟨oc11, od11, .func (PySem.W.fnOf "_law_alike" "_law_alike" (defArgs s_law_alike) (defBody s_law_alike) (defScope s_law_alike) .none kV11 dc11 pm11 an11 cd11 ct11), sl11⟩) (c11 : PySem.W.codeIn K cd11 "_law_alike" = true) (k11 : PySem.W.keepIn K (.ref f11) = true)
    (a12 : PySem.W.nsIn K mainGlobals "_law_pick" = some (some (.ref f12))) (l12 : K.lookup f12 = some ⟨oc12, od12, .func (PySem.W.fnOf "_law_pick" "_law_pick" (defArgs s_law_pick) (defBody s_law_pick) (defScope s_law_pick) .none kV12 dc12 pm12 an12 cd12 ct12), sl12⟩) (c12 : PySem.W.codeIn K cd12 "_law_pick" = true) (k12 : PySem.W.keepIn K (.ref f12) = true)
    (a13 : PySem.W.nsIn K mainGlobals "_law_labels" = some (some (.ref f13))) (l13 : K.lookup f13 = some ⟨oc13, od13, .func (PySem.W.fnOf "_law_labels" "_law_labels" (defArgs s_law_labels) (defBody s_law_labels) (defScope s_law_labels) .none kV13 dc13 pm13 an13 cd13 ct13), sl13⟩) (c13 : PySem.W.codeIn K cd13 "_law_labels" = true) (k13 : PySem.W.keepIn K (.ref f13) = true)
    (a14 : PySem.W.nsIn K mainGlobals "_law_word" = some (some (.ref f14))) (l14 : K.lookup f14 = some ⟨oc14, od14, .func (PySem.W.fnOf "_law_word" "_law_word" (defArgs s_law_word) (defBody s_law_word) (defScope s_law_word) .none kV14 dc14 pm14 an14 cd14 ct14), sl14⟩) (c14 : PySem.W.codeIn K cd14 "_law_word" = true) (k14 : PySem.W.keepIn K (.ref f14) = true)
    (a15 : PySem.W.nsIn K mainGlobals "_law_suffixes" = some (some (.ref f15))) (l15 : K.lookup f15 = some ⟨oc15, od15, .func (PySem.W.fnOf "_law_suffixes" "_law_suffixes" (defArgs s_law_suffixes) (defBody s_law_suffixes) (defScope s_law_suffixes) .none kV15 dc15 pm15 an15 cd15 ct15), sl15⟩) (c15 : PySem.W.codeIn K cd15 "_law_suffixes" = true) (k15 : PySem.W.keepIn K (.ref f15) = true)
    (a16 : PySem.W.nsIn K mainGlobals "_law_own_host" = some (some (.ref f16))) (l16 : K.lookup f16 = some ⟨oc16, od16, .func (PySem.W.fnOf "_law_own_host" "_law_own_host" (defArgs s_law_own_host) (defBody s_law_own_host) (defScope s_law_own_host) .none kV16 dc16 pm16 an16 cd16 ct16), sl16⟩) (c16 : PySem.W.codeIn K cd16 "_law_own_host" = true) (k16 : PySem.W.keepIn K (.ref f16) = true)
    (a17 : PySem.W.nsIn K mainGlobals "_law_host" = some (some (.ref f17))) (l17 : K.lookup f17 = some ⟨oc17, od17, .func (PySem.W.fnOf "_law_host" "_law_host" (defArgs s_law_host) (defBody s_law_host) (defScope s_law_host) .none kV17 dc17 pm17 an17 cd17 ct17), sl17⟩) (c17 : PySem.W.codeIn K cd17 "_law_host" = true) (k17 : PySem.W.keepIn K (.ref f17) = true)
    (a18 : PySem.W.nsIn K mainGlobals "_law_under" = some (some (.ref f18))) (l18 : K.lookup f18 = some ⟨oc18, od18, .func (PySem.W.fnOf "_law_under" "_law_under" (defArgs s_law_under) (defBody s_law_under) (defScope s_law_under) .none kV18 dc18 pm18 an18 cd18 ct18), sl18⟩) (c18 : PySem.W.codeIn K cd18 "_law_under" = true) (k18 : PySem.W.keepIn K (.ref f18) = true)
    (a19 : PySem.W.nsIn K mainGlobals "_law_candidates" = some (some (.ref f19))) (l19 : K.lookup f19 = some ⟨oc19, od19, .func (PySem.W.fnOf "_law_candidates" "_law_candidates" (defArgs s_law_candidates) (defBody s_law_candidates) (defScope s_law_candidates) .none kV19 dc19 pm19 an19 cd19 ct19), sl19⟩) (c19 : PySem.W.codeIn K cd19 "_law_candidates" = true) (k19 : PySem.W.keepIn K (.ref f19) = true)
    (a20 : PySem.W.nsIn K mainGlobals "_law_shorts" = some (some (.ref f20))) (l20 : K.lookup f20 = some ⟨oc20, od20, .func (PySem.W.fnOf "_law_shorts" "_law_shorts" (defArgs s_law_shorts) (defBody s_law_shorts) (defScope s_law_shorts) .none kV20 dc20 pm20 an20 cd20 ct20), sl20⟩) (c20 : PySem.W.codeIn K cd20 "_law_shorts" = true) (k20 : PySem.W.keepIn K (.ref f20) = true)
    (a21 : PySem.W.nsIn K mainGlobals "_law_due" = some (some (.ref f21))) (l21 : K.lookup f21 = some ⟨oc21, od21, .func (PySem.W.fnOf "_law_due" "_law_due" (defArgs s_law_due) (defBody s_law_due) (defScope s_law_due) .none kV21 dc21 pm21 an21 cd21 ct21), sl21⟩) (c21 : PySem.W.codeIn K cd21 "_law_due" = true) (k21 : PySem.W.keepIn K (.ref f21) = true)
    (a22 : PySem.W.nsIn K mainGlobals "law" = some (some (.ref f22))) (l22 : K.lookup f22 = some ⟨oc22, od22, .func (PySem.W.fnOf "law" "law" (defArgs s_law) (defBody s_law) (defScope s_law) .none kV22 dc22 pm22 an22 cd22 ct22), sl22⟩) (c22 : PySem.W.codeIn K cd22 "law" = true) (k22 : PySem.W.keepIn K (.ref f22) = true)
    (z_abs : PySem.W.nsIn K mainGlobals "abs" = some none)
    (z_len : PySem.W.nsIn K mainGlobals "len" = some none)
    (z_int : PySem.W.nsIn K mainGlobals "int" = some none)
    (z_repr : PySem.W.nsIn K mainGlobals "repr" = some none)
    (z_range : PySem.W.nsIn K mainGlobals "range" = some none)
    (z_isinstance : PySem.W.nsIn K mainGlobals "isinstance" = some none)
    (z_list : PySem.W.nsIn K mainGlobals "list" = some none)
    (z_tuple : PySem.W.nsIn K mainGlobals "tuple" = some none)
    (z_bool : PySem.W.nsIn K mainGlobals "bool" = some none)
    (z_str : PySem.W.nsIn K mainGlobals "str" = some none)
    (z_all : PySem.W.nsIn K mainGlobals "all" = some none)
    (z_set : PySem.W.nsIn K mainGlobals "set" = some none)
    (z_sorted : PySem.W.nsIn K mainGlobals "sorted" = some none) :
    ∃ fd : FuncData, (∀ (s : Shared) (v : Value), BindsTo s fd ⟨[v], []⟩ [("_law_script", v)]) ∧ ∀ base : Heap, K.In base → base.Ns mainGlobals mg → FnQ l.prog w K mg base 8 fa fd ["_law_script"] (spLaw K) := by
  have e := hfa.symm.trans (PySem.W.mg_of X G a22)
  cases e
  have F0 := fun_mk (st := s_is_integer) l0 c0 k0
  have D0 : Df K mg "is_integer" s_is_integer ["thing"] f0 _ := ⟨F0, PySem.W.mg_of X G a0, F0.binds (ps := ["thing"]) fun _ _ _ _ _ _ us hl => match us, hl with | [_], _ => rfl⟩
  have F1 := fun_mk (st := s_is_label) l1 c1 k1
  have D1 : Df K mg "is_label" s_is_label ["thing"] f1 _ := ⟨F1, PySem.W.mg_of X G a1, F1.binds (ps := ["thing"]) fun _ _ _ _ _ _ us hl => match us, hl with | [_], _ => rfl⟩
  have F2 := fun_mk (st := s_is_name) l2 c2 k2
  have D2 : Df K mg "is_name" s_is_name ["thing"] f2 _ := ⟨F2, PySem.W.mg_of X G a2, F2.binds (ps := ["thing"]) fun _ _ _ _ _ _ us hl => match us, hl with | [_], _ => rfl⟩
  have F3 := fun_mk (st := s_is_full) l3 c3 k3
  have D3 : Df K mg "is_full" s_is_full ["thing"] f3 _ := ⟨F3, PySem.W.mg_of X G a3, F3.binds (ps := ["thing"]) fun _ _ _ _ _ _ us hl => match us, hl with | [_], _ => rfl⟩
  have F4 := fun_mk (st := s_is_number) l4 c4 k4
  have D4 : Df K mg "is_number" s_is_number ["many", "thing"] f4 _ := ⟨F4, PySem.W.mg_of X G a4, F4.binds (ps := ["many", "thing"]) fun _ _ _ _ _ _ us hl => match us, hl with | [_, _], _ => rfl⟩
  have F5 := fun_mk (st := s_are_names) l5 c5 k5
  have D5 : Df K mg "are_names" s_are_names ["thing", "most", "labels"] f5 _ := ⟨F5, PySem.W.mg_of X G a5, F5.binds (ps := ["thing", "most", "labels"]) fun _ _ _ _ _ _ us hl => match us, hl with | [_, _, _], _ => rfl⟩
  have F6 := fun_mk (st := s_is_under) l6 c6 k6
  have D6 : Df K mg "is_under" s_is_under ["name", "top"] f6 _ := ⟨F6, PySem.W.mg_of X G a6, F6.binds (ps := ["name", "top"]) fun _ _ _ _ _ _ us hl => match us, hl with | [_, _], _ => rfl⟩
  have F7 := fun_mk (st := s_is_beneath) l7 c7 k7
  have D7 : Df K mg "is_beneath" s_is_beneath ["name", "top"] f7 _ := ⟨F7, PySem.W.mg_of X G a7, F7.binds (ps := ["name", "top"]) fun _ _ _ _ _ _ us hl => match us, hl with | [_, _], _ => rfl⟩
  have F8 := fun_mk (st := s_who_can) l8 c8 k8
  have D8 : Df K mg "who_can" s_who_can ["host", "name"] f8 _ := ⟨F8, PySem.W.mg_of X G a8, F8.binds (ps := ["host", "name"]) fun _ _ _ _ _ _ us hl => match us, hl with | [_, _], _ => rfl⟩
  have F9 := fun_mk (st := s_law_bag) l9 c9 k9
  have D9 : Df K mg "_law_bag" s_law_bag ["_law_script"] f9 _ := ⟨F9, PySem.W.mg_of X G a9, F9.binds (ps := ["_law_script"]) fun _ _ _ _ _ _ us hl => match us, hl with | [_], _ => rfl⟩
  have F10 := fun_mk (st := s_law_take) l10 c10 k10
  have D10 : Df K mg "_law_take" s_law_take ["_law_bag_here", "_law_many"] f10 _ := ⟨F10, PySem.W.mg_of X G a10, F10.binds (ps := ["_law_bag_here", "_law_many"]) fun _ _ _ _ _ _ us hl => match us, hl with | [_, _], _ => rfl⟩
  have F11 := fun_mk (st := s_law_alike) l11 c11 k11
  have D11 : Df K mg "_law_alike" s_law_alike ["_law_found", "_law_right"] f11 _ := ⟨F11, PySem.W.mg_of X G a11, F11.binds (ps := ["_law_found", "_law_right"]) fun _ _ _ _ _ _ us hl => match us, hl with | [_, _], _ => rfl⟩
  have F12 := fun_mk (st := s_law_pick) l12 c12 k12
  have D12 : Df K mg "_law_pick" s_law_pick ["_law_bag_here", "_law_some"] f12 _ := ⟨F12, PySem.W.mg_of X G a12, F12.binds (ps := ["_law_bag_here", "_law_some"]) fun _ _ _ _ _ _ us hl => match us, hl with | [_, _], _ => rfl⟩
  have F13 := fun_mk (st := s_law_labels) l13 c13 k13
  have D13 : Df K mg "_law_labels" s_law_labels ["_law_bag_here", "_law_many"] f13 _ := ⟨F13, PySem.W.mg_of X G a13, F13.binds (ps := ["_law_bag_here", "_law_many"]) fun _ _ _ _ _ _ us hl => match us, hl with | [_, _], _ => rfl⟩
  have F14 := fun_mk (st := s_law_word) l14 c14 k14
  have D14 : Df K mg "_law_word" s_law_word ["_law_bag_here", "_law_labels_here", "_law_least", "_law_most"] f14 _ := ⟨F14, PySem.W.mg_of X G a14, F14.binds (ps := ["_law_bag_here", "_law_labels_here", "_law_least", "_law_most"]) fun _ _ _ _ _ _ us hl => match us, hl with | [_, _, _, _], _ => rfl⟩
  have F15 := fun_mk (st := s_law_suffixes) l15 c15 k15
  have D15 : Df K mg "_law_suffixes" s_law_suffixes ["_law_bag_here", "_law_labels_here", "_law_many"] f15 _ := ⟨F15, PySem.W.mg_of X G a15, F15.binds (ps := ["_law_bag_here", "_law_labels_here", "_law_many"]) fun _ _ _ _ _ _ us hl => match us, hl with | [_, _, _], _ => rfl⟩
  have F16 := fun_mk (st := s_law_own_host) l16 c16 k16
  have D16 : Df K mg "_law_own_host" s_law_own_host ["_law_bag_here", "_law_labels_here", "_law_many"] f16 _ := ⟨F16, PySem.W.mg_of X G a16, F16.binds (ps := ["_law_bag_here", "_law_labels_here", "_law_many"]) fun _ _ _ _ _ _ us hl => match us, hl with | [_, _, _], _ => rfl⟩
  have F17 := fun_mk (st := s_law_host) l17 c17 k17
  have D17 : Df K mg "_law_host" s_law_host ["_law_own"] f17 _ := ⟨F17, PySem.W.mg_of X G a17, F17.binds (ps := ["_law_own"]) fun _ _ _ _ _ _ us hl => match us, hl with | [_], _ => rfl⟩
  have F18 := fun_mk (st := s_law_under) l18 c18 k18
  have D18 : Df K mg "_law_under" s_law_under ["_law_name", "_law_top"] f18 _ := ⟨F18, PySem.W.mg_of X G a18, F18.binds (ps := ["_law_name", "_law_top"]) fun _ _ _ _ _ _ us hl => match us, hl with | [_, _], _ => rfl⟩
  have F19 := fun_mk (st := s_law_candidates) l19 c19 k19
  have D19 : Df K mg "_law_candidates" s_law_candidates ["_law_own", "_law_short"] f19 _ := ⟨F19, PySem.W.mg_of X G a19, F19.binds (ps := ["_law_own", "_law_short"]) fun _ _ _ _ _ _ us hl => match us, hl with | [_, _], _ => rfl⟩
  have F20 := fun_mk (st := s_law_shorts) l20 c20 k20
  have D20 : Df K mg "_law_shorts" s_law_shorts ["_law_labels_here", "_law_most"] f20 _ := ⟨F20, PySem.W.mg_of X G a20, F20.binds (ps := ["_law_labels_here", "_law_most"]) fun _ _ _ _ _ _ us hl => match us, hl with | [_, _], _ => rfl⟩
  have F21 := fun_mk (st := s_law_due) l21 c21 k21
  have D21 : Df K mg "_law_due" s_law_due ["_law_own", "_law_name"] f21 _ := ⟨F21, PySem.W.mg_of X G a21, F21.binds (ps := ["_law_own", "_law_name"]) fun _ _ _ _ _ _ us hl => match us, hl with | [_, _], _ => rfl⟩
  have F22 := fun_mk (st := s_law) l22 c22 k22
  have m_abs := PySem.W.mg_none_of X G z_abs
  have m_len := PySem.W.mg_none_of X G z_len
  have m_int := PySem.W.mg_none_of X G z_int
  have m_repr := PySem.W.mg_none_of X G z_repr
  have m_range := PySem.W.mg_none_of X G z_range
  have m_isinstance := PySem.W.mg_none_of X G z_isinstance
  have m_list := PySem.W.mg_none_of X G z_list
  have m_tuple := PySem.W.mg_none_of X G z_tuple
  have m_bool := PySem.W.mg_none_of X G z_bool
  have m_str := PySem.W.mg_none_of X G z_str
  have m_all := PySem.W.mg_none_of X G z_all
  have m_set := PySem.W.mg_none_of X G z_set
  have m_sorted := PySem.W.mg_none_of X G z_sorted
  have m_LABEL_SIGNS := PySem.W.mg_of X G gl_LABEL_SIGNS
  have m_MOST_SUFFIXES := PySem.W.mg_of X G gl_MOST_SUFFIXES
  have m_SUFFIX_LABELS := PySem.W.mg_of X G gl_SUFFIX_LABELS
  have m_GREATEST_DOTS := PySem.W.mg_of X G gl_GREATEST_DOTS
  have m_Host := PySem.W.mg_of X G cC_Host
  have cl_Host : Cls K C_Host := ⟨pg_Host, hd_Host, po_Host, sa_Host⟩
  have own_Host : OwnTy K C_Host := ⟨cl_Host, oa_Host, on_Host, ot_Host, om_Host, oi_Host, os_Host, ou_Host⟩
  have M0 := fun_mk (st := s_Host_init) ml0 mc0 mk0
  have B0 := kbn_of (K := K) (fd := PySem.W.fnOf "__init__" "Host.__init__" (defArgs s_Host_init) (defBody s_Host_init) (defScope s_Host_init) .none mkV0 mdc0 mpm0 man0 mcd0 mct0) (ps := ["self", "suffixes", "dots", "stops"]) (ks := ["dots", "stops"]) (n := 2) (fun s us ws l1 l2 => match us, ws, l1, l2 with | [u0, u1], [w0, w1], _, _ => .of_eq rfl)
  have M1 := fun_mk (st := s_Host_suffixes) ml1 mc1 mk1
  have B1 := M1.binds (ps := ["self"]) fun _ _ _ _ _ _ us hl => match us, hl with | [_], _ => rfl
  have M2 := fun_mk (st := s_Host_entries) ml2 mc2 mk2
  have B2 := M2.binds (ps := ["self", "short"]) fun _ _ _ _ _ _ us hl => match us, hl with | [_, _], _ => rfl
  have M3 := fun_mk (st := s_Host_candidates) ml3 mc3 mk3
  have B3 := M3.binds (ps := ["self", "short"]) fun _ _ _ _ _ _ us hl => match us, hl with | [_, _], _ => rfl
  have M4 := fun_mk (st := s_Host_dots) ml4 mc4 mk4
  have B4 := M4.binds (ps := ["self"]) fun _ _ _ _ _ _ us hl => match us, hl with | [_], _ => rfl
  have P_dots : PropOf K C_Host "dots" pd_dots g4 := ⟨pa_dots, pb_dots, pc_dots, ⟨_, pe_dots⟩⟩
  have mk_Host : Mk K C_Host g0 := ⟨mm_Host, ma0, mi0, kc_Host⟩
  refine ⟨PySem.W.fnOf "law" "law" (defArgs s_law) (defBody s_law) (defScope s_law) .none kV22 dc22 pm22 an22 cd22 ct22, fun s v => .of_eq rfl, fun base _ _ => ?_⟩
  exact (by
    have me1 : Meth K C_Host "suffixes" g1 := ⟨ma1, mi1, mk1⟩
    have me2 : Meth K C_Host "entries" g2 := ⟨ma2, mi2, mk2⟩
    have me3 : Meth K C_Host "candidates" g3 := ⟨ma3, mi3, mk3⟩
    have G0 := ok_integer (P := l.prog) (w := w) (base := base) F0 own_Host m_isinstance m_int m_bool
    have G1 := ok_label (P := l.prog) (w := w) (base := base) F1 own_Host m_isinstance m_str m_len m_all m_LABEL_SIGNS
    have G2 := ok_name (P := l.prog) (w := w) (base := base) F2 own_Host D1 G1 m_isinstance m_tuple m_all
    have G3 := ok_full (P := l.prog) (w := w) (base := base) F3 D2 G2
    have G4 := ok_number (P := l.prog) (w := w) (base := base) F4 D0 G0
    have G5 := ok_are_names (P := l.prog) (w := w) (base := base) F5 D3 G3 m_isinstance m_list m_tuple m_len m_all m_set
    have G6 := ok_under (P := l.prog) (w := w) (base := base) F6 m_len
    have G7 := ok_beneath (P := l.prog) (w := w) (base := base) F7 D6 G6 m_len
    have I0 := ok_host_init (P := l.prog) (w := w) (base := base) M0 cl_Host na_Host_suffixes na_Host_dots na_Host_stops D5 G5 D4 G4 m_isinstance m_bool m_list m_MOST_SUFFIXES m_SUFFIX_LABELS m_GREATEST_DOTS
    have I1 := ok_suffixes (P := l.prog) (w := w) (base := base) M1 cl_Host na_Host_suffixes m_list
    have I2 := ok_entries (P := l.prog) (w := w) (base := base) M2 cl_Host na_Host_suffixes na_Host_dots m_list m_range m_len
    have I3 := ok_candidates (P := l.prog) (w := w) (base := base) M3 cl_Host na_Host_suffixes me2 I2 B2
    have I4 := ok_dots (P := l.prog) (w := w) (mg := mg) (base := base) M4 cl_Host na_Host_dots
    have G8 := ok_who (P := l.prog) (w := w) (base := base) F8 cl_Host me1 I1 B1 P_dots I4 B4 D7 G7 m_len m_sorted
    have G9 := ok_bag (P := l.prog) (w := w) (base := base) F9 m_abs
    have G10 := ok_take (P := l.prog) (w := w) (base := base) F10 m_len m_int
    have G11 := ok_alike (P := l.prog) (w := w) (base := base) F11 m_repr
    have G12 := ok_pick (P := l.prog) (w := w) (base := base) F12 D10 G10 m_len
    have G13 := ok_labels (P := l.prog) (w := w) (base := base) F13 D10 G10 m_int m_range
    have G14 := ok_word (P := l.prog) (w := w) (base := base) F14 D10 G10 D12 G12 m_tuple m_range
    have G15 := ok_suf (P := l.prog) (w := w) (base := base) F15 D10 G10 D12 G12 D14 G14 m_len m_range
    have G16 := ok_own (P := l.prog) (w := w) (base := base) F16 D10 G10 D15 G15
    have G17 := ok_host (P := l.prog) (w := w) (base := base) F17 mk_Host I0 B0 m_Host m_list
    have G18 := ok_law_under (P := l.prog) (w := w) (base := base) F18 m_len
    have G19 := ok_law_cand (P := l.prog) (w := w) (base := base) F19 m_len
    have G20 := ok_shorts (P := l.prog) (w := w) (base := base) F20 m_range m_sorted
    have G21 := ok_due (P := l.prog) (w := w) (base := base) F21 D18 G18 m_len m_sorted
    exact ok_law F22 D9 G9 D10 G10 D11 G11 D12 G12 D13 G13 D14 G14 D20 G20 D16 G16 D17 G17 D19 G19 D21 G21 D8 G8 cl_Host me3 I3 B3 m_len m_range m_int)
end K25
open PySem PySem.W PyProof.Rows
set_option maxRecDepth 100000 in
set_option maxHeartbeats 0 in
theorem PySem.Challenge.cw_listnames_k25_whole_who_can_mean_a_name_holds : PySem.Challenge.rw_listnames_k25_whole_who_can_mean_a_name.Holds := by
  w_on; o_law; k_head; (case hw => w_witness2)
  k_fill
  refine LN.walk_ofQ (l := PySem.Challenge.rw_listnames_k25_whole_who_can_mean_a_name) (n := 63) (k := 8) (x := "_law_script") (sp := fun w => K25.spLaw _) rfl (by decide) rfl ⟨rfl, by decide, by decide⟩ (fun w h Y => PySem.W.kIn_of Y) ?F (fun _ _ a ns hl _ hS => ⟨a, ns, rfl, hS, hl, fun _ => rfl⟩)
  case F =>
    intro w mg fa h KX G hmg
    refine' K25.all_mk KX G hmg ?gl_LABEL_SIGNS ?gl_MOST_SUFFIXES ?gl_SUFFIX_LABELS ?gl_GREATEST_DOTS ?cC_Host ?pa_dots ?pb_dots ?pc_dots ?pe_dots ?ma0 ?mi0 ?ml0 ?mc0 ?mk0 ?ma1 ?mi1 ?ml1 ?mc1 ?mk1 ?ma2 ?mi2 ?ml2 ?mc2 ?mk2 ?ma3 ?mi3 ?ml3 ?mc3 ?mk3 ?ml4 ?mc4 ?mk4 ?pg_Host ?hd_Host ?po_Host ?sa_Host ?mm_Host ?kc_Host ?na_Host_suffixes ?na_Host_dots ?na_Host_stops ?oa_Host ?on_Host ?ot_Host ?om_Host ?oi_Host ?os_Host ?ou_Host ?a0 ?l0 ?c0 ?k0 ?a1 ?l1 ?c1 ?k1 ?a2 ?l2 ?c2 ?k2 ?a3 ?l3 ?c3 ?k3 ?a4 ?l4 ?c4 ?k4 ?a5 ?l5 ?c5 ?k5 ?a6 ?l6 ?c6 ?k6 ?a7 ?l7 ?c7 ?k7 ?a8 ?l8 ?c8 ?k8 ?a9 ?l9 ?c9 ?k9 ?a10 ?l10 ?c10 ?k10 ?a11 ?l11 ?c11 ?k11 ?a12 ?l12 ?c12 ?k12 ?a13 ?l13 ?c13 ?k13 ?a14 ?l14 ?c14 ?k14 ?a15 ?l15 ?c15 ?k15 ?a16 ?l16 ?c16 ?k16 ?a17 ?l17 ?c17 ?k17 ?a18 ?l18 ?c18 ?k18 ?a19 ?l19 ?c19 ?k19 ?a20 ?l20 ?c20 ?k20 ?a21 ?l21 ?c21 ?k21 ?a22 ?l22 ?c22 ?k22 ?z_abs ?z_len ?z_int ?z_repr ?z_range ?z_isinstance ?z_list ?z_tuple ?z_bool ?z_str ?z_all ?z_set ?z_sorted
    (case gl_LABEL_SIGNS => k_is)
    (case gl_MOST_SUFFIXES => k_is)
    (case gl_SUFFIX_LABELS => k_is)
    (case gl_GREATEST_DOTS => k_is)
    (case cC_Host => k_is)
    (case pa_dots => k_is)
    (case pb_dots => k_is)
    (case pc_dots => k_is)
    (case pe_dots => k_is)
    (case ma0 => k_is)
    (case mi0 => k_is)
    (case ml0 => k_is)
    (case mc0 => k_is)
    (case mk0 => k_is)
    (case ma1 => k_is)
    (case mi1 => k_is)
    (case ml1 => k_is)
    (case mc1 => k_is)
    (case mk1 => k_is)
    (case ma2 => k_is)
    (case mi2 => k_is)
    (case ml2 => k_is)
    (case mc2 => k_is)
    (case mk2 => k_is)
    (case ma3 => k_is)
    (case mi3 => k_is)
    (case ml3 => k_is)
    (case mc3 => k_is)
    (case mk3 => k_is)
    (case ml4 => k_is)
    (case mc4 => k_is)
    (case mk4 => k_is)
    (case pg_Host => k_is)
    (case hd_Host => k_is)
    (case po_Host => k_is)
    (case sa_Host => k_is)
    (case mm_Host => k_is)
    (case kc_Host => k_is)
    (case na_Host_suffixes => k_is)
    (case na_Host_dots => k_is)
    (case na_Host_stops => k_is)
    (case oa_Host => k_is)
    (case on_Host => k_is)
    (case ot_Host => k_is)
    (case om_Host => k_is)
    (case oi_Host => first | kit_is | k_is)
    (case os_Host => first | kit_is | k_is)
    (case ou_Host => first | kit_is | k_is)
    (case a0 => k_is)
    (case l0 => k_is)
    (case c0 => k_is)
    (case k0 => k_is)
    (case a1 => k_is)
    (case l1 => k_is)
    (case c1 => k_is)
    (case k1 => k_is)
    (case a2 => k_is)
    (case l2 => k_is)
    (case c2 => k_is)
    (case k2 => k_is)
    (case a3 => k_is)
    (case l3 => k_is)
    (case c3 => k_is)
    (case k3 => k_is)
    (case a4 => k_is)
    (case l4 => k_is)
    (case c4 => k_is)
    (case k4 => k_is)
    (case a5 => k_is)
    (case l5 => k_is)
    (case c5 => k_is)
    (case k5 => k_is)
    (case a6 => k_is)
    (case l6 => k_is)
    (case c6 => k_is)
    (case k6 => k_is)
    (case a7 => k_is)
    (case l7 => k_is)
    (case c7 => k_is)
    (case k7 => k_is)
    (case a8 => k_is)
    (case l8 => k_is)
    (case c8 => k_is)
    (case k8 => k_is)
    (case a9 => k_is)
    (case l9 => k_is)
    (case c9 => k_is)
    (case k9 => k_is)
    (case a10 => k_is)
    (case l10 => k_is)
    (case c10 => k_is)
    (case k10 => k_is)
    (case a11 => k_is)
    (case l11 => k_is)
    (case c11 => k_is)
    (case k11 => k_is)
    (case a12 => k_is)
    (case l12 => k_is)
    (case c12 => k_is)
    (case k12 => k_is)
    (case a13 => k_is)
    (case l13 => k_is)
    (case c13 => k_is)
    (case k13 => k_is)
    (case a14 => k_is)
    (case l14 => k_is)
    (case c14 => k_is)
    (case k14 => k_is)
    (case a15 => k_is)
    (case l15 => k_is)
    (case c15 => k_is)
    (case k15 => k_is)
    (case a16 => k_is)
    (case l16 => k_is)
    (case c16 => k_is)
    (case k16 => k_is)
    (case a17 => k_is)
    (case l17 => k_is)
    (case c17 => k_is)
    (case k17 => k_is)
    (case a18 => k_is)
    (case l18 => k_is)
    (case c18 => k_is)
    (case k18 => k_is)
    (case a19 => k_is)
    (case l19 => k_is)
    (case c19 => k_is)
    (case k19 => k_is)
    (case a20 => k_is)
    (case l20 => k_is)
    (case c20 => k_is)
    (case k20 => k_is)
    (case a21 => k_is)
    (case l21 => k_is)
    (case c21 => k_is)
    (case k21 => k_is)
    (case a22 => k_is)
    (case l22 => k_is)
    (case c22 => k_is)
    (case k22 => k_is)
    (case z_abs => k_is)
    (case z_len => k_is)
    (case z_int => k_is)
    (case z_repr => k_is)
    (case z_range => k_is)
    (case z_isinstance => k_is)
    (case z_list => k_is)
    (case z_tuple => k_is)
    (case z_bool => k_is)
    (case z_str => k_is)
    (case z_all => k_is)
    (case z_set => k_is)
    (case z_sorted => k_is)
