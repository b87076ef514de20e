import PyProof.Rows.All
import Wide.All
import OpenK.AllK
import Wide.FinOn
import HandS.Base
import HandS.Call
import HandS.List
import HandS.Comp
import HandS.Ends
import HandS.Words
import HandS.Codes
import HandS.TupAny
import HandS.More
import HandS.Iter
import HandS.Text
import HandS.Dict
import HandS.WordsList
import HandS.Evl
import HandS.TupMul
import HandS.ExcValue
import HandS.ExcOwn
import HandS.DictComp
import HandS.Walk
import HandS.WordsDict
import HandS.StrMore
import HandS.Replace
import PySem.Challenge.RW_listnames_k15_least_labels
set_option Elab.async false
set_option linter.all false
set_option maxRecDepth 100000
namespace LN
open PySem PySem.Spec PyProof.Rows L2

/-! calls around which no text of a container is being made -/
abbrev Quiet (A : Around) : Prop := A.guards = some []

structure FnQ (P : Program) (w : World) (K : PySem.W.Frag) (mg : Str → Option Value) (base : Heap) (k : Nat) (f : Addr) (fd : FuncData) (ps : List Str) (sp : Sp) : Prop where
  size : ∀ vs H Q, sp vs H Q E0 → vs.length = ps.length
  go : ∀ (A : Around) (outer : List Env) (s : Shared) (H : Hp) (us : List Value) (vs : List V) (Q : VK), Quiet A → Room k A → Env0 P w K mg base A outer s H →
    BindsTo s fd ⟨us, []⟩ (ps.zip us) → Vals vs us → sp vs H Q E0 → codeAny (model P w) A (.call (.ref f) ⟨us, []⟩) (CR CX0 outer P w H s Q E0) s

section
variable {P : Program} {w : World} {K : PySem.W.Frag} {mg : Str → Option Value} {base : Heap}
theorem okQ {x qual : Str} {st : Stmt} {f : Addr} {fd : FuncData} {N ps : List Str} {k : Nat} {sp : Sp} (F : Fun K x qual st f fd) (S : FnScope N ps (defScope st))
    (size : ∀ vs H Q, sp vs H Q E0 → vs.length = ps.length)
    (body : ∀ (cdv : Value) (A : Around) (outer : List Env) (s : Shared) (H : Hp) (vs : List V) (Q : VK), Quiet A →
      Room k (A.deeper (envOfC qual (defScope st) s.heap.objs.size f cdv)) → sp vs H Q E0 →
      ∃ t, PSs (cxOf CX0 P w K mg base N qual (defScope st) f cdv A outer s H E0).nox (defBody st) t ∧ t { nx := fun _ H' => Q .non H', rt := Q } (start N vs) H) :
    FnQ P w K mg base (k + 1) f fd ps sp := by
  obtain ⟨oc, od, kV, doc, pm, an, cdv, ct, osl, rfl, lk, hcd⟩ := F.ex
  constructor
  · exact size
  intro A outer s H us vs Q quiet room env binds rel want
  have inHeap : K.In s.heap := env.mod.kin.keeps (fun b o e => (env.bs b o e).1)
  have noLim : s.heap.NoLimit := env.mod.nolimit.keeps (fun b o e => (env.bs b o e).1)
  have kinds : ∀ y ∈ ps.zip us, (defScope st).names.lookup y.1 = some .local ∨
      ((defScope st).names.lookup y.1 = some .cell ∧ ((cellsFrom (s.heap.objs.size + 1) (defScope st).names []).lookup y.1).isSome = true) := by
    intro y hy
    cases S.par y.1 (List.of_mem_zip (show (y.1, y.2) ∈ ps.zip us from hy)).1 with
    | inl q => exact .inl q
    | inr q => exact .inr ⟨q, PySem.W.cellsFrom_some _ _ _ (.inl q)⟩
  apply codeAny_call_function room.depth (inHeap _ _ lk) rfl S.co S.gen rfl (PySem.W.codeRec_of inHeap hcd) (binds _ _ _ _ _)
  apply wpAny_newFunctionEnv_cells S.kind kinds
  intro env' henv s1 entered
  subst henv
  refine ⟨noLim.keeps entered.toInCall.keep, codeAny_func ?_⟩
  obtain ⟨t, rule, reads⟩ := body cdv A outer s H vs Q quiet (room.deeper _) want
  have inv := inv_start (CX := CX0) (E := E0) S room.hd env (size _ _ _ want) rel entered
  refine wpAny_mono (rule.nox.run [] s1 (start N vs) H _ inv reads) ?_ (fun e s' hs => hs)
  intro fl s' hs
  cases fl with
  | ret u =>
    obtain ⟨v, σ', H', J, rv, q⟩ := hs
    exact ⟨v, H', J.os, J.bare, J.base, J.hok, rv, q⟩
  | next =>
    obtain ⟨σ', H', J, q⟩ := hs
    exact ⟨V.non, H', J.os, J.bare, J.base, J.hok, rfl, q⟩
  | brk =>
    obtain ⟨_, _, _, q⟩ := hs
    cases q
  | cont =>
    obtain ⟨_, _, _, q⟩ := hs
    cases q
end

section
variable {X : Cx} {k : Nat} {f : Addr} {fd : FuncData} {ps : List Str} {sp : Sp} {x : Str} {p pos : Pos} {e : Expr} {es : List Expr} {t : TA}
theorem callQ (F : FnQ X.prog X.w X.K X.mg X.base k f fd ps sp) (quiet : Quiet X.A) (room : Room k X.A) (hg : Gl X x) (hm : X.mg x = some (.ref f)) (hk : PySem.W.keepIn X.K (.ref f) = true)
    (hb : Binds X.K fd ps []) (args : PA X (e :: es) t) (hdb : (x == ("__debug__" : Str)) = false := by decide) (he : starEach (e :: es) X.env = (false, eval e X.env) :: starEach es X.env := by rfl)
    (hpl : (backTo pos (starEach es X.env)).any (·.1) = false := by rfl) : PE X (.Call (.Name x p) (e :: es) [] pos) (tCall sp [] E0 t) := by
  constructor
  intro pins s σ H Q inv want
  apply wpAny_Call_Name_kw (ld_glob inv hg hm _ hdb)
  apply PySem.W.callWith_K (h₀ := X.base) inv.ok.mod.kin hk _ he hpl
  refine thn (args.run pos pins s σ H _ inv want) ?_
  rintro us s1 ⟨vs, H1, I1, r, q⟩
  refine ⟨I1.kIn, ?_⟩
  rw [List.append_nil] at q
  have hl : us.length = ps.length := r.length.symm.trans (F.size _ _ _ q)
  have hbs := hb s1 us I1.kIn (by rw [List.append_nil]; exact hl)
  rw [List.append_nil] at hbs
  refine wpAny_call (codeAny_mono (F.go X.A X.stack s1 H1 us vs Q quiet room I1.env0 hbs r q) ?_)
  intro r' s' hq
  cases r' with
  | error e => cases (show False from hq)
  | ok fl =>
    cases fl with
    | ret u => exact I1.after hq
    | next => cases (show False from hq)
    | brk => cases (show False from hq)
    | cont => cases (show False from hq)

theorem cr_repr (quiet : Quiet X.A) (hu : X.A.units + 70 < cLine) : CallR X (.builtin "repr") (fun xs H Q => ∃ x d, xs = [x] ∧ Dp X.K H x d ∧ d.showable = true ∧ d.hasDict = false ∧ d.depth ≤ 60 ∧ d.shown.length ≤ sizeLine ∧ Q (.str d.shown) H) := by
  intro pins s σ H xs us Q inv rel want
  obtain ⟨x, d, rfl, hd, h1, h2, h3, h4, q⟩ := want
  obtain ⟨u, rfl, ru⟩ := vals1 rel
  obtain ⟨as, rd⟩ := Dp.reads inv d _ _ hd ru
  have fin : ∀ tk t, EP X pins σ Q (.str d.shown t) { s with toks := tk } := fun tk t => ⟨.str d.shown, H, inv.tok _, ⟨t, rfl⟩, q⟩
  cases hd with
  | non =>
    obtain rfl : u = Value.none := ru
    exact PySem.P.repr_of_none (fin _ _)
  | bl b =>
    obtain rfl : u = Value.bool b := ru
    exact PySem.P.repr_of_bool (fin _ _)
  | int i =>
    obtain ⟨t, rfl⟩ := ru
    exact PySem.P.repr_of_int (of_decide_eq_true h1) (fin _ _)
  | str z =>
    obtain ⟨t, rfl⟩ := ru
    exact PySem.P.repr_of_str (fin _ _) h4
  | lst q1 q2 =>
    cases ru
    refine repr_of_reads' rd h1 (PyData.noDict_hsm h2) quiet (by omega) (fun _ _ e => e) ?_ h4
    intro h' u tk hk
    exact ⟨.str (PyData.list _).shown, H, inv.un (t' := tk) (Un.kept hk) (inv.hok.kept hk), ⟨u, rfl⟩, q⟩
  | tup q1 q2 =>
    cases ru
    refine repr_of_reads' rd h1 (PyData.noDict_hsm h2) quiet (by omega) (fun _ _ e => e) ?_ h4
    intro h' u tk hk
    exact ⟨.str (PyData.tuple _).shown, H, inv.un (t' := tk) (Un.kept hk) (inv.hok.kept hk), ⟨u, rfl⟩, q⟩
end
end LN

namespace LN
open PySem PySem.Spec PyProof.Rows L2

section
variable {P : Program} {w : World} {K : PySem.W.Frag} {mg mb : Str → Option Value} {k : Nat} {fa a : Addr} {fd : FuncData} {x : Str} {sp : Sp} {s₁ : Shared} {vs : List Value} {ns : List Int}
abbrev EndsTrue (s₁ : Shared) : Result → Shared → Prop := fun r s' => r = .ok (.ret (.bool true)) ∧ PySem.OldK s₁.heap s'.heap ∧ s'.os = s₁.os ∧ AllBare s'.gens

theorem law_over (inHeap : K.In s₁.heap) (top : s₁.heap.Ns mainGlobals mg) (blt : s₁.heap.Ns builtinsNs mb) (bltIs : ∀ x : Str, x ≠ "__name__" → mb x = bootBuiltins x) (lim : s₁.heap.NoLimit) (gens : s₁.gens = #[])
    (script : s₁.heap.get? a = some { cls := .type "list", data := .seq vs.toArray }) (room : Room k callerA)
    (F : ∀ base : Heap, K.In base → base.Ns mainGlobals mg → FnQ P w K mg base k fa fd [x] sp) (bind : ∀ (s : Shared) (u : Value), BindsTo s fd ⟨[u], []⟩ [(x, u)])
    (H : Hp) (only : Only H) (held : HOk P w H s₁.heap) (there : ∀ b, H b ≠ none → b = a) (off : H a ≠ none → K.lookup a = none) (want : sp [.ref a] H (fun v _ => v = .bl true) E0) :
    codeAny (model P w) callerA (.call (.ref fa) ⟨[.ref a], []⟩) (EndsTrue s₁) s₁ := by
  have stay : ∀ {b : Addr} {o : Obj}, s₁.heap.get? b = some o → H b = none → (hidT s₁.heap H).get? b = some o := fun e n => hidT_get e n
  have notDict : ∀ {b : Addr} {o : Obj} {es : Array DictEntry} {ep : Nat}, s₁.heap.get? b = some o → o.data = .dict es ep → H b = none := by
    intro b o es ep e d
    cases q : H b with
    | none => rfl
    | some u =>
      have eb := there b (by rw [q]; exact Option.some_ne_none u)
      rw [eb, script] at e
      cases e
      cases (show Data.seq vs.toArray _ = Data.dict es ep from d)
  have spaces : ∀ {b : Addr} {m : Str → Option Value}, s₁.heap.Ns b m → (hidT s₁.heap H).Ns b m := by
    rintro b m ⟨o, es, ep, e, d, r⟩
    exact ⟨o, es, ep, stay e (notDict e d), d, r⟩
  have inHid : K.In (hidT s₁.heap H) := by
    intro b o e
    refine stay (inHeap b o e) ?_
    cases q : H b with
    | none => rfl
    | some u =>
      have eb := there b (by rw [q]; exact Option.some_ne_none u)
      have z := off (by rw [← eb, q]; exact Option.some_ne_none u)
      rw [eb, z] at e
      cases e
  have md : Mod K mg (hidT s₁.heap H) := by
    obtain ⟨mc, l1, l2⟩ := lim
    exact ⟨inHid, spaces top, ⟨mb, spaces blt, bltIs⟩, ⟨mc, spaces l1, l2⟩⟩
  have env : Env0 P w K mg (hidT s₁.heap H) callerA [] s₁ H := by
    refine ⟨rfl, md, fun b o e => of_hidT e, Nat.le_of_eq (hidT_size _ _), trivial, ?_, held, .of_eq gens⟩
    intro b hb
    exact absurd (show b ∈ ([] : List Addr) from hb) List.not_mem_nil
  refine codeAny_mono ((F _ inHid (spaces top)).go callerA [] s₁ H [.ref a] [.ref a] _ rfl room env (bind s₁ (.ref a)) (.cons rfl .nil) want) ?_
  intro r s' h
  cases r with
  | error e => cases (show False from h)
  | ok fl =>
    cases fl with
    | next => cases (show False from h)
    | brk => cases (show False from h)
    | cont => cases (show False from h)
    | ret u =>
      obtain ⟨v, H', os, bare, un, held', rv, q⟩ := h
      obtain rfl : v = .bl true := q
      obtain rfl : u = Value.bool true := rv
      refine ⟨rfl, OldK.of_keep ?_, os, bare⟩
      intro b o e
      cases q : H b with
      | none => exact un.keep b o e q (fun z => absurd (show b ∈ ([] : List Addr) from z) List.not_mem_nil) List.not_mem_nil
      | some u =>
        cases only b with
        | inl z => rw [q] at z; cases z
        | inr z =>
          obtain ⟨ob, xs, z⟩ := z
          obtain ⟨e1, _⟩ := held b _ z
          obtain ⟨e2, _⟩ := held' b _ (un.frzs b ob _ z)
          rw [e] at e1
          cases e1
          exact e2

theorem law_callQ (inHeap : K.In s₁.heap) (top : s₁.heap.Ns mainGlobals mg) (blt : s₁.heap.Ns builtinsNs mb) (bltIs : ∀ x : Str, x ≠ "__name__" → mb x = bootBuiltins x) (lim : s₁.heap.NoLimit) (gens : s₁.gens = #[])
    (script : s₁.heap.get? a = some { cls := .type "list", data := .seq vs.toArray }) (whole : IntsAre vs ns) (size : ns.length ≤ sizeLine) (room : Room k callerA)
    (F : ∀ base : Heap, K.In base → base.Ns mainGlobals mg → FnQ P w K mg base k fa fd [x] sp) (bind : ∀ (s : Shared) (u : Value), BindsTo s fd ⟨[u], []⟩ [(x, u)])
    (want : ∀ H : Hp, Only H → SqL K H a (ns.map V.int) → sp [.ref a] H (fun v _ => v = .bl true) E0) :
    codeAny (model P w) callerA (.call (.ref fa) ⟨[.ref a], []⟩) (EndsTrue s₁) s₁ := by
  have rv := vals_ints whole
  cases hk : K.lookup a with
  | some o =>
    have e := inHeap a o hk
    rw [script] at e
    cases e
    have sq : SqL K (fun _ => none) a (ns.map V.int) := by
      refine .inr ⟨_, vs.toArray, _, hk, rfl, rfl, rfl, ?_, by simpa using rv⟩
      rw [List.size_toArray, whole.length]
      exact size
    exact law_over inHeap top blt bltIs lim gens script room F bind (fun _ => none) (fun _ => .inl rfl) (fun b u z => nomatch (show (none : Option HO) = some u from z)) (fun b z => absurd rfl z) (fun z => absurd rfl z) (want _ (fun _ => .inl rfl) sq)
  | none =>
    let H : Hp := fun b => if b = a then some (.frz { cls := .type "list", data := .seq vs.toArray } (.lst (ns.map V.int))) else none
    have ha : H a = some (.frz { cls := .type "list", data := .seq vs.toArray } (.lst (ns.map V.int))) := if_pos rfl
    have hb : ∀ b, b ≠ a → H b = none := fun b n => if_neg n
    have only : Only H := by
      intro b
      by_cases e : b = a
      · rw [e]; exact .inr ⟨_, _, ha⟩
      · exact .inl (hb b e)
    refine law_over inHeap top blt bltIs lim gens script room F bind H only ?_ ?_ (fun _ => hk) (want H only (.inl (.inr ⟨_, ha⟩)))
    · intro b u z
      by_cases e : b = a
      · subst e
        rw [ha] at z
        cases z
        exact ⟨script, by rw [List.length_map]; exact size, vs, _, rv, script⟩
      · rw [hb b e] at z
        cases z
    · intro b z
      by_cases e : b = a
      · exact e
      · exact absurd (hb b e) z
end

theorem walk_ofQ {l : PySem.W.OpenLaw} {n k : Nat} {q : Program} {loose : List Str} {XP : (Str → Option Value) → Heap → Prop} {YP : World → Heap → Prop} {d : DefRec} {K : Params → PySem.W.Frag} {sp : World → Sp} {x : Str}
    (most : l.most = some n) (few : n ≤ sizeLine) (plain : d.params.defaults = []) (room : Room k callerA) (hY : ∀ (w : World) (h : Heap), YP w h → (K w.params).In h)
    (F : ∀ (w : World) (mg : Str → Option Value) (fa : Addr) (h : Heap), (K w.params).In h → h.Ns mainGlobals mg → mg d.name = some (.ref fa) →
      ∃ fd : FuncData, (∀ (s : Shared) (u : Value), BindsTo s fd ⟨[u], []⟩ [(x, u)]) ∧
        ∀ base : Heap, (K w.params).In base → base.Ns mainGlobals mg → FnQ l.prog w (K w.params) mg base k fa fd [x] (sp w))
    (want : ∀ (w : World) (H : Hp) (a : Addr) (ns : List Int), ns.length ≤ n → Only H → SqL (K w.params) H a (ns.map V.int) → sp w [.ref a] H (fun v _ => v = .bl true) E0) :
    PySem.W.WalkO q loose XP YP l.row.toRowW d [] (fun f vs => PySem.call f vs) := by
  apply Att.attach_call most plain
  intro w s₀ s₁ mg mb fa o pm cd doc a vs ns G Y ho hd hcd hmg hobj whole len gens
  obtain ⟨fd, bind, hF⟩ := F w mg fa _ (hY w _ Y) G.T.g hmg
  exact law_callQ (hY w _ Y) G.T.g G.T.b G.T.builtins G.T.nolimit gens hobj whole (Nat.le_trans len few) room hF bind (fun H only sq => want w H a ns len only sq)
end LN

namespace LN
open PySem PySem.Spec PyProof.Rows L2
theorem same_put {H : Hp} {p : Addr} {o : HO} (h : H p = none) : Same H (upd H p o) := fun b x e => by
  rw [upd_ne (ne_of_none e h)]
  exact e
theorem upd_own {H : Hp} {p : Addr} {o : HO} (h : H p = some o) : upd H p o = H := by
  funext b
  by_cases e : b = p
  · rw [e, upd_same, h]
  · rw [upd_ne e]

section
variable {X : Cx}
/-- xs[i], i counted from 0, where the store of xs[i] op= e reads it -/
theorem get_list : PGet X (fun x y H Q => ∃ p xs i v, x = .ref p ∧ y = .int (i : Nat) ∧ i < 1000 ∧ H p = some (.lst xs) ∧ xs[i]? = some v ∧ Q v H) := by
  intro pins s σ H o i ov iv Q inv ro ri want
  obtain ⟨p, xs, j, v, rfl, rfl, small, hp, at_, q⟩ := want
  obtain rfl : ov = Value.ref p := ro
  obtain ⟨t, rfl⟩ := ri
  obtain ⟨its, r, pl, hz⟩ := inv.list (.inl (.inl hp))
  obtain ⟨u, eu, ru⟩ := r.get at_
  refine wpAny_getItem_list pl.isList (Int.natCast_nonneg _) (by omega) (by simpa using eu) ?_
  exact ⟨v, H, inv, ru, q⟩

/-- text * int -/
theorem op_mulStr : OpR X (binaryOp .Mult) (fun x y H Q => ∃ z n, x = .str z ∧ y = .int n ∧ MulOk z n ∧ Q (.str (Txt.mul z n)) H) := by
  intro pins s σ H x y v u Q inv rx ry want
  obtain ⟨z, n, rfl, rfl, ok, q⟩ := want
  obtain ⟨t, rfl⟩ := rx
  obtain ⟨t', rfl⟩ := ry
  refine SB.mul ok ?_
  intro t'' k
  exact ⟨.str _, H, inv.tok _, ⟨_, rfl⟩, q⟩
end

/-- the bag of a law: four places; what is drawn next hangs on the first three -/
def Bag (b bc : Addr) (H : Hp) : Prop := ∃ (x0 x1 x2 : Int) (ns : List Int), bc ≠ b ∧ H b = some (.lst [.int x0, .int x1, .int x2, .ref bc]) ∧ H bc = some (.lst (ns.map V.int)) ∧ 0 ≤ x1 ∧ x1 < 2147483647 ∧ 0 ≤ x2
theorem Bag.same {b bc : Addr} {H H' : Hp} (h : Bag b bc H) (s : Same H H') : Bag b bc H' := by
  obtain ⟨x0, x1, x2, ns, h1, h2, h3, h4⟩ := h
  exact ⟨x0, x1, x2, ns, h1, s _ _ h2, s _ _ h3, h4⟩
/-- all that was tracked, but the bag, is as it was; the bag is one -/
structure Drew (b bc : Addr) (H H' : Hp) : Prop where
  bag : Bag b bc H'
  keep : ∀ a o, a ≠ b → H a = some o → H' a = some o
  held : ∀ a, H a ≠ none → H' a ≠ none
theorem Drew.refl {b bc : Addr} {H : Hp} (h : Bag b bc H) : Drew b bc H H := ⟨h, fun _ _ _ e => e, fun _ e => e⟩
theorem Drew.trans {b bc : Addr} {H H1 H2 : Hp} (h : Drew b bc H H1) (g : Drew b bc H1 H2) : Drew b bc H H2 := ⟨g.bag, fun a o n e => g.keep a o n (h.keep a o n e), fun a e => g.held a (h.held a e)⟩
theorem Drew.same {b bc : Addr} {H H1 H2 : Hp} (h : Drew b bc H H1) (g : Same H1 H2) : Drew b bc H H2 := ⟨h.bag.same g, fun a o n e => g a o (h.keep a o n e), fun a e z => by
  have := h.held a e
  cases q : H1 a with
  | none => exact this q
  | some o => rw [g a o q] at z; cases z⟩
theorem same_drew {b bc : Addr} {H H1 H2 : Hp} (g : Same H H1) (h : Drew b bc H1 H2) : Drew b bc H H2 := ⟨h.bag, fun a o n e => h.keep a o n (g a o e), fun a e z => by
  cases q : H a with
  | none => exact e q
  | some o => exact h.held a (by rw [g a o q]; exact Option.some_ne_none o) z⟩
theorem Drew.free {b bc : Addr} {H H' : Hp} (h : Drew b bc H H') {p : Addr} (e : H' p = none) : H p = none := by
  cases q : H p with
  | none => rfl
  | some o => exact absurd e (h.held p (by rw [q]; exact Option.some_ne_none o))
def spBag (K : PySem.W.Frag) : Sp := fun vs H Q _ => ∃ (a : Addr) (ns : List Int), vs = [.ref a] ∧ SqL K H a (ns.map V.int) ∧ ns.length ≤ 63 ∧ ∀ H' b bc, Same H H' → H b = none → H bc = none → Bag b bc H' → Q (.ref b) H'
def spTake : Sp := fun vs H Q _ => ∃ (b bc : Addr) (m : Nat), vs = [.ref b, .int m] ∧ Bag b bc H ∧ 1 ≤ m ∧ m < 1073741824 ∧ ∀ H' (r : Nat), Drew b bc H H' → r < m → Q (.int r) H'
end LN

namespace LN
open PySem PySem.Spec PyProof.Rows L2

/-! data that can be compared and shown: dep bounds how deep it is, n how long its text -/
structure Good (d : PyData) (dep n : Nat) : Prop where
  lay : d.canLay0 = true
  shows : d.showable = true
  deep : d.depth ≤ dep
  len : d.shown.length ≤ n
theorem Good.mono {d : PyData} {a b n m : Nat} (g : Good d a n) (h : a ≤ b) (h' : n ≤ m) : Good d b m := ⟨g.lay, g.shows, Nat.le_trans g.deep h, Nat.le_trans g.len h'⟩
theorem Good.bool (b : Bool) : Good (.bool b) 0 5 := by cases b <;> exact ⟨rfl, rfl, Nat.le_refl _, by decide⟩
theorem Good.none : Good .none 0 5 := ⟨rfl, rfl, Nat.le_refl _, by decide⟩
theorem Good.str {x : Str} {m : Nat} (h : PyData.strOk x = true) (l : x.length ≤ m) : Good (.str x) 0 (10 * m + 2) := by
  refine ⟨h, rfl, Nat.le_refl _, ?_⟩
  have k := StrLaws.reprText_len x (fun c hc => by
    have := Array.all_eq_true_iff_forall_mem.mp h c (Array.mem_def.mpr hc)
    have := of_decide_eq_true this
    omega)
  show (reprText x).length ≤ _
  omega
theorem piled_le {n : Nat} : ∀ {ds : List PyData}, (∀ d ∈ ds, d.shown.length ≤ n) → piled (PyData.shownAll ds) ≤ ds.length * (n + 2)
  | [], _ => Nat.zero_le _
  | d :: ds, h => by
    have ih := piled_le (ds := ds) fun x hx => h x (List.mem_cons_of_mem _ hx)
    have h1 := h d List.mem_cons_self
    show piled (d.shown :: PyData.shownAll ds) ≤ _
    rw [piled_cons, List.length_cons, Nat.succ_mul]
    omega
theorem listText_le (ts : List Str) : (listText ts).length ≤ 2 + piled ts := by
  cases ts with
  | nil => exact Nat.le_refl 2
  | cons t r =>
    have h := textFrom_length_pos r 1 (("[" : Str) ++ (if (0 : Nat) > 0 then ", " else "" : String) ++ t) (Nat.succ_pos 0)
    have e : (listText (t :: r)).length = (textFrom 1 (("[" : Str) ++ (if (0 : Nat) > 0 then ", " else "" : String) ++ t) r).length + 1 := by
      unfold listText
      rw [strLen_append]
      rfl
    have e2 : ((("[" : Str) ++ (if (0 : Nat) > 0 then ", " else "" : String) ++ t)).length = 1 + t.length := by
      rw [strLen_append, strLen_append]
      rfl
    rw [e, h, e2, piled_cons]
    omega
theorem tupleText_le (ts : List Str) : (tupleText ts).length ≤ 3 + piled ts := by
  unfold tupleText
  rw [strLen_append, strLen_append]
  have e1 : ((("(" : String) : Str)).length = 1 := rfl
  have e3 : (((if ts.length == 1 then ",)" else ")" : String) : Str)).length ≤ 2 := by split <;> decide
  rw [e1]
  by_cases h : ts = []
  · subst h
    have : (Str.join (", " : String) []).length = 0 := rfl
    omega
  · have := join_length_add ts h
    omega
theorem all_lay {ds : List PyData} (h : ∀ d ∈ ds, d.canLay0 = true) : PyData.canLayAll0 ds = true := by
  induction ds with
  | nil => rfl
  | cons d ds ih =>
    show (d.canLay0 && PyData.canLayAll0 ds) = true
    rw [h d List.mem_cons_self, ih fun x hx => h x (List.mem_cons_of_mem _ hx)]
    rfl
theorem all_shows {ds : List PyData} (h : ∀ d ∈ ds, d.showable = true) : PyData.showableAll ds = true := by
  induction ds with
  | nil => rfl
  | cons d ds ih =>
    show (d.showable && PyData.showableAll ds) = true
    rw [h d List.mem_cons_self, ih fun x hx => h x (List.mem_cons_of_mem _ hx)]
    rfl
theorem all_deep {ds : List PyData} {k : Nat} (h : ∀ d ∈ ds, d.depth ≤ k) : PyData.depthAll ds ≤ k := by
  induction ds with
  | nil => exact Nat.zero_le _
  | cons d ds ih =>
    show max d.depth (PyData.depthAll ds) ≤ k
    exact Nat.max_le.mpr ⟨h d List.mem_cons_self, ih fun x hx => h x (List.mem_cons_of_mem _ hx)⟩
theorem Good.list {ds : List PyData} {k n m : Nat} (h : ∀ d ∈ ds, Good d k n) (l : ds.length ≤ m) : Good (.list ds) (k + 1) (2 + m * (n + 2)) := by
  refine ⟨all_lay fun d hd => (h d hd).lay, all_shows fun d hd => (h d hd).shows, Nat.succ_le_succ (all_deep fun d hd => (h d hd).deep), ?_⟩
  show (listText (PyData.shownAll ds)).length ≤ _
  have h1 := listText_le (PyData.shownAll ds)
  have h2 := piled_le fun d hd => (h d hd).len
  have h3 := Nat.mul_le_mul_right (n + 2) l
  omega
theorem Good.tuple {ds : List PyData} {k n m : Nat} (h : ∀ d ∈ ds, Good d k n) (l : ds.length ≤ m) : Good (.tuple ds) (k + 1) (3 + m * (n + 2)) := by
  refine ⟨all_lay fun d hd => (h d hd).lay, all_shows fun d hd => (h d hd).shows, Nat.succ_le_succ (all_deep fun d hd => (h d hd).deep), ?_⟩
  show (tupleText (PyData.shownAll ds)).length ≤ _
  have h1 := tupleText_le (PyData.shownAll ds)
  have h2 := piled_le fun d hd => (h d hd).len
  have h3 := Nat.mul_le_mul_right (n + 2) l
  omega
theorem Good.shaped {d : PyData} {k n : Nat} (g : Good d k n) (h : k ≤ 60) : SeqAt.shaped d = true := by
  unfold SeqAt.shaped
  rw [g.lay, decide_eq_true (Nat.le_trans g.deep (Nat.le_trans h (by decide)))]
  rfl
theorem Good.noDict {d : PyData} {k n : Nat} (g : Good d k n) : d.hasDict = false := PyData.hasDict_of_canLay d g.lay
theorem Good.self {d : PyData} {k n : Nat} (g : Good d k n) : PyData.eqv d d = true := SeqAt.eqv_refl d g.lay

/-! labels and names -/
structure Lab (x : Str) : Prop where
  ok : PyData.strOk x = true
  few : x.length ≤ 20
abbrev Labs (l : List Str) : Prop := ∀ x ∈ l, Lab x
def nameD (l : List Str) : PyData := .tuple (l.map PyData.str)
theorem good_name {l : List Str} (h : Labs l) (n : l.length ≤ 100) : Good (nameD l) 1 20500 := by
  have g : ∀ d ∈ l.map PyData.str, Good d 0 202 := fun d hd => by
    obtain ⟨x, hx, rfl⟩ := List.mem_map.mp hd
    exact Good.str (h x hx).ok (h x hx).few
  exact (Good.tuple g (m := 100) (by rw [List.length_map]; exact n)).mono (Nat.le_refl _) (by decide)
theorem good_names {ls : List (List Str)} (h : ∀ l ∈ ls, Labs l ∧ l.length ≤ 100) (n : ls.length ≤ 100) : Good (.list (ls.map nameD)) 2 2100000 := by
  have g : ∀ d ∈ ls.map nameD, Good d 1 20500 := fun d hd => by
    obtain ⟨x, hx, rfl⟩ := List.mem_map.mp hd
    exact good_name (h x hx).1 (h x hx).2
  exact (Good.list g (m := 100) (by rw [List.length_map]; exact n)).mono (Nat.le_refl _) (by decide)
theorem good_bools {bs : List Bool} (n : bs.length ≤ 1000) : Good (.list (bs.map PyData.bool)) 1 7002 := by
  have g : ∀ d ∈ bs.map PyData.bool, Good d 0 5 := fun d hd => by
    obtain ⟨x, _, rfl⟩ := List.mem_map.mp hd
    exact Good.bool x
  exact (Good.list g (m := 1000) (by rw [List.length_map]; exact n)).mono (Nat.le_refl _) (by decide)
theorem Labs.take {l : List Str} (h : Labs l) (n : Nat) : Labs (l.take n) := fun x hx => h x (List.mem_of_mem_take hx)
theorem Labs.drop {l : List Str} (h : Labs l) (n : Nat) : Labs (l.drop n) := fun x hx => h x (List.mem_of_mem_drop hx)
theorem Labs.append {l m : List Str} (h : Labs l) (g : Labs m) : Labs (l ++ m) := fun x hx => (List.mem_append.mp hx).elim (h x) (g x)
theorem Labs.cons {x : Str} {l : List Str} (h : Lab x) (g : Labs l) : Labs (x :: l) := fun y hy => (List.mem_cons.mp hy).elim (fun e => e ▸ h) (g y)
theorem Labs.nil : Labs [] := fun _ h => absurd h List.not_mem_nil

section
variable {K : PySem.W.Frag} {H H' : Hp}
theorem same_rd {a : Addr} {o : HO} (s : Same H H') (h : Rd H a o) : Rd H' a o := h.elim (fun e => .inl (s _ _ e)) fun ⟨u, e⟩ => .inr ⟨u, s _ _ e⟩
theorem same_seqT {a : Addr} {xs : List V} (s : Same H H') (h : SqT K H a xs) : SqT K H' a xs := h.elim (fun e => .inl (same_rd s e)) .inr
mutual
theorem dp_same (s : Same H H') : ∀ {d : PyData} {v : V}, Dp K H v d → Dp K H' v d
  | _, _, .non => .non
  | _, _, .bl b => .bl b
  | _, _, .int i => .int i
  | _, _, .str x => .str x
  | _, _, .lst q r => .lst (Same.seq s q) (dpa_same s r)
  | _, _, .tup q r => .tup (same_seqT s q) (dpa_same s r)
theorem dpa_same (s : Same H H') : ∀ {ds : List PyData} {vs : List V}, DpAll K H vs ds → DpAll K H' vs ds
  | _, _, .nil => .nil
  | _, _, .cons q r => .cons (dp_same s q) (dpa_same s r)
end
theorem dpa_append : ∀ {vs ws : List V} {ds es : List PyData}, DpAll K H vs ds → DpAll K H ws es → DpAll K H (vs ++ ws) (ds ++ es)
  | _, _, _, _, .nil, g => g
  | _, _, _, _, .cons q r, g => .cons q (dpa_append r g)
theorem dpa_len : ∀ {vs : List V} {ds : List PyData}, DpAll K H vs ds → vs.length = ds.length
  | _, _, .nil => rfl
  | _, _, .cons _ r => congrArg Nat.succ (dpa_len r)
theorem dpa_snoc {vs : List V} {ds : List PyData} {v : V} {d : PyData} (h : DpAll K H vs ds) (g : Dp K H v d) : DpAll K H (vs ++ [v]) (ds ++ [d]) := dpa_append h (.cons g .nil)
theorem dp_strs : ∀ l : List Str, DpAll K H (l.map V.str) (l.map PyData.str)
  | [] => .nil
  | x :: l => .cons (.str x) (dp_strs l)
theorem dp_bools : ∀ l : List Bool, DpAll K H (l.map V.bl) (l.map PyData.bool)
  | [] => .nil
  | x :: l => .cons (.bl x) (dp_bools l)
/-- the name l stands at a -/
abbrev Nm (K : PySem.W.Frag) (H : Hp) (a : Addr) (l : List Str) : Prop := SqT K H a (l.map V.str)
theorem nm_dp {a : Addr} {l : List Str} (h : Nm K H a l) : Dp K H (.ref a) (nameD l) := .tup h (dp_strs l)
theorem Drew.nm {b bc a : Addr} {l : List Str} (s : Drew b bc H H') (hb : ∃ xs, H b = some (.lst xs)) (h : Nm K H a l) : Nm K H' a l := by
  obtain ⟨xs, hb⟩ := hb
  rcases h with (h | ⟨o, h⟩) | h
  · exact .inl (.inl (s.keep a _ (ne_of h hb (by intro z; cases z)) h))
  · exact .inl (.inr ⟨o, s.keep a _ (ne_of h hb (by intro z; cases z)) h⟩)
  · exact .inr h
theorem Bag.lst {b bc : Addr} (h : Bag b bc H) : ∃ xs, H b = some (.lst xs) := by
  obtain ⟨_, _, _, _, _, h, _⟩ := h
  exact ⟨_, h⟩
end

/-- a def of the text, by its name -/
structure Df (K : PySem.W.Frag) (mg : Str → Option Value) (x : Str) (st : Stmt) (ps : List Str) (f : Addr) (fd : FuncData) : Prop where
  F : Fun K x x st f fd
  g : mg x = some (.ref f)
  b : Binds K fd ps []
section
variable {X : Cx} {k : Nat} {f : Addr} {fd : FuncData} {ps : List Str} {sp : Sp} {x : Str} {st : Stmt} {p pos : Pos} {e : Expr} {es : List Expr} {t : TA}
theorem pcall (D : Df X.K X.mg x st ps f fd) (G : FnOk X.prog X.w X.K X.mg X.base CX0 k f fd ps sp) (hr : Room k X.A) (ha : PA X (e :: es) t) (hg : Gl X x := by rfl) (hdb : (x == ("__debug__" : Str)) = false := by decide)
    (he : starEach (e :: es) X.env = (false, eval e X.env) :: starEach es X.env := by rfl) (hpl : (backTo pos (starEach es X.env)).any (·.1) = false := by rfl) : PE X (.Call (.Name x p) (e :: es) [] pos) (tCall sp [] E0 t) :=
  pe_call G hr hg D.g D.F.kp D.b .nil pass0 ha hdb he hpl
theorem qcall (D : Df X.K X.mg x st ps f fd) (G : FnQ X.prog X.w X.K X.mg X.base k f fd ps sp) (q : Quiet X.A) (hr : Room k X.A) (ha : PA X (e :: es) t) (hg : Gl X x := by rfl) (hdb : (x == ("__debug__" : Str)) = false := by decide)
    (he : starEach (e :: es) X.env = (false, eval e X.env) :: starEach es X.env := by rfl) (hpl : (backTo pos (starEach es X.env)).any (·.1) = false := by rfl) : PE X (.Call (.Name x p) (e :: es) [] pos) (tCall sp [] E0 t) :=
  callQ G q hr hg D.g D.F.kp D.b ha hdb he hpl
end
/-- two things with the same data are alike -/
def spAlike (K : PySem.W.Frag) : Sp := fun vs H Q _ => ∃ (x y : V) (d : PyData) (k n : Nat), vs = [x, y] ∧ Dp K H x d ∧ Dp K H y d ∧ Good d k n ∧ k ≤ 60 ∧ n ≤ sizeLine ∧ Q (.bl true) H
end LN
namespace LN
open PySem PySem.Spec PyProof.Rows L2
section
variable {K : PySem.W.Frag} {H H' : Hp}
theorem drew_seq {b bc l : Addr} {xs : List V} (s : Drew b bc H H') (n : l ≠ b) (h : SqL K H l xs) : SqL K H' l xs := by
  rcases h with (h | ⟨o, h⟩) | h
  · exact .inl (.inl (s.keep l _ n h))
  · exact .inl (.inr ⟨o, s.keep l _ n h⟩)
  · exact .inr h
end
def spPick (K : PySem.W.Frag) : Sp := fun vs H Q _ => ∃ (b bc l : Addr) (xs : List V), vs = [.ref b, .ref l] ∧ Bag b bc H ∧ l ≠ b ∧ SqL K H l xs ∧ 1 ≤ xs.length ∧ xs.length ≤ 1000 ∧ ∀ H' (i : Nat) v, Drew b bc H H' → xs[i]? = some v → Q v H'
def spUnder (K : PySem.W.Frag) : Sp := fun vs H Q _ => ∃ (a c : Addr) (n t : List Str), vs = [.ref a, .ref c] ∧ Nm K H a n ∧ Nm K H c t ∧ Labs n ∧ Labs t ∧ n.length ≤ 100 ∧ t.length ≤ 100 ∧ ∀ H', Same H H' → Q (.bl (decide (t <:+ n))) H'
def spBeneath (K : PySem.W.Frag) : Sp := fun vs H Q _ => ∃ (a c : Addr) (n t : List Str), vs = [.ref a, .ref c] ∧ Nm K H a n ∧ Nm K H c t ∧ Labs n ∧ Labs t ∧ n.length ≤ 100 ∧ t.length ≤ 100 ∧ ∀ H', Same H H' → Q (.bl (decide (t.length < n.length ∧ t <:+ n))) H'
def tails (n : List Str) : List (List Str) := (List.range (n.length + 1)).map fun k => n.drop k
def spTops (K : PySem.W.Frag) : Sp := fun vs H Q _ => ∃ (a : Addr) (n : List Str), vs = [.ref a] ∧ Nm K H a n ∧ Labs n ∧ n.length ≤ 100 ∧ ∀ H' p vs, Same H H' → H p = none → H' p = some (.lst vs) → DpAll K H' vs ((tails n).map nameD) → Q (.ref p) H'
theorem eqv_str (x y : Str) : PyData.eqv (.str x) (.str y) = decide (x = y) := by
  show (x == y) = decide (x = y)
  by_cases h : x = y
  · subst h
    simp
  · simp [h]
theorem eqv_strs : ∀ (a b : List Str), PyData.eqvAll (a.map PyData.str) (b.map PyData.str) = decide (a = b)
  | [], [] => rfl
  | [], _ :: _ => rfl
  | _ :: _, [] => rfl
  | x :: a, y :: b => by
    show (PyData.eqv (.str x) (.str y) && PyData.eqvAll (a.map PyData.str) (b.map PyData.str)) = _
    rw [eqv_str, eqv_strs a b]
    by_cases h : x = y
    · by_cases g : a = b <;> simp [h, g]
    · simp [h]
theorem eqv_name (a b : List Str) : PyData.eqv (nameD a) (nameD b) = decide (a = b) := eqv_strs a b
end LN
namespace LN
open PySem PySem.Spec PyProof.Rows L2
section
variable {K : PySem.W.Frag} {H H' : Hp}
/-! data without lists: what the change of a list does not touch -/
mutual
def noLst : PyData → Bool
  | .list _ => false
  | .tuple xs => noLsts xs
  | _ => true
def noLsts : List PyData → Bool
  | [] => true
  | d :: ds => noLst d && noLsts ds
end
mutual
theorem dp_put {D : Addr} {ys zs : List V} (e : H D = some (.lst ys)) : ∀ {d : PyData} {v : V}, Dp K H v d → noLst d = true → Dp K (upd H D (.lst zs)) v d
  | _, _, .non, _ => .non
  | _, _, .bl b, _ => .bl b
  | _, _, .int i, _ => .int i
  | _, _, .str x, _ => .str x
  | _, _, .lst q r, h => absurd h (by simp [noLst])
  | _, _, .tup q r, h => by
    refine .tup ?_ (dpa_put e r (by simpa [noLst] using h))
    rcases q with (q | ⟨o, q⟩) | q
    · exact .inl (.inl (by rw [upd_ne (ne_of q e (by intro z; cases z))]; exact q))
    · exact .inl (.inr ⟨o, by rw [upd_ne (ne_of q e (by intro z; cases z))]; exact q⟩)
    · exact .inr q
theorem dpa_put {D : Addr} {ys zs : List V} (e : H D = some (.lst ys)) : ∀ {ds : List PyData} {vs : List V}, DpAll K H vs ds → noLsts ds = true → DpAll K (upd H D (.lst zs)) vs ds
  | _, _, .nil, _ => .nil
  | _, _, .cons q r, h => by
    have h' : (noLst _ && noLsts _) = true := h
    rw [Bool.and_eq_true] at h'
    exact .cons (dp_put e q h'.1) (dpa_put e r h'.2)
end
theorem strs_noLst : ∀ l : List Str, noLsts (l.map PyData.str) = true
  | [] => rfl
  | x :: l => strs_noLst l
theorem names_noLst : ∀ ls : List (List Str), noLsts (ls.map nameD) = true
  | [] => rfl
  | l :: ls => by
    show (noLsts (l.map PyData.str) && noLsts (ls.map nameD)) = true
    rw [strs_noLst, names_noLst ls]
    rfl
end
end LN
namespace LN
open PySem PySem.Spec PyProof.Rows L2
theorem strOk_cat {x y : Str} (h : PyData.strOk x = true) (g : PyData.strOk y = true) : PyData.strOk (x ++ y) = true := by
  have h' : x.cps.all (· < 0x110000) = true := h
  have g' : y.cps.all (· < 0x110000) = true := g
  show (x.cps ++ y.cps).all (· < 0x110000) = true
  rw [Array.all_append, h', g']
  rfl
theorem mulOk0 (x : Str) : MulOk x 0 := ⟨by decide, fun h => absurd (by decide) h, fun h => absurd (by decide) h⟩
theorem mulOk1 (x : Str) : MulOk x 1 := ⟨by decide, fun _ h => absurd h (by simp), fun _ h => absurd h (by simp)⟩
theorem mul_0 (x : Str) : Txt.mul x 0 = Str.empty := rfl
theorem mul_1 (x : Str) : Txt.mul x 1 = x := rfl
theorem mul_few {x : Str} {k : Int} (h0 : 0 ≤ k) (h2 : k < 2) : MulOk x k ∧ (Txt.mul x k = Str.empty ∨ Txt.mul x k = x) := by
  have : k = 0 ∨ k = 1 := by omega
  rcases this with rfl | rfl
  · exact ⟨mulOk0 x, .inl rfl⟩
  · exact ⟨mulOk1 x, .inr rfl⟩
def stems : List Str := ["", "a", "zzzzzzz", "aaaaaaa"]
theorem stem_ok : ∀ x ∈ stems, PyData.strOk x = true ∧ x.length ≤ 7 := by decide +kernel
def letters : Str := "abcdefghijklmnopqrstuvwxyz"
theorem letters_at {i : Nat} (h : i < 26) : ∃ c, letters.cps[i]? = some c ∧ c < 0x110000 := by
  have all : ∀ j, j < 26 → ((letters.cps[j]?).elim false fun c => decide (c < 0x110000)) = true := by decide +kernel
  have := all i h
  cases e : letters.cps[i]? with
  | none => rw [e] at this; cases this
  | some c => rw [e] at this; exact ⟨c, rfl, of_decide_eq_true this⟩
theorem strOk_one {c : Nat} (h : c < 0x110000) : PyData.strOk ⟨#[c]⟩ = true := by
  show (#[c] : Array Nat).all (· < 0x110000) = true
  simp [h]
def spLabels : Sp := fun vs H Q _ => ∃ (b bc : Addr) (n : Nat), vs = [.ref b, .int n] ∧ Bag b bc H ∧ n ≤ 100 ∧
  ∀ H' p (ls : List Str), Drew b bc H H' → H p = none → H' p = some (.lst (ls.map V.str)) → Labs ls → (∀ x ∈ ls, x.length ≤ 10) → ls.length = n → Q (.ref p) H'
theorem bag_put {b bc D : Addr} {H : Hp} {o : HO} (h : Bag b bc H) (n : D ≠ b) (n2 : D ≠ bc) : Bag b bc (upd H D o) := by
  obtain ⟨x0, x1, x2, ns, h1, h2, h3, h4⟩ := h
  refine ⟨x0, x1, x2, ns, h1, by rw [upd_ne n.symm]; exact h2, by rw [upd_ne n2.symm]; exact h3, h4⟩
theorem Bag.there {b bc : Addr} {H : Hp} (h : Bag b bc H) : H b ≠ none ∧ H bc ≠ none := by
  obtain ⟨x0, x1, x2, ns, h1, h2, h3, h4⟩ := h
  rw [h2, h3]
  exact ⟨Option.some_ne_none _, Option.some_ne_none _⟩
theorem Bag.apart {b bc D : Addr} {H : Hp} (h : Bag b bc H) (e : H D = none) : D ≠ b ∧ D ≠ bc := ⟨fun z => h.there.1 (z ▸ e), fun z => h.there.2 (z ▸ e)⟩
/-- a list that was made behind H is changed -/
theorem Drew.put {b bc D : Addr} {H G : Hp} {o : HO} (d : Drew b bc H G) (h : Bag b bc H) (e : H D = none) : Drew b bc H (upd G D o) := by
  have n := h.apart e
  refine ⟨bag_put d.bag n.1 n.2, fun a u ne q => ?_, fun a q z => ?_⟩
  · rw [upd_ne (ne_of_none q e)]
    exact d.keep a u ne q
  · by_cases ea : a = D
    · rw [ea] at q
      exact q e
    · rw [upd_ne ea] at z
      exact d.held a q z
end LN
namespace LN
open PySem PySem.Spec PyProof.Rows L2
def spWord (K : PySem.W.Frag) : Sp := fun vs H Q _ => ∃ (b bc l : Addr) (ls : List Str) (lo hi : Nat), vs = [.ref b, .ref l, .int lo, .int hi] ∧ Bag b bc H ∧ l ≠ b ∧ SqL K H l (ls.map V.str) ∧ Labs ls ∧ 1 ≤ ls.length ∧ ls.length ≤ 1000 ∧ lo ≤ hi ∧ hi ≤ 90 ∧
  ∀ H' p nm, Drew b bc H H' → Nm K H' p nm → Labs nm → lo ≤ nm.length → nm.length ≤ hi → Q (.ref p) H'
def spMore (K : PySem.W.Frag) : Sp := fun vs H Q _ => ∃ (b bc l : Addr) (ls : List Str), vs = [.ref b, .ref l] ∧ Bag b bc H ∧ l ≠ b ∧ H l = some (.lst (ls.map V.str)) ∧ Labs ls ∧ (∀ x ∈ ls, x.length ≤ 10) ∧ 1 ≤ ls.length ∧ ls.length ≤ 100 ∧
  ∀ H' p ms, Drew b bc H H' → H p = none → H' p = some (.lst (ms.map V.str)) → Labs ms → 1 ≤ ms.length → ms.length ≤ 101 → Q (.ref p) H'
def spNear (K : PySem.W.Frag) : Sp := fun vs H Q _ => ∃ (b bc l a : Addr) (ls nm : List Str), vs = [.ref b, .ref l, .ref a] ∧ Bag b bc H ∧ l ≠ b ∧ SqL K H l (ls.map V.str) ∧ Labs ls ∧ 1 ≤ ls.length ∧ ls.length ≤ 1000 ∧ Nm K H a nm ∧ Labs nm ∧ nm.length ≤ 90 ∧
  ∀ H' p rs, Drew b bc H H' → Nm K H' p rs → Labs rs → rs.length ≤ nm.length + 1 → Q (.ref p) H'
def spRight (K : PySem.W.Frag) : Sp := fun vs H Q _ => ∃ (a c : Addr) (n t : List Str), vs = [.ref a, .ref c] ∧ Nm K H a n ∧ Nm K H c t ∧ Labs n ∧ Labs t ∧ n.length ≤ 49 ∧ t.length ≤ 49 ∧ ∀ H', Same H H' → Q (.bl true) H'
end LN
namespace LN
open PySem PySem.Spec PyProof.Rows L2
section
variable {X : Cx}
/-- t[lo:hi], the whole and any other part alike -/
def rSlD (K : PySem.W.Frag) : V → Option Int → Option Int → Hp → VK → Prop := fun x lo hi H Q => ∃ a xs, x = .ref a ∧ SqT K H a xs ∧ ∀ p H', Same H H' → SqT K H' p (cutV xs lo hi) → Q (.ref p) H'
theorem sl_tupD : SlR X (rSlD X.K) := by
  intro pins s σ H x v vl vu lo hi sl Q inv rx hs pl pu want
  obtain ⟨a, xs, rfl, hx, q⟩ := want
  refine sl_tupA pins s σ H _ v vl vu lo hi sl Q inv rx hs pl pu ⟨a, xs, rfl, hx, fun hw => q a H (Same.refl H) ?_, fun _ p np => q p _ (same_put np) (.inl (.inl upd_same))⟩
  have e : cutV xs lo hi = xs := by
    unfold cutV
    rw [hw.1, hw.2]
    simp
  rw [e]
  exact hx
/-- t + u, empty ones too -/
def rCatD (K : PySem.W.Frag) : R2 := fun x y H Q => ∃ a b xs ys, x = .ref a ∧ y = .ref b ∧ SqT K H a xs ∧ SqT K H b ys ∧ xs.length + ys.length ≤ sizeLine ∧ ∀ p H', Same H H' → SqT K H' p (xs ++ ys) → Q (.ref p) H'
theorem op_catD : OpR X (binaryOp .Add) (rCatD X.K) := by
  intro pins s σ H x y v u Q inv rx ry want
  obtain ⟨a, b, xs, ys, rfl, rfl, ha, hb, hz, q⟩ := want
  refine op_catA pins s σ H _ _ v u Q inv rx ry ⟨a, b, xs, ys, rfl, rfl, ha, hb, hz, fun e => q b H (Same.refl H) ?_, fun _ e => q a H (Same.refl H) ?_, fun _ _ p np => q p _ (same_put np) (.inl (.inl upd_same))⟩
  · rw [e]
    exact hb
  · rw [e, List.append_nil]
    exact ha
end
theorem cut_to {xs : List V} {k : Nat} : cutV xs none (some (k : Int)) = xs.take k := by
  unfold cutV
  rw [HT.sIx_none, HT.sIx_nat, List.drop_zero]
  by_cases h : k ≤ xs.length
  · rw [Nat.min_eq_left h, Nat.sub_zero]
  · rw [Nat.min_eq_right (by omega), Nat.sub_zero, List.take_length, List.take_of_length_le (by omega)]
theorem cut_from {xs : List V} {k : Nat} : cutV xs (some (k : Int)) none = xs.drop k := by
  unfold cutV
  rw [HT.sIx_none, HT.sIx_nat]
  by_cases h : k ≤ xs.length
  · rw [Nat.min_eq_left h]
    exact List.take_of_length_le (by simp)
  · rw [Nat.min_eq_right (by omega), List.drop_length, List.drop_of_length_le (by omega), List.take_nil]
end LN
namespace LN
open PySem PySem.Spec PyProof.Rows L2
section
variable {K : PySem.W.Frag} {H H' : Hp}
theorem dpa_strs : ∀ {l : List Str} {vs : List V}, DpAll K H vs (l.map PyData.str) → vs = l.map V.str
  | [], _, .nil => rfl
  | x :: l, _, .cons q r => by
    have e := dpa_strs (l := l) r
    cases q
    rw [e]
    rfl
theorem dp_nm {v : V} {l : List Str} (h : Dp K H v (nameD l)) : ∃ a, v = .ref a ∧ Nm K H a l := by
  have h' : Dp K H v (.tuple (l.map PyData.str)) := h
  cases h' with
  | tup q r =>
    have e := dpa_strs r
    rw [e] at q
    exact ⟨_, rfl, q⟩
theorem dpa_get : ∀ {vs : List V} {ds : List PyData} {i : Nat} {v : V}, DpAll K H vs ds → vs[i]? = some v → ∃ d, ds[i]? = some d ∧ Dp K H v d
  | _, _, _, _, .nil, e => by simp at e
  | _, _, 0, _, .cons q r, e => by
    have e' := Option.some.inj e
    exact ⟨_, rfl, e' ▸ q⟩
  | _, _, i + 1, _, .cons q r, e => by
    obtain ⟨d, h1, h2⟩ := dpa_get (i := i) r (by simpa using e)
    exact ⟨d, by simpa using h1, h2⟩
end
def heads (n : List Str) (i : Nat) : List (List Str) := (List.range i).map fun k => n.take k
def fits (n t : List Str) (i : Nat) : List (List Str) := (heads n i).filter fun h => decide (h ++ t = n)
theorem one_fit (n t h : List Str) : [h].filter (fun h => decide (h ++ t = n)) = if h ++ t = n then [h] else [] := by
  by_cases y : h ++ t = n
  · rw [if_pos y]
    simp [y]
  · rw [if_neg y]
    simp [y]
theorem range_only (c : Nat) : ∀ m, (List.range m).filter (fun k => decide (k = c)) = if c < m then [c] else []
  | 0 => rfl
  | m + 1 => by
    rw [List.range_succ, List.filter_append, range_only c m]
    by_cases h : c < m
    · rw [if_pos h, if_pos (by omega), List.filter_cons_of_neg (by simp; omega)]
      rfl
    · rw [if_neg h]
      by_cases e : m = c
      · subst e
        rw [if_pos (by omega), List.filter_cons_of_pos (by simp)]
        rfl
      · rw [if_neg (by omega), List.filter_cons_of_neg (by simp; exact e)]
        rfl
theorem take_fits {n t : List Str} {k : Nat} (h : k ≤ n.length) : n.take k ++ t = n ↔ t <:+ n ∧ k = n.length - t.length := by
  constructor
  · intro e
    have l := congrArg List.length e
    rw [List.length_append, List.length_take, Nat.min_eq_left h] at l
    exact ⟨⟨_, e⟩, by omega⟩
  · rintro ⟨⟨z, rfl⟩, rfl⟩
    have e : (z ++ t).length - t.length = z.length := by rw [List.length_append]; omega
    rw [e, List.take_left]
theorem fits_all {n t : List Str} : fits n t (n.length + 1) = if t <:+ n then [n.take (n.length - t.length)] else [] := by
  have e : fits n t (n.length + 1) = ((List.range (n.length + 1)).filter fun k => decide (t <:+ n ∧ k = n.length - t.length)).map fun k => n.take k := by
    unfold fits heads
    rw [List.filter_map]
    congr 1
    apply List.filter_congr
    intro k hk
    have := List.mem_range.mp hk
    exact decide_eq_decide.mpr (take_fits (by omega))
  rw [e]
  by_cases s : t <:+ n
  · rw [if_pos s]
    have e2 : (fun k => decide (t <:+ n ∧ k = n.length - t.length)) = fun k => decide (k = n.length - t.length) := by
      funext k
      exact decide_eq_decide.mpr ⟨fun z => z.2, fun z => ⟨s, z⟩⟩
    rw [e2, range_only, if_pos (by omega)]
    rfl
  · rw [if_neg s]
    have e2 : (fun k => decide (t <:+ n ∧ k = n.length - t.length)) = fun _ => false := by
      funext k
      exact decide_eq_false fun z => s z.1
    rw [e2, List.filter_eq_nil_iff.mpr (fun _ _ => Bool.false_ne_true)]
    rfl
end LN
namespace LN
open PySem PySem.Spec PyProof.Rows L2
/-- a tuple of two names -/
def Two (K : PySem.W.Frag) (H : Hp) (x : V) : Prop := ∃ (t u v : Addr) (n m : List Str), x = .ref t ∧ H t = some (.tup [.ref u, .ref v]) ∧ Nm K H u n ∧ Nm K H v m ∧ Labs n ∧ Labs m ∧ n.length ≤ 49 ∧ m.length ≤ 49
theorem Two.same {K : PySem.W.Frag} {H H' : Hp} {x : V} (h : Two K H x) (s : Same H H') : Two K H' x := by
  obtain ⟨t, u, v, n, m, e, h1, h2, h3, h4⟩ := h
  exact ⟨t, u, v, n, m, e, s _ _ h1, same_seqT s h2, same_seqT s h3, h4⟩
theorem good_tails {n : List Str} (h : Labs n) (k : n.length ≤ 90) : Good (.list ((tails n).map nameD)) 2 2100000 := by
  refine good_names (fun l hl => ?_) ?_
  · obtain ⟨i, _, rfl⟩ := List.mem_map.mp hl
    exact ⟨h.drop i, by rw [List.length_drop]; omega⟩
  · unfold tails
    rw [List.length_map, List.length_range]
    omega
end LN

namespace LN
open PySem PySem.Spec PyProof.Rows L2
set_option maxHeartbeats 4000000 in
theorem tuple_mul_same (l : Addr) (items : Array Value) (n : Nat) (dd : Option Addr) (sl : Array (Option Value)) (u : Tok) :
    Meets (Builtin.«tuple.__mul__» ⟨[.ref l, .int 1 u], []⟩) (fun _ R s => s.heap.get? l = some { cls := .type "tuple", dict := dd, data := .seq items n, slots := sl } ∧ R (.ok (.ret (.ref l))) s) :=
  .of_wp fun prog w A R s h => by
    obtain ⟨hp, g, d, tk, os⟩ := s
    obtain ⟨hl, h⟩ := h
    have f1 := AutoSeq1.idx_int
    wp_walk using wpAny_loadPart' hl
    exact ⟨_, rfl, h⟩
section
variable {X : Cx}
/-- t * k, k from 1 on -/
def rRepD (K : PySem.W.Frag) : R2 := fun x y H Q => ∃ l k xs, x = .ref l ∧ y = .int k ∧ SqT K H l xs ∧ xs ≠ [] ∧ 1 ≤ k ∧ k ≤ 1000 ∧ xs.length ≤ 1000 ∧ ∀ p H', Same H H' → SqT K H' p (List.replicate k.toNat xs).flatten → Q (.ref p) H'
theorem op_repD : OpR X (binaryOp .Mult) (rRepD X.K) := by
  intro pins s σ H x y v u Q inv rx ry want
  obtain ⟨l, k, xs, rfl, rfl, hT, ne, h1, h2, hz, q⟩ := want
  by_cases one : k = 1
  · subst one
    cases rx
    obtain ⟨t, rfl⟩ := ry
    obtain ⟨its, r, ⟨⟨cls, dd, data, sl⟩, ho, hc, n, hd⟩, hs⟩ := inv.tuple hT
    simp only at hc hd
    subst hc hd
    refine wpAny_binaryOp_repeat_ref (T := "tuple") (U := "int") (by decide) ⟨_, ho, rfl⟩ (fun s' => typeIs_int s' 1 t) noFill_tuple_mul F.fills_int_mul F.slot_int_rmul repeat_tuple F.slot_int_index.lookup
      (call_meets F.slot_int_rmul (typeIs_int s 1 t) F.entry_int_rmul (F.args_int_rmul_2 _ _) (int_rmul_tuple 1 t l its.toArray n dd sl)
        ⟨ho, rfl, ⟨_, ho, rfl⟩, call_meets F.slot_tuple_mul ⟨_, ho, rfl⟩ F.entry_tuple_mul (F.args_tuple_mul_2 _ _) (tuple_mul_same l its.toArray n dd sl t) ⟨ho, ?_⟩⟩)
    refine ⟨.ref l, H, inv, rfl, q l H (Same.refl H) ?_⟩
    have e : (List.replicate (1 : Int).toNat xs).flatten = xs := by
      show (List.replicate 1 xs).flatten = xs
      simp
    rw [e]
    exact hT
  · exact op_repT pins s σ H _ _ v u Q inv rx ry ⟨l, k, xs, rfl, rfl, hT, ne, by omega, h2, hz, fun p np => q p _ (same_put np) (.inl (.inl upd_same))⟩
end
end LN
namespace LN
open PySem PySem.Spec PyProof.Rows L2
def rLenK (K : PySem.W.Frag) : List V → Hp → VK → Prop := fun xs H Q => ∃ p ys, xs = [.ref p] ∧ (SqL K H p ys ∨ SqT K H p ys) ∧ Q (.int ys.length) H
theorem call_lenK {X : Cx} : CallR X (.builtin "len") (rLenK X.K) := call_len_seq
end LN

namespace LN
open PySem PySem.Spec PyProof.Rows L2
/-! sum over lists, from a list on -/
abbrev Stays (h₀ h : Heap) : Prop := ∀ b o, h₀.get? b = some o → h.get? b = some o
section
variable {prog : Program} {w : World} {A : Around} {R : Result → Shared → Prop} {I S b0 : Addr} {fp wr : List Addr} {n : Nat} {P : Nat → Value → Prop} {St : Nat → Heap → Prop}
def joined (part : Nat → List Value) (i : Nat) : List Value := (List.range i).flatMap part
theorem joined_succ (part : Nat → List Value) (i : Nat) : joined part (i + 1) = joined part i ++ part i := by
  unfold joined
  rw [List.range_succ, List.flatMap_append]
  simp
theorem joined_le (part : Nat → List Value) {i n : Nat} (h : i ≤ n) : (joined part i).length ≤ (joined part n).length := by
  induction n with
  | zero => rw [Nat.le_zero.mp h]; exact Nat.le_refl _
  | succ m ih =>
    rcases Nat.lt_or_ge i (m + 1) with q | q
    · refine Nat.le_trans (ih (Nat.le_of_lt_succ q)) ?_
      rw [joined_succ, List.length_append]
      exact Nat.le_add_right _ _
    · rw [Nat.le_antisymm h q]
      exact Nat.le_refl _
theorem sumL_loop (W : Walks prog w A.in1 I fp wr n P St) (h₀ : Heap) (part : Nat → List Value)
    (items : ∀ i v, P i v → ∃ p c, v = .ref p ∧ IsL h₀ p (part i).toArray c) (offW : ∀ b ∈ wr, h₀.get? b = none) (offS : h₀.get? S = none) (apart : S ∉ fp) (inW : ∀ i h, St i h → ∀ b ∈ wr, b < h.objs.size) (small : (joined part n).length ≤ sizeLine) :
    ∀ (k i : Nat) (s : Shared) (T : Addr) (c cT : Nat), n - i = k → i ≤ n → St i s.heap → Stays h₀ s.heap → s.heap.get? S = some { cls := .type "list", dict := none, data := .seq #[.ref T] c, slots := #[] } →
      IsL s.heap T (joined part i).toArray cT → T ∉ wr → T ≠ S → ((i = 0 ∧ T = b0) ∨ h₀.get? T = none) →
      (∀ h' tk T' c', Stays h₀ h' → IsL h' T' (joined part n).toArray c' → ((n = 0 ∧ T' = b0) ∨ h₀.get? T' = none) → R (.ok (.ret (.ref T'))) { s with heap := h', toks := tk }) →
      codeAny (model prog w) A (.builtin "sum.loop" ⟨[.ref I, .ref S, rawInt 2, rawInt 0], []⟩) R s := by
  intro k
  induction k with
  | zero =>
    intro i s T c cT ek hi st keep hS hT tw ts was done
    obtain rfl : i = n := by omega
    refine codeAny_builtin F.entry_sum_loop ?_
    rw [Around.under_plainId F.plain_sum_loop _]
    show wpAny _ A.in1 (seqItems? (.ref S) >>= _) _ _ s
    refine wpAny_bind (wpAny_seqItems hS rfl ?_)
    show wpAny _ A.in1 (tryCatch (pyNext (.ref I)) _ >>= _) _ _ s
    refine wpAny_bind (wpAny_tryCatch (W.done s _ _ st fun h' tk k' => ?_))
    refine wpAny_pure (done h' tk T cT (fun b o e => k' b o (fun m => ?_) (keep b o e)) (k' T _ tw hT) was)
    rw [offW b m] at e
    cases e
  | succ k ih =>
    intro i s T c cT ek hi st keep hS hT tw ts was done
    have less : i < n := by omega
    refine codeAny_builtin F.entry_sum_loop ?_
    rw [Around.under_plainId F.plain_sum_loop _]
    show wpAny _ A.in1 (seqItems? (.ref S) >>= _) _ _ s
    refine wpAny_bind (wpAny_seqItems hS rfl ?_)
    show wpAny _ A.in1 (tryCatch (pyNext (.ref I)) _ >>= _) _ _ s
    refine wpAny_bind (wpAny_tryCatch (W.item i s _ _ less st fun v h1 t1 pv st1 k1 => ?_))
    obtain ⟨p, cp, rfl, hp⟩ := items i v pv
    have keep1 : Stays h₀ h1 := fun b o e => k1 b o (fun m => by rw [offW b m] at e; cases e) (keep b o e)
    have noS : S ∉ wr := fun m => apart (W.sub _ m)
    have hS1 := k1 S _ noS hS
    have hT1 := k1 T _ tw hT
    show wpAny _ A.in1 ((holding [Value.ref p] (binaryOp .Add (.ref T) (.ref p))).attempt >>= _) _ _ _
    have sz : (joined part i).length + (part i).length ≤ sizeLine := by
      rw [← List.length_append, ← joined_succ]
      exact Nat.le_trans (joined_le part less) small
    refine wpAny_bind (wpAny_attempt (wpAny_holding (PySem.P.add_list (s := { s with heap := h1, toks := t1 }) hT1 (keep1 _ _ hp) ?_ (by rw [List.size_toArray, List.size_toArray]; exact sz))))
    have ea : (joined part i).toArray ++ (part i).toArray = (joined part (i + 1)).toArray := by rw [joined_succ]; simp
    rw [ea]
    have hS2 : (h1.push { cls := .type "list", data := .seq (joined part (i + 1)).toArray }).get? S = some { cls := .type "list", dict := none, data := .seq #[.ref T] c, slots := #[] } := Heap.get?_push_of_some _ hS1
    refine wpAny_bind (wpAny_updateSeq hS2 rfl (wpAny_bind (wpAny_letGo ?_)))
    have new : (h1.push { cls := .type "list", data := .seq (joined part (i + 1)).toArray }).get? h1.objs.size = some { cls := .type "list", data := .seq (joined part (i + 1)).toArray } := Heap.get?_push_size _ rfl
    have lo : S < h1.objs.size := Heap.lt_size hS1
    refine wpAny_bind (wpAny_updateSeq (Heap.get?_update_self _ hS2 rfl) rfl (wpAny_pure ⟨plainId_quiet F.plain_sum_loop _, ?_⟩))
    have hS3 := Heap.get?_update_self (Obj.mapSeq fun _ => #[Value.ref h1.objs.size]) hS2 rfl
    have hS4 := Heap.get?_update_self (Obj.mapSeq fun _ => #[Value.ref h1.objs.size]) hS3 rfl
    have other : ∀ b o, b ≠ S → (h1.push { cls := .type "list", data := .seq (joined part (i + 1)).toArray }).get? b = some o →
        (((h1.push { cls := .type "list", data := .seq (joined part (i + 1)).toArray }).update S (Obj.mapSeq fun _ => #[Value.ref h1.objs.size])).update S (Obj.mapSeq fun _ => #[Value.ref h1.objs.size])).get? b = some o :=
      fun b o nb e => (Heap.get?_update_other _ _ (Ne.symm nb)).trans ((Heap.get?_update_other _ _ (Ne.symm nb)).trans e)
    have neS : ∀ b o, h₀.get? b = some o → b ≠ S := fun b o e z => by rw [z, offS] at e; cases e
    have fresh : h₀.get? h1.objs.size = none := by
      cases e : h₀.get? h1.objs.size with
      | none => rfl
      | some o => exact absurd (Heap.lt_size (keep1 _ _ e)) (Nat.lt_irrefl _)
    refine ih (i + 1) _ h1.objs.size c 0 (by omega) less (W.frame _ _ _ st1 fun b hb o e => ?_) (fun b o e => ?_) hS4 (other _ _ (Nat.ne_of_gt lo) new) (fun m => ?_) (Nat.ne_of_gt lo) (.inr fresh) (fun h' tk T' c' k' => done h' tk T' c' k')
    · exact other b o (fun z => apart (z ▸ hb)) (Heap.get?_push_of_some _ e)
    · exact other b o (neS b o e) (Heap.get?_push_of_some _ (keep1 b o e))
    · exact Nat.lt_irrefl _ (inW _ _ st1 _ m)
theorem sum_two_args (a b : Value) : argsOk "sum" ⟨[a, b], []⟩ := by unfold argsOk; kernel_rfl
theorem list_no_str : isSubtype (.type "list") (.type "str") = pure false := by rw [isSubtype_type]; kernel_rfl
theorem list_no_bytes : isSubtype (.type "list") (.type "bytes") = pure false := by rw [isSubtype_type]; kernel_rfl
theorem list_no_bytearray : isSubtype (.type "list") (.type "bytearray") = pure false := by rw [isSubtype_type]; kernel_rfl
theorem sum_lists {E : Value → Shared → Prop} {s : Shared} {l b nb : Nat} {vs : List Value} {part : Nat → List Value} {Q : Value → Shared → Prop} (hh : A.handled = none) (hl : s.heap.IsList l vs.toArray) (hb : IsL s.heap b #[] nb)
    (items : ∀ i v, vs[i]? = some v → ∃ p c, v = .ref p ∧ IsL s.heap p (part i).toArray c) (small : (joined part vs.length).length ≤ sizeLine)
    (done : ∀ h' tk T c, Stays s.heap h' → IsL h' T (joined part vs.length).toArray c → ((vs.length = 0 ∧ T = b) ∨ s.heap.get? T = none) → Q (.ref T) { s with heap := h', toks := tk }) :
    wpAny (model prog w) A (call (.builtin "sum") [.ref l, .ref b]) Q E s := by
  refine call_function_tree F.kind_sum F.plain_sum F.entry_sum (sum_two_args _ _) ?_
  unfold Builtin.«sum»
  simp only [List.length_cons, List.length_nil]
  rw [if_neg (by decide)]
  refine wpAny_bind (wpAny_of_eq (show Builtin.Builtins.bindParams "sum" ["start"] 0 ⟨[.ref b], []⟩ = pure [some (.ref b)] from rfl) ?_)
  refine wpAny_bind (iter_any (A := A.in1) hl fun s2 e2 st ne => ?_)
  subst e2
  have hb2 : (s.heap.push { cls := .type "list_iterator", data := .fields #[.ref l, .int 0 0] }).get? b = some { cls := .type "list", dict := none, data := .seq #[] nb, slots := #[] } := Heap.get?_push_of_some _ hb
  have ty : Shared.TypeIs { s with heap := s.heap.push { cls := .type "list_iterator", data := .fields #[.ref l, .int 0 0] } } (.ref b) "list" := ⟨_, hb2, rfl⟩
  refine wpAny_bind (wpAny_pure ?_)
  simp only [List.forIn_cons, List.forIn_nil]
  refine wpAny_bind (wpAny_bind (wpAny_bind (wpAny_isInstance (T := "list") (b := false) ty list_no_str ?_)))
  simp only [Bool.false_eq_true, if_false]
  refine wpAny_pure (wpAny_bind (wpAny_bind (wpAny_isInstance (T := "list") (b := false) ty list_no_bytes ?_)))
  simp only [Bool.false_eq_true, if_false]
  refine wpAny_pure (wpAny_bind (wpAny_bind (wpAny_isInstance (T := "list") (b := false) ty list_no_bytearray ?_)))
  simp only [Bool.false_eq_true, if_false]
  refine wpAny_pure (wpAny_pure ?_)
  refine wpAny_bind (wpAny_newObj_type ?_)
  have none1 : s.heap.get? s.heap.objs.size = none := by
    cases e : s.heap.get? s.heap.objs.size with
    | none => rfl
    | some o => exact absurd (Heap.lt_size e) (Nat.lt_irrefl _)
  have none2 : s.heap.get? (s.heap.objs.size + 1) = none := by
    cases e : s.heap.get? (s.heap.objs.size + 1) with
    | none => rfl
    | some o => exact absurd (Nat.lt_of_succ_lt (Heap.lt_size e)) (Nat.lt_irrefl _)
  have sz : (s.heap.push { cls := .type "list_iterator", data := .fields #[.ref l, .int 0 0] }).objs.size = s.heap.objs.size + 1 := Heap.size_push _ _
  have lb : b < s.heap.objs.size := Heap.lt_size hb
  have ll : l < s.heap.objs.size := by obtain ⟨_, e, _⟩ := hl; exact Heap.lt_size e
  have size : vs.toArray.size = vs.length := List.size_toArray
  have W := Walks.list (prog := prog) (w := w) (A := A.in1) hh s.heap.objs.size l (Nat.ne_of_lt ll) vs.toArray
  rw [size] at W
  refine wpAny_pure ⟨plainId_quiet F.plain_sum_loop _, ?_⟩
  refine sumL_loop (b0 := b) W s.heap part (fun i v hv => items i v (by simpa using hv)) (fun c hc => by rw [List.mem_singleton.mp hc]; exact none1) (by show s.heap.get? (Heap.objs _).size = none; rw [sz]; exact none2) (fun m => ?_) (fun i h st2 c hc => ?_) small vs.length 0 _ b 0 nb (Nat.sub_zero _) (Nat.zero_le _)
    (W.frame _ _ _ st fun c hc o e => Heap.get?_push_of_some _ e) (fun c o e => Heap.get?_push_of_some _ (Heap.get?_push_of_some _ e)) (Heap.get?_push_size _ rfl) (Heap.get?_push_of_some _ hb2) (fun m => ?_) (fun z => ?_) (.inl ⟨rfl, rfl⟩) (fun h' tk T c k t was => done h' tk T c k t was)
  · have e : (Heap.push s.heap { cls := .type "list_iterator", data := .fields #[.ref l, .int 0 0] }).objs.size ∈ [s.heap.objs.size, l] := m
    rw [sz] at e
    rcases List.mem_cons.mp e with z | z
    · exact Nat.succ_ne_self _ z
    · have z2 := List.mem_singleton.mp z
      rw [← z2] at ll
      exact Nat.lt_irrefl _ (Nat.lt_of_succ_lt ll)
  · rw [List.mem_singleton.mp hc]
    obtain ⟨⟨o, e, _⟩, _⟩ := st2
    exact Heap.lt_size e
  · have e := List.mem_singleton.mp m
    rw [e] at lb
    exact Nat.lt_irrefl _ lb
  · have e : b = (Heap.push s.heap { cls := .type "list_iterator", data := .fields #[.ref l, .int 0 0] }).objs.size := z
    rw [sz] at e
    rw [e] at lb
    exact Nat.lt_irrefl _ (Nat.lt_of_succ_lt lb)
end
section
variable {X : Cx}
/-- sum(lists, []): a new list of all their parts -/
def rSumL (K : PySem.W.Frag) : List V → Hp → VK → Prop := fun vs H Q => ∃ (l b : Addr) (ps : List Addr) (xss : List (List V)), vs = [.ref l, .ref b] ∧ SqL K H l (ps.map V.ref) ∧ H b = some (.lst []) ∧ ps.length = xss.length ∧ (∀ (i : Nat) (p : Addr) (xs : List V), ps[i]? = some p → xss[i]? = some xs → H p = some (.lst xs)) ∧ xss.flatten.length ≤ sizeLine ∧
  (ps = [] → Q (.ref b) H) ∧ (∀ T, H T = none → Q (.ref T) (upd H T (.lst xss.flatten)))
theorem cr_sumL (hc : X.calm = true) : CallR X (.builtin "sum") (rSumL X.K) := by
  intro pins s σ H vs us Q I r h
  obtain ⟨l, b, ps, xss, rfl, hs, hb, hn, parts, small, q0, q1⟩ := h
  obtain ⟨u1, u2, rfl, r1, r2⟩ := vals2 r
  cases r1
  cases r2
  obtain ⟨its, rv, hl, _⟩ := I.list hs
  obtain ⟨_, itb, nb, rb, _, eb⟩ := I.lstM hb
  cases rb
  have vlen : its.length = ps.length := by rw [← rv.length, List.length_map]
  -- the parts' own values
  have own : ∀ i (p : Addr), ps[i]? = some p → ∃ (xs : List V) (ys : List Value) (c : Nat), xss[i]? = some xs ∧ Vals xs ys ∧ IsL s.heap p ys.toArray c := fun i p hp => by
    have lt : i < xss.length := by rw [← hn]; exact (List.getElem?_eq_some_iff.mp hp).1
    have ex := List.getElem?_eq_getElem lt
    obtain ⟨_, ys, c, ry, _, ey⟩ := I.lstM (parts i p _ hp ex)
    exact ⟨_, ys, c, ex, ry, ey⟩
  have all : ∃ part : Nat → List Value, ∀ i (p : Addr), ps[i]? = some p → ∃ (xs : List V) (c : Nat), xss[i]? = some xs ∧ Vals xs (part i) ∧ IsL s.heap p (part i).toArray c := by
    refine Classical.axiomOfChoice (r := fun (i : Nat) (ys : List Value) => ∀ (p : Addr), ps[i]? = some p → ∃ (xs : List V) (c : Nat), xss[i]? = some xs ∧ Vals xs ys ∧ IsL s.heap p ys.toArray c) fun i => ?_
    cases e : ps[i]? with
    | none => exact ⟨[], fun p hp => by cases hp⟩
    | some p =>
      obtain ⟨xs, ys, c, ex, ry, ey⟩ := own i p e
      exact ⟨ys, fun p' hp => by cases hp; exact ⟨xs, c, ex, ry, ey⟩⟩
  obtain ⟨part, hp⟩ := all
  have whole : ∀ i, i ≤ ps.length → Vals (xss.take i).flatten (joined part i) := by
    intro i
    induction i with
    | zero =>
      intro _
      exact .nil
    | succ i ih =>
      intro hi
      have lt : i < ps.length := hi
      obtain ⟨xs, c, ex, ry, _⟩ := hp i _ (List.getElem?_eq_getElem lt)
      rw [joined_succ, List.take_add_one, ex, List.flatten_append]
      have z : ((some xs).toList).flatten = xs := by
        show [xs].flatten = xs
        simp
      rw [z]
      exact (ih (Nat.le_of_lt lt)).append ry
  have full := whole its.length (by rw [vlen]; exact Nat.le_refl _)
  rw [List.take_of_length_le (by rw [vlen, hn]; exact Nat.le_refl _)] at full
  refine sum_lists (part := part) (I.ok.hd hc) hl.isList eb (fun i v hv => ?_) (by rw [← full.length]; exact small) (fun h' tk T c k t was => ?_)
  · have rv' := rv
    obtain ⟨x, ex, rx⟩ : ∃ x, (ps.map V.ref)[i]? = some x ∧ RelV x v := by
      have lt : i < (ps.map V.ref).length := by rw [rv.length]; exact (List.getElem?_eq_some_iff.mp hv).1
      obtain ⟨u, eu, ru⟩ := rv.get (List.getElem?_eq_getElem lt)
      rw [hv] at eu
      cases eu
      exact ⟨_, List.getElem?_eq_getElem lt, ru⟩
    rw [List.getElem?_map] at ex
    obtain ⟨p, ep, rfl⟩ := Option.map_eq_some_iff.mp ex
    obtain rfl : v = Value.ref p := rx
    obtain ⟨xs, c, _, _, ei⟩ := hp i p ep
    exact ⟨p, c, rfl, ei⟩
  · rcases was with ⟨z, rfl⟩ | new
    · have nil : ps = [] := List.length_eq_zero_iff.mp (by rw [← vlen]; exact z)
      exact ⟨.ref T, H, I.kept (t' := tk) k, rfl, q0 nil⟩
    · refine ⟨.ref T, _, I.laidN (t' := tk) (o := .lst xss.flatten) k new (I.hok.gone new) ⟨small, _, c, full, t⟩, rfl, q1 _ (I.hok.gone new)⟩
end
end LN

namespace LN
open PySem PySem.Spec PyProof.Rows L2
/-! a dict of two clauses without tests: its key and its value at each turn of the second -/
abbrev twoEx (kx vx t0 i0 t1 i1 : Expr) (scope : Scope) (pos : Pos) : Expr := .DictComp kx vx [⟨t0, i0, [], 0⟩, ⟨t1, i1, [], 0⟩] scope pos
section
variable {B : Cx} {kx vx t0 i0 t1 i1 : Expr} {scope : Scope} {pos : Pos}
theorem calm_end {α : Type} {t : Sem α} {Q Q' : α → Shared → Prop} {E : Value → Shared → Prop} {s : Shared} (never : B.xe = fun _ _ => False) (h : wpAny (model B.prog B.w) B.A t Q B.xe s) (hQ : ∀ a s', Q a s' → Q' a s') : wpAny (model B.prog B.w) B.A t Q' E s := by
  rw [never] at h
  exact thnF h hQ
/-- what is asked of the turns of a clause -/
def Turns (J : It) (W : Nat → Nat → Hp → Prop) (stopped : Hp → Prop) (turn : V → Hp → (Hp → Prop) → Prop) : Prop := ∀ j k H, W j k H → (J.stop j H ∧ stopped H) ∨ (J.go j H ∧ ∃ Nx : Hp → Prop, (∀ H', Nx H' → ∃ k', k' < k ∧ W (j + 1) k' H') ∧ ∀ x H', J.yld j H x H' → turn x H' Nx)
/-- a pair put into the dict at D -/
def putIn (D : Addr) (tk tv : TE) (σ : L2.St) (H : Hp) (Nx : Hp → Prop) : Prop := tk σ H fun y H1 => tv σ H1 fun z H2 => ∃ kvs k, y = kV k ∧ H2 D = some (.dK kvs) ∧ kvs.length < sizeLine ∧ Nx (upd H2 D (.dK (putK kvs k z)))
theorem two_inner {R : Result → Shared → Prop} {g1 : TG} {tk tv : TE} {pins : List (Addr × Obj)} {σ : L2.St} {H0 : Hp} {s0 : Shared} {it D : Addr} {fp : List Addr} {tn : Nat → Heap → Prop} {J : It} {vs1 : List Nat} {Nx : Hp → Prop} {W : Nat → Nat → Hp → Prop} {m0 : Nat}
    (calm : B.calm = true) (never : B.xe = fun _ _ => False) (pg : PG B t1 g1) (pk : PE B kx tk) (pv : PE B vx tv) (T : Turn B.prog B.w B.K t1 J fp it tn)
    (I0 : Inv B pins σ H0 s0) (t00 : tn 0 s0.heap) (apart : ∀ b ∈ fp, FpOk B pins H0 b) (w0 : W 0 m0 H0)
    (turns : Turns J W Nx fun x H Nx1 => g1 x (wipe σ vs1) H fun σ3 H3 => wipe σ3 vs1 = wipe σ vs1 ∧ putIn D tk tv σ3 H3 Nx1)
    (fin : ∀ H s, Inv B pins (wipe σ vs1) H s → Nx H → R (.ok .next) s) :
    codeAny (model B.prog B.w) B.A (.compLoop (twoEx kx vx t0 i0 t1 i1 scope pos) 1 (.ref it) (.ref D) B.env) R s0 := by
  have fpOk : ∀ {H : Hp}, (∀ b ∈ fp, H b = none) → ∀ b ∈ fp, FpOk B pins H b := fun hn b hb => ⟨hn b hb, (apart b hb).2⟩
  refine codeAny_loop rfl (fun k s => ∃ j H, Inv B pins (wipe σ vs1) H s ∧ tn j s.heap ∧ (∀ b ∈ fp, H b = none) ∧ W j k H) (fun k s inv => ?_) m0 ⟨0, H0, I0.weak (wipe_length _ _) (fun j v e => (wipe_some e).1), t00, fun b hb => (apart b hb).1, w0⟩
  obtain ⟨j, H, I, tj, free, wj⟩ := inv
  show wpAny _ B.A ((compTurn (twoEx kx vx t0 i0 t1 i1 scope pos) 1 (.ref it) (.ref D) B.env).onRaise (fun x => do noteFrame x B.env; theTreesLotGoes x)) _ _ s
  refine wpAny_noted ?_
  show wpAny _ B.A (do
      standAt i1.pos
      match ← pyNext (.ref it) with
      | none => pure (.done .next)
      | some v =>
        letOwnedTupleGo t1 (.ref it) v
        assign t1 B.env v
        (do
            let kv ← eval kx B.env
            let vv ← holding [kv] (eval vx B.env)
            standAt { kx.pos with endLine := vx.pos.endLine, endCol := vx.pos.endCol }
            holding [kv, vv] (dictSet D kv vv))
        again (.compLoop (twoEx kx vx t0 i0 t1 i1 scope pos) 1 (.ref it) (.ref D) B.env)) _ _ s
  refine wpAny_bind (wpAny_standAt (wpAny_bind ?_))
  rcases turns j k H wj with ⟨stop, nx⟩ | ⟨go, Nx1, down, step⟩
  · refine thnF (T.done B rfl rfl rfl calm j pins s _ H (fun _ _ => False) I (fpOk free) tj stop) fun r s1 ⟨er, I1⟩ => ?_
    subst er
    exact wpAny_pure (fin H s1 I1 nx)
  · refine thnF (T.item B rfl rfl rfl calm j pins s _ H (fun _ _ => False) I (fpOk free) tj go) fun r s1 ⟨u, er, got⟩ => ?_
    subst er
    refine wpAny_bind (thnF got fun _ s2 ⟨x, H2, I2, rx, y2, t2, free2⟩ => ?_)
    have J2 := I2.pinned (fpOk free2) (T.obj _ _ t2)
    refine wpAny_bind (calm_end never (pg.run _ s2 _ H2 x u _ J2 rx (step x H2 y2)) fun _ s3 ⟨σ3, H3, I3, same, q3⟩ => ?_)
    refine wpAny_bind (wpAny_bind (calm_end never (pk.run _ s3 σ3 H3 _ I3 q3) fun kv s4 ⟨yk, H4, I4, r4, q4⟩ => ?_))
    refine wpAny_bind (wpAny_holding (calm_end never (pv.run _ s4 σ3 H4 _ I4 q4) fun vv s5 ⟨yv, H5, I5, r5, kvs, key, ek, hD, few, nx⟩ => ?_))
    subst ek
    refine wpAny_bind (wpAny_standAt (wpAny_holding (d_dictSet (X := B) I5 hD few r4 r5 fun s6 I6 => ?_)))
    obtain ⟨k', less, w'⟩ := down _ nx
    have stays : ∀ b ∈ fp, ∀ o, s2.heap.get? b = some o → s6.heap.get? b = some o ∧ (upd H5 D (.dK (putK kvs key yv))) b = none := fun b hb o e =>
      let z := I6.pin (b, o) (List.mem_append_right _ (List.mem_append_right _ (mem_pinsAt hb e)))
      ⟨z.1, z.2.1⟩
    refine wpAny_pure ⟨rfl, k', less, j + 1, _, I6.unpinned.weak (by rw [← same, wipe_length]) (fun i v e => by rw [← same] at e; exact (wipe_some e).1), T.keep _ _ _ t2 fun b hb o e => (stays b hb o e).1, fun b hb => ?_, w'⟩
    obtain ⟨o, e, _⟩ := T.obj _ _ t2 b hb
    exact (stays b hb o e).2
theorem two_start {R : Result → Shared → Prop} {s : Shared} {it acc : Value} {env : Env} {prog : Program} {w : World} {A : Around} (loop : codeAny (model prog w) A (.compLoop (twoEx kx vx t0 i0 t1 i1 scope pos) 1 it acc env) R s)
    (own : wpAny (model prog w) A (pyIter it) (fun v s' => codeAny (model prog w) A (.compLoop (twoEx kx vx t0 i0 t1 i1 scope pos) 1 v acc env) R s') (notedBy (model prog w) A env fun x s' => R (.error x) s') s) :
    codeAny (model prog w) A (.compStart (twoEx kx vx t0 i0 t1 i1 scope pos) 1 it acc env) R s := by
  refine codeAny_of_tree ?_
  show wpAny _ _ ((compStart (twoEx kx vx t0 i0 t1 i1 scope pos) 1 it acc env).onRaise fun x => do noteFrame x env; standAt theWindowsPlace) _ _ s
  refine wpAny_notedAt ?_
  unfold compStart
  show wpAny _ _ (ask >>= _) _ _ s
  refine wpAny_bind (wpAny_askSetting (wpAny_ite ?_))
  split
  · first | exact wpAny_pure ⟨rfl, loop⟩ | exact wpAny_bind (wpAny_pure (wpAny_pure ⟨rfl, loop⟩))
  · refine wpAny_bind (wpAny_rule ?_)
    show wpAny _ _ (standAt i1.pos >>= _) _ _ s
    exact wpAny_bind (wpAny_standAt (wpAny_bind (wpAny_mono own (fun v s' h => wpAny_pure ⟨rfl, h⟩) fun _ _ x => x)))
end
section
variable {X : Cx} {kx vx t0 i0 t1 i1 : Expr} {scope : Scope} {pos : Pos}
/-- {k: v for a in x for b in y}: D the new dict; vs: the block's names, vs1: those of the second target -/
def tDc2 (wi : TI) (g : TG) (wi1 : TI) (g1 : TG) (tk tv : TE) (vs vs1 : List Nat) : TE := fun σ H Q => wi σ H fun J H1 => ∀ D, H1 D = none → ∃ W : Nat → Nat → Hp → Prop, (∃ m, W 0 m (upd H1 D (.dK []))) ∧
  Turns J W (fun H' => Q (.ref D) H') fun x H' Nx => g x (wipe σ vs) H' fun σ2 H2 => wipe σ2 vs = wipe σ vs ∧ wi1 σ2 H2 fun J1 H3 => ∃ W1 : Nat → Nat → Hp → Prop, (∃ m, W1 0 m H3) ∧
    Turns J1 W1 Nx fun x1 H' Nx1 => g1 x1 (wipe σ2 vs1) H' fun σ3 H4 => wipe σ3 vs1 = wipe σ2 vs1 ∧ putIn D tk tv σ3 H4 Nx1
theorem two_outer {B : Cx} {R : Result → Shared → Prop} {g g1 : TG} {wi1 : TI} {tk tv : TE} {σ : L2.St} {H0 : Hp} {s0 : Shared} {it D : Addr} {fp : List Addr} {tn : Nat → Heap → Prop} {J : It} {vs vs1 : List Nat} {stopped : Hp → Prop} {W : Nat → Nat → Hp → Prop} {m0 : Nat}
    (calm : B.calm = true) (never : B.xe = fun _ _ => False) (sub : ∀ i ∈ vs1, i ∈ vs) (pg : PG B t0 g) (pi1 : PI B t1 i1 wi1) (pg1 : PG B t1 g1) (pk : PE B kx tk) (pv : PE B vx tv) (T : Turn B.prog B.w B.K t0 J fp it tn)
    (I0 : Inv B [] (wipe σ vs) H0 s0) (t00 : tn 0 s0.heap) (apart : ∀ {σ' : L2.St} {H' : Hp} {s' : Shared}, Inv B [] σ' H' s' → (∀ b ∈ fp, H' b = none) → ∀ b ∈ fp, FpOk B [] H' b) (free0 : ∀ b ∈ fp, H0 b = none) (w0 : W 0 m0 H0) (fold : ∀ x, foldedSetIterable i1 B.env x = pure x)
    (turns : Turns J W stopped fun x H' Nx => g x (wipe σ vs) H' fun σ2 H2 => wipe σ2 vs = wipe σ vs ∧ wi1 σ2 H2 fun J1 H3 => ∃ W1 : Nat → Nat → Hp → Prop, (∃ m, W1 0 m H3) ∧
      Turns J1 W1 Nx fun x1 H' Nx1 => g1 x1 (wipe σ2 vs1) H' fun σ3 H4 => wipe σ3 vs1 = wipe σ2 vs1 ∧ putIn D tk tv σ3 H4 Nx1)
    (fin : ∀ H s, Inv B [] (wipe σ vs) H s → stopped H → R (.ok .next) s) :
    codeAny (model B.prog B.w) B.A (.compLoop (twoEx kx vx t0 i0 t1 i1 scope pos) 0 (.ref it) (.ref D) B.env) R s0 := by
  refine codeAny_loop rfl (fun k s => ∃ j H, Inv B [] (wipe σ vs) H s ∧ tn j s.heap ∧ (∀ b ∈ fp, H b = none) ∧ W j k H) (fun k s inv => ?_) m0 ⟨0, H0, I0, t00, free0, w0⟩
  obtain ⟨j, H, I, tj, free, wj⟩ := inv
  show wpAny _ B.A ((compTurn (twoEx kx vx t0 i0 t1 i1 scope pos) 0 (.ref it) (.ref D) B.env).onRaise (fun x => do noteFrame x B.env; theTreesLotGoes x)) _ _ s
  refine wpAny_noted ?_
  show wpAny _ B.A (do
      standAt i0.pos
      match ← pyNext (.ref it) with
      | none => pure (.done .next)
      | some v =>
        letOwnedTupleGo t0 (.ref it) v
        assign t0 B.env v
        let x ← eval i1 B.env
        standAt i1.pos
        let x ← foldedSetIterable i1 B.env x
        let _ ← runOwn (.compStart (twoEx kx vx t0 i0 t1 i1 scope pos) 1 (← holding [x] (pyIter x)) (.ref D) B.env) B.env
        again (.compLoop (twoEx kx vx t0 i0 t1 i1 scope pos) 0 (.ref it) (.ref D) B.env)) _ _ s
  refine wpAny_bind (wpAny_standAt (wpAny_bind ?_))
  rcases turns j k H wj with ⟨stop, nx⟩ | ⟨go, Nx, down, step⟩
  · refine thnF (T.done B rfl rfl rfl calm j [] s _ H (fun _ _ => False) I (apart I free) tj stop) fun r s1 ⟨er, I1⟩ => ?_
    subst er
    exact wpAny_pure (fin H s1 I1 nx)
  · refine thnF (T.item B rfl rfl rfl calm j [] s _ H (fun _ _ => False) I (apart I free) tj go) fun r s1 ⟨u, er, got⟩ => ?_
    subst er
    refine wpAny_bind (thnF got fun _ s2 ⟨x, H2, I2, rx, y2, t2, free2⟩ => ?_)
    have J2 := I2.pinned (apart I2 free2) (T.obj _ _ t2)
    refine wpAny_bind (calm_end never (pg.run _ s2 _ H2 x u _ J2 rx (step x H2 y2)) fun _ s3 ⟨σ3, H3, I3, same, q3⟩ => ?_)
    have pr := pi1.run _ s3 σ3 H3 _ I3 q3
    rw [never] at pr
    refine wpAny_bind (thnF pr fun xv s4 h4 => ?_)
    refine wpAny_bind (wpAny_standAt (wpAny_bind (wpAny_of_eq (fold xv) (wpAny_bind (wpAny_holding (thnF h4 fun itv s5 h5 => ?_))))))
    obtain ⟨it1, fp1, tn1, J1, H5, e1, I5, T1, t10, apart1, W1, ⟨m1, w1⟩, turns1⟩ := h5
    subst e1
    refine wpAny_bind (wpAny_runOwn ?_)
    rw [Around.mark_none]
    have back : ∀ H' s', Inv B ([] ++ pinsAt fp s2.heap) (wipe σ3 vs1) H' s' → Nx H' → ∃ k', k' < k ∧ ∃ j H, Inv B [] (wipe σ vs) H s' ∧ tn j s'.heap ∧ (∀ b ∈ fp, H b = none) ∧ W j k' H := fun H' s' I' nx => by
      obtain ⟨k', less, w'⟩ := down H' nx
      have stays : ∀ b ∈ fp, ∀ o, s2.heap.get? b = some o → s'.heap.get? b = some o ∧ H' b = none := fun b hb o e =>
        let z := I'.pin (b, o) (List.mem_append_right _ (List.mem_append_right _ (mem_pinsAt hb e)))
        ⟨z.1, z.2.1⟩
      refine ⟨k', less, j + 1, H', (I'.unpinned (pins := [])).weak ?_ (fun i v e => ?_), T.keep _ _ _ t2 fun b hb o e => (stays b hb o e).1, fun b hb => ?_, w'⟩
      · rw [← same, wipe_length, wipe_length]
      · rw [← same] at e
        obtain ⟨e2, off⟩ := wipe_some e
        rw [wipe_out fun z => off (sub i z)]
        exact e2
      · obtain ⟨o, e, _⟩ := T.obj _ _ t2 b hb
        exact (stays b hb o e).2
    have loop := two_inner (kx := kx) (vx := vx) (t0 := t0) (i0 := i0) (i1 := i1) (scope := scope) (pos := pos) (D := D) (R := fun r s' => match r with
      | .ok _ => ∃ k', k' < k ∧ ∃ j H, Inv B [] (wipe σ vs) H s' ∧ tn j s'.heap ∧ (∀ b ∈ fp, H b = none) ∧ W j k' H
      | .error _ => False) calm never pg1 pk pv T1 I5 t10 apart1 w1 turns1 back
    refine codeAny_mono (two_start loop (T1.self B.A 0 _ _ _ t10 loop)) fun r s' hr => ?_
    cases r with
    | error e => exact hr.elim
    | ok f => first | exact wpAny_pure ⟨rfl, hr⟩ | exact wpAny_bind (wpAny_pure (wpAny_pure ⟨rfl, hr⟩))
theorem pe_dc2 {iterWi wi1 : TI} {g g1 : TG} {tk tv : TE} {own : List (Str × Nat)} {vs1 : List Nat} (calm : X.calm = true) (nd : X.N.Nodup) (hi : PI X t0 i0 iterWi) (ok : BlkOk X.N X.env.scope scope own) (sub : ∀ i ∈ vs1, i ∈ own.map (·.2))
    (pg : ∀ (s : Shared) (H : Hp) (C : Addr) (cl : List (Str × Addr)) (fp : List Addr), PG (X.blk s H scope (compEnvC scope cl C X.env) fp) t0 g)
    (pi1 : ∀ (s : Shared) (H : Hp) (C : Addr) (cl : List (Str × Addr)) (fp : List Addr), PI (X.blk s H scope (compEnvC scope cl C X.env) fp) t1 i1 wi1)
    (pg1 : ∀ (s : Shared) (H : Hp) (C : Addr) (cl : List (Str × Addr)) (fp : List Addr), PG (X.blk s H scope (compEnvC scope cl C X.env) fp) t1 g1)
    (pk : ∀ (s : Shared) (H : Hp) (C : Addr) (cl : List (Str × Addr)) (fp : List Addr), PE (X.blk s H scope (compEnvC scope cl C X.env) fp) kx tk)
    (pv : ∀ (s : Shared) (H : Hp) (C : Addr) (cl : List (Str × Addr)) (fp : List Addr), PE (X.blk s H scope (compEnvC scope cl C X.env) fp) vx tv)
    (fold0 : ∀ x, foldedSetIterable i0 X.env x = pure x := by intro _; rfl) (fold1 : ∀ env x, foldedSetIterable i1 env x = pure x := by intro _ _; rfl) :
    PE X (twoEx kx vx t0 i0 t1 i1 scope pos) (tDc2 iterWi g wi1 g1 tk tv (own.map (·.2)) vs1) := by
  refine ⟨fun pins s σ H Q I want => ?_⟩
  rw [arm_eval_DictComp]
  have outer : ∀ y ∈ scope.names, y.2 = .free → ∃ c, X.env.cells.lookup y.1 = some c := fun y hy e => I.ok.has _ (ok.free y hy e)
  refine wpAny_comprehension_free (use := none) rfl fold0 (closure_ok outer) ok.kind (fun y hy e => by rw [ok.uniq y hy, e]) (thn (hi.run pins s σ H _ I want) fun xv s1 hx => thn hx fun itv s2 h2 => ?_)
  obtain ⟨it, fp, tn, J, H2, e, I2, T, t2, f2, q⟩ := h2
  subst e
  refine wpAny_newObj_type (newEnv_comp ?_)
  obtain ⟨W, ⟨m0, w0⟩, turns⟩ := q s2.heap.objs.size I2.fresh
  have low : ∀ b ∈ fp, b < s2.heap.objs.size := fun b hb => Heap.lt_size (T.obj _ _ t2 b hb).choose_spec.1
  have I3 : Inv X pins σ (upd H2 s2.heap.objs.size (.dK [])) { s2 with heap := s2.heap.push { cls := .type "dict", data := .dict #[] } } := I2.laid (t' := s2.toks) (fun b o e => Heap.get?_push_of_some _ e) (Nat.le_refl _) (dk_empty s2.heap I2.big)
  have keep3 : ∀ b o, s2.heap.get? b = some o → (s2.heap.push { cls := .type "dict", data := .dict #[] }).get? b = some o := fun b o e => Heap.get?_push_of_some _ e
  have f3 : ∀ b ∈ fp, FpOk X pins (upd H2 s2.heap.objs.size (.dK [])) b ∧ b < (s2.heap.push { cls := .type "dict", data := .dict #[] }).objs.size := fun b hb => by
    refine ⟨⟨?_, (f2 b hb).2⟩, by rw [Heap.size_push]; exact Nat.lt_succ_of_lt (low b hb)⟩
    rw [upd_ne (Nat.ne_of_lt (low b hb))]
    exact (f2 b hb).1
  generalize eD : s2.heap.objs.size = D at *
  generalize e3 : ({ s2 with heap := s2.heap.push { cls := .type "dict", data := .dict #[] } } : Shared) = s3 at *
  have h3 : s3.heap = s2.heap.push { cls := .type "dict", data := .dict #[] } := by rw [← e3]
  rw [← h3] at keep3 f3
  have I4 := block_start I3 ok nd f3
  generalize eC : compEnvC scope (cellsFrom (s3.heap.objs.size + 1) scope.names (cloFrom X.env.cells scope.names [])) s3.heap.objs.size X.env = ce at *
  have gg := pg s3 (upd H2 D (.dK [])) s3.heap.objs.size (cellsFrom (s3.heap.objs.size + 1) scope.names (cloFrom X.env.cells scope.names [])) fp
  have gi := pi1 s3 (upd H2 D (.dK [])) s3.heap.objs.size (cellsFrom (s3.heap.objs.size + 1) scope.names (cloFrom X.env.cells scope.names [])) fp
  have g2 := pg1 s3 (upd H2 D (.dK [])) s3.heap.objs.size (cellsFrom (s3.heap.objs.size + 1) scope.names (cloFrom X.env.cells scope.names [])) fp
  have gk := pk s3 (upd H2 D (.dK [])) s3.heap.objs.size (cellsFrom (s3.heap.objs.size + 1) scope.names (cloFrom X.env.cells scope.names [])) fp
  have gv := pv s3 (upd H2 D (.dK [])) s3.heap.objs.size (cellsFrom (s3.heap.objs.size + 1) scope.names (cloFrom X.env.cells scope.names [])) fp
  rw [eC] at gg gi g2 gk gv
  show codeAny (model X.prog X.w) X.A (.compStart (twoEx kx vx t0 i0 t1 i1 scope pos) 0 (.ref it) (.ref D) (compEnvC scope (cellsFrom (s3.heap.objs.size + 1) scope.names (cloFrom X.env.cells scope.names [])) s3.heap.objs.size X.env))
    (compPost (model X.prog X.w) X.A X.xe none (EP X pins σ Q) (.ref D) s3.heap.objs.size) { s3 with heap := pushCells (s3.heap.push { cls := .type "dict", data := .dict #[] }) scope.names }
  rw [eC]
  have eL : ce.locals = s3.heap.objs.size := by rw [← eC]; rfl
  have t4 : tn 0 (pushCells (s3.heap.push { cls := .type "dict", data := .dict #[] }) scope.names) := T.keep _ _ _ t2 fun b _ o e => pushCells_keeps _ _ _ _ (Heap.get?_push_of_some _ (keep3 b o e))
  generalize e4 : ({ s3 with heap := pushCells (s3.heap.push { cls := .type "dict", data := .dict #[] }) scope.names } : Shared) = s4 at *
  have t4' : tn 0 s4.heap := by rw [← e4]; exact t4
  have loop := two_outer (B := X.blk s3 (upd H2 D (.dK [])) scope ce fp) (R := compPost (model X.prog X.w) X.A X.xe none (EP X pins σ Q) (.ref D) s3.heap.objs.size) (kx := kx) (vx := vx) (i0 := i0) (i1 := i1) (scope := scope) (pos := pos) (D := D) calm rfl sub gg gi g2 gk gv T I4 t4'
    (fun {σ' H' s'} J free b hb => ⟨free b hb, (J.ok.exf b hb).1, J.ok.exfs b hb, .inl hb, fun x c e => (J.ok.exf b hb).2 x c e, fun p hp => absurd (show p ∈ ([] : List (Addr × Obj)) ++ [] from hp) (by simp)⟩) (fun b hb => (f3 b hb).1.1) w0 (fold1 ce) turns
    (fun H' s' J qq => by
      have K : Inv X pins σ H' s' := I3.call' (ch := fp) J.os J.base J.hok J.bare fun b hb => ⟨(f3 b hb).1.2.2.2.1, (f3 b hb).1.2.1, (f3 b hb).1.2.2.2.2.1, (f3 b hb).1.2.2.2.2.2⟩
      have nC : H' ce.locals = none := J.free
      rw [eL] at nC
      obtain ⟨m, hn, _⟩ := J.loc
      have hn : s'.heap.Ns ce.locals m := hn
      rw [eL] at hn
      obtain ⟨f0, f1, _, f3', f4, f5⟩ := I3.fpOk (Nat.le_refl _) nC
      exact ⟨m, hn, fun h'' sb => ⟨.ref D, H', K.turned (t' := s'.toks) (fun b o hb e => (sb.2 b hb).trans e) f0 f1 f3' f4 f5, rfl, qq⟩⟩)
  exact codeAny_compStart_dict loop (T.self X.A 0 _ _ _ t4' loop)
end
end LN

namespace LN
open PySem PySem.Spec PyProof.Rows L2
/-! the first labels in their order -/
def lets : List Nat := (List.range 26).map (· + 97)
def txt (l : List Nat) : Str := ⟨l.toArray⟩
def aN (k : Nat) : List Nat := List.replicate k 97
def firstsN : List (List Nat) := (List.range 8).map (fun k => aN (k + 1)) ++ (lets.drop 1).map (fun c => aN 7 ++ [c]) ++ ((lets.drop 1).map fun c => (aN 6 ++ [c]) :: lets.map fun d => aN 6 ++ [c, d]).flatten
def firsts : List Str := (firstsN.take 200).map txt
def alpha : Str := "abcdefghijklmnopqrstuvwxyz"
def stepOk (x y : Str) : Bool :=
  if x.length < 8 then decide (x ++ ("a" : Str) = y) else
    decide ((Txt.rstripChars x ("z" : Str)).length ≤ 8) && match atI (Txt.rstripChars x ("z" : Str)).cps.toList (-1) with
    | none => false
    | some c => match Builtin.Str.occurrences alpha ⟨#[c]⟩ 0 alpha.length 1 with
      | [] => false
      | i :: _ => match atI alpha.cps.toList ((i : Int) + 1) with
        | none => false
        | some e => decide (cutS (Txt.rstripChars x ("z" : Str)) none (some (-1)) ++ ⟨#[e]⟩ = y)
theorem firsts_len : firsts.length = 200 := by decide +kernel
theorem firsts_nodup : firsts.Nodup := by decide +kernel
theorem firsts_ok : ∀ x ∈ firsts, PyData.strOk x = true ∧ 1 ≤ x.length ∧ x.length ≤ 8 := by decide +kernel
theorem firsts_step : ∀ i, i < 199 → stepOk (firsts.getD i ("" : Str)) (firsts.getD (i + 1) ("" : Str)) = true := by decide +kernel
end LN

namespace LN
open PySem PySem.Spec PyProof.Rows L2
theorem nodup_le {α : Type} [DecidableEq α] : ∀ (l m : List α), l.Nodup → (∀ x ∈ l, x ∈ m) → l.length ≤ m.length
  | [], _, _, _ => Nat.zero_le _
  | x :: l, m, h, sub => by
    obtain ⟨hx, hl⟩ := List.nodup_cons.mp h
    have mx := sub x List.mem_cons_self
    have ih := nodup_le l (m.erase x) hl fun y hy => (List.mem_erase_of_ne (fun (e : y = x) => hx (by rw [← e]; exact hy))).mpr (sub y (List.mem_cons_of_mem _ hy))
    rw [List.length_erase_of_mem mx] at ih
    have pos : 0 < m.length := List.length_pos_of_mem mx
    simp only [List.length_cons]
    omega
/-- the first of the first labels that are not there -/
def leastOf (there : Str → Bool) : Option Str := firsts.find? fun x => !there x
theorem least_at {there : Str → Bool} {i : Nat} {x : Str} (h : firsts[i]? = some x) (no : there x = false) (before : ∀ j y, j < i → firsts[j]? = some y → there y = true) : leastOf there = some x := by
  unfold leastOf
  have lt := (List.getElem?_eq_some_iff.mp h).1
  have e : firsts = firsts.take i ++ x :: firsts.drop (i + 1) := by
    rw [← (List.getElem?_eq_some_iff.mp h).2]
    rw [List.getElem_cons_drop lt, List.take_append_drop]
  rw [e, List.find?_append]
  have none_ : (firsts.take i).find? (fun x => !there x) = none := by
    rw [List.find?_eq_none]
    intro y hy
    obtain ⟨j, hj, rfl⟩ := List.mem_iff_getElem.mp hy
    rw [List.length_take] at hj
    rw [List.getElem_take, before j _ (by omega) (List.getElem?_eq_getElem (by omega))]
    decide
  rw [none_, Option.none_or, List.find?_cons, no]
  rfl
/-- few things are there: one of the first labels is not -/
theorem few_there {there : Str → Bool} {keys : List Str} (h : ∀ x, there x = true → x ∈ keys) {i : Nat} (hi : i ≤ 200) (before : ∀ j y, j < i → firsts[j]? = some y → there y = true) : i ≤ keys.length := by
  have z := nodup_le (firsts.take i) keys (List.Sublist.nodup (List.take_sublist _ _) firsts_nodup) fun x hx => by
    obtain ⟨j, hj, rfl⟩ := List.mem_iff_getElem.mp hx
    rw [List.length_take] at hj
    rw [List.getElem_take]
    exact h _ (before j _ (by omega) (List.getElem?_eq_getElem (by omega)))
  rw [List.length_take, firsts_len] at z
  omega
theorem firsts_getD {i : Nat} {x : Str} (h : firsts[i]? = some x) : firsts.getD i ("" : Str) = x := by
  rw [List.getD_eq_getElem?_getD, h]
  rfl
def spBehind : Sp := fun vs H Q _ => ∃ (i : Nat) (x y : Str), vs = [.str x] ∧ firsts[i]? = some x ∧ firsts[i + 1]? = some y ∧ Q (.str y) H
def inK (kvs : List (L2.Key × V)) (x : Str) : Bool := (valV kvs (Sum.inr x)).isSome
def spBeyond : Sp := fun vs H Q _ => ∃ (a : Addr) (kvs : List (L2.Key × V)), vs = [.ref a] ∧ H a = some (.dK kvs) ∧ kvs.length ≤ 150 ∧ ∀ x, leastOf (inK kvs) = some x → Q (.str x) H
end LN
namespace LN
open PySem PySem.Spec PyProof.Rows L2
def keyS : L2.Key × V → Option Str
  | (.inr x, _) => some x
  | _ => none
theorem inK_key {kvs : List (L2.Key × V)} {x : Str} (h : inK kvs x = true) : x ∈ kvs.filterMap keyS := by
  unfold inK at h
  cases e : valV kvs (Sum.inr x) with
  | none => rw [e] at h; cases h
  | some v =>
    obtain ⟨p, hp, ep⟩ := List.mem_map.mp (valV_in e)
    obtain ⟨k, y⟩ := p
    obtain rfl : k = Sum.inr x := ep
    exact List.mem_filterMap.mpr ⟨_, hp, rfl⟩
theorem few_keys {kvs : List (L2.Key × V)} {i : Nat} (hi : i ≤ 200) (before : ∀ j y, j < i → firsts[j]? = some y → inK kvs y = true) : i ≤ kvs.length :=
  Nat.le_trans (few_there (fun _ h => inK_key h) hi before) (List.length_filterMap_le _ _)
theorem first_first : firsts[0]? = some ("a" : Str) := by decide +kernel
end LN
namespace LN
open PySem PySem.Spec PyProof.Rows L2
theorem turns_it {J : It} {n : Nat} {G : Hp → Prop} {Y : Nat → Hp → V → Hp → Prop} (w : Walk J n G Y) {H1 : Hp} {stopped : Hp → Prop} {turn : V → Hp → (Hp → Prop) → Prop} (Pv : Nat → Hp → Prop) (h0 : Pv 0 H1) (hG : ∀ i H, i ≤ n → Pv i H → G H)
    (hs : ∀ i x H H', i < n → Pv i H → Y i H x H' → turn x H' (Pv (i + 1))) (hd : ∀ H, Pv n H → stopped H) : ∃ W : Nat → Nat → Hp → Prop, (∃ m, W 0 m H1) ∧ Turns J W stopped turn := by
  refine ⟨fun i m H => m = n - i ∧ i ≤ n ∧ Pv i H, ⟨n, (Nat.sub_zero n).symm, Nat.zero_le n, h0⟩, fun i m H h => ?_⟩
  obtain ⟨em, hi, p⟩ := h
  rcases Nat.lt_or_ge i n with lt | ge
  · exact .inr ⟨w.goes i H lt (hG i H hi p), Pv (i + 1), fun H' p' => ⟨n - (i + 1), by omega, rfl, lt, p'⟩, fun x H' y => hs i x H H' lt p (w.yields i H x H' lt (hG i H hi p) y)⟩
  · have e : i = n := Nat.le_antisymm hi ge
    rw [e] at p
    rw [e]
    exact .inl ⟨w.stops H (hG n H (Nat.le_refl n) p), hd H p⟩
theorem inK_put (kvs : List (L2.Key × V)) (x y : Str) (v : V) : inK (putK kvs (Sum.inr x) v) y = (decide (y = x) || inK kvs y) := by
  unfold inK
  rw [valV_put]
  by_cases e : y = x
  · rw [if_pos (by rw [e]), decide_eq_true e]
    rfl
  · rw [if_neg (fun z => e (Sum.inr.inj z)), decide_eq_false e]
    rfl
/-- a dict whose keys are just these labels -/
structure Keys (kvs : List (L2.Key × V)) (l : List Str) : Prop where
  is : ∀ x, inK kvs x = decide (x ∈ l)
  few : kvs.length ≤ l.length
theorem Keys.nil : Keys [] [] := ⟨fun x => by simp [inK, valV_nil], Nat.le_refl _⟩
theorem Keys.put {kvs : List (L2.Key × V)} {l : List Str} (k : Keys kvs l) (x : Str) (v : V) : Keys (putK kvs (Sum.inr x) v) (l ++ [x]) := by
  refine ⟨fun y => ?_, ?_⟩
  · rw [inK_put, k.is]
    by_cases e : y = x <;> by_cases e2 : y ∈ l <;> simp [e, e2]
  · have := length_putK kvs (Sum.inr x) v
    have := k.few
    rw [List.length_append]
    show _ ≤ l.length + 1
    omega
/-- names in a list -/
structure Names (K : PySem.W.Frag) (H : Hp) (vs : List V) (ns : List (List Str)) : Prop where
  len : vs.length = ns.length
  at_ : ∀ (i : Nat) (v : V), vs[i]? = some v → ∃ p n, ns[i]? = some n ∧ v = .ref p ∧ Nm K H p n
theorem Names.same {K : PySem.W.Frag} {H H' : Hp} {vs : List V} {ns : List (List Str)} (h : Names K H vs ns) (s : Same H H') : Names K H' vs ns :=
  ⟨h.len, fun i v hv => let ⟨p, n, e, r, q⟩ := h.at_ i v hv; ⟨p, n, e, r, same_seqT s q⟩⟩
def inNames (ns : List (List Str)) (x : Str) : Bool := decide (x ∈ ns.flatten)
def spLeast (K : PySem.W.Frag) : Sp := fun vs H Q _ => ∃ (a : Addr) (ps : List V) (ns : List (List Str)), vs = [.ref a] ∧ SqL K H a ps ∧ Names K H ps ns ∧ ns.flatten.length ≤ 150 ∧ ∀ H' x, Same H H' → leastOf (inNames ns) = some x → Q (.str x) H'
end LN
namespace LN
open PySem PySem.Spec PyProof.Rows L2
def spMix (K : PySem.W.Frag) : Sp := fun vs H Q _ => ∃ (b bc l : Addr) (xs : List V), vs = [.ref b, .ref l] ∧ Bag b bc H ∧ l ≠ b ∧ SqL K H l xs ∧ xs.length ≤ 900 ∧ ∀ H' p ys, Drew b bc H H' → H p = none → H' p = some (.lst ys) → ys.Perm xs → Q (.ref p) H'
def spFirsts : Sp := fun vs H Q _ => vs = [.int 200] ∧ ∀ H' p, Same H H' → H p = none → H' p = some (.lst (firsts.map V.str)) → Q (.ref p) H'
theorem txt_app (l m : List Nat) : txt l ++ txt m = txt (l ++ m) := by
  show (⟨l.toArray ++ m.toArray⟩ : Str) = _
  unfold txt
  simp
theorem txt_len (l : List Nat) : (txt l).length = l.length := List.size_toArray
theorem a_mul : ∀ k : Nat, k < 9 → Txt.mul ("a" : Str) (k : Int) = txt (aN k) := by decide +kernel
theorem a_mulOk : ∀ k : Nat, k < 9 → MulOk ("a" : Str) (k : Int) := by
  unfold MulOk
  decide +kernel
end LN
namespace LN
open PySem PySem.Spec PyProof.Rows L2
def strs_ (ls : List (List Nat)) : List V := ls.map fun l => V.str (txt l)
theorem strs_snoc (ls : List (List Nat)) (l : List Nat) : strs_ ls ++ [V.str (txt l)] = strs_ (ls ++ [l]) := by
  unfold strs_
  rw [List.map_append]
  rfl
theorem strs_len (ls : List (List Nat)) : (strs_ ls).length = ls.length := List.length_map _
def ones (i : Nat) : List (List Nat) := (List.range i).map fun k => aN (k + 1)
def sevens (i : Nat) : List (List Nat) := ((lets.drop 1).take i).map fun c => aN 7 ++ [c]
def blkOf (c : Nat) (j : Nat) : List (List Nat) := (aN 6 ++ [c]) :: (lets.take j).map fun d => aN 6 ++ [c, d]
def blks (i : Nat) : List (List Nat) := (((lets.drop 1).take i).map fun c => blkOf c 26).flatten
theorem ones_succ (i : Nat) : ones (i + 1) = ones i ++ [aN (i + 1)] := by
  unfold ones
  rw [List.range_succ, List.map_append]
  rfl
theorem sevens_succ {i c : Nat} (h : (lets.drop 1)[i]? = some c) : sevens (i + 1) = sevens i ++ [aN 7 ++ [c]] := by
  unfold sevens
  rw [List.take_add_one, h, List.map_append]
  rfl
theorem blkOf_succ {c j d : Nat} (h : lets[j]? = some d) : blkOf c (j + 1) = blkOf c j ++ [aN 6 ++ [c, d]] := by
  unfold blkOf
  rw [List.take_add_one, h, List.map_append]
  rfl
theorem blks_succ {i c : Nat} (h : (lets.drop 1)[i]? = some c) : blks (i + 1) = blks i ++ blkOf c 26 := by
  unfold blks
  rw [List.take_add_one, h, List.map_append, List.flatten_append]
  congr 1
theorem blks_len : ∀ i, i ≤ 25 → (blks i).length ≤ 675 := by decide +kernel
theorem all_firsts : (ones 8 ++ sevens 25 ++ blks 25) = firstsN := by decide +kernel
theorem tail_signs : (cutS alpha (some 1) none).cps.toList = lets.drop 1 := by decide +kernel
theorem all_signs : alpha.cps.toList = lets := by decide +kernel
theorem firsts_take : (strs_ firstsN).take 200 = firsts.map V.str := by
  unfold strs_ firsts
  rw [← List.map_take, List.map_map]
  rfl
end LN

namespace LN
open PySem PySem.Spec PyProof.Rows L2
section
variable {K : PySem.W.Frag} {H H' : Hp}
/-- a value that is a name of at most eight labels -/
def AName (K : PySem.W.Frag) (H : Hp) (v : V) : Prop := ∃ p n, v = .ref p ∧ Nm K H p n ∧ Labs n ∧ n.length ≤ 8
def ANames (K : PySem.W.Frag) (H : Hp) (vs : List V) : Prop := ∀ v ∈ vs, AName K H v
theorem ANames.same {vs : List V} (h : ANames K H vs) (s : Same H H') : ANames K H' vs := fun v hv =>
  let ⟨p, n, e, q, r⟩ := h v hv; ⟨p, n, e, same_seqT s q, r⟩
theorem ANames.drew {b bc : Addr} {vs : List V} (h : ANames K H vs) (bag : Bag b bc H) (d : Drew b bc H H') : ANames K H' vs := fun v hv =>
  let ⟨p, n, e, q, r⟩ := h v hv; ⟨p, n, e, d.nm bag.lst q, r⟩
theorem ANames.names : ∀ {vs : List V}, ANames K H vs → ∃ ns, Names K H vs ns ∧ ∀ n ∈ ns, Labs n ∧ n.length ≤ 8
  | [], _ => ⟨[], ⟨rfl, fun i v hv => by cases hv⟩, fun n hn => absurd hn List.not_mem_nil⟩
  | v :: vs, h => by
    obtain ⟨p, n, e, q, r⟩ := h v List.mem_cons_self
    obtain ⟨ns, nm, all⟩ := ANames.names (vs := vs) fun w hw => h w (List.mem_cons_of_mem _ hw)
    refine ⟨n :: ns, ⟨by rw [List.length_cons, List.length_cons, nm.len], fun i w hw => ?_⟩, fun m hm => ?_⟩
    · cases i with
      | zero => cases hw; exact ⟨p, n, rfl, e, q⟩
      | succ i => exact nm.at_ i w hw
    · rcases List.mem_cons.mp hm with rfl | hm
      · exact r
      · exact all m hm
theorem names_dpa : ∀ {vs : List V} {ns : List (List Str)}, Names K H vs ns → DpAll K H vs (ns.map nameD)
  | [], [], _ => .nil
  | [], n :: ns, h => by have := h.len; cases this
  | v :: vs, [], h => by have := h.len; cases this
  | v :: vs, n :: ns, h => by
    obtain ⟨p, m, e, rfl, q⟩ := h.at_ 0 v rfl
    cases e
    exact .cons (nm_dp q) (names_dpa ⟨Nat.succ.inj h.len, fun i w hw => h.at_ (i + 1) w hw⟩)
end
theorem flat_len8 : ∀ {ns : List (List Str)}, (∀ n ∈ ns, Labs n ∧ n.length ≤ 8) → ns.flatten.length ≤ 8 * ns.length
  | [], _ => Nat.le_refl _
  | n :: ns, h => by
    have ih := flat_len8 (ns := ns) fun m hm => h m (List.mem_cons_of_mem _ hm)
    have := (h n List.mem_cons_self).2
    rw [List.flatten_cons, List.length_append, List.length_cons]
    omega
theorem Keys.merge : ∀ (l : List Str) {kvs : List (L2.Key × V)} {m : List Str}, Keys kvs m → Keys (mergeK kvs (l.map fun x => (Sum.inr x, V.bl true))) (m ++ l)
  | [], _, _, h => by rw [List.append_nil]; exact h
  | x :: l, kvs, m, h => by
    have z := Keys.merge l (h.put x (.bl true))
    rw [List.append_assoc] at z
    exact z
theorem least_some {ns : List (List Str)} (few : ns.flatten.length ≤ 150) : ∃ x, leastOf (inNames ns) = some x := by
  cases e : leastOf (inNames ns) with
  | some x => exact ⟨x, rfl⟩
  | none =>
    have all := List.find?_eq_none.mp e
    have z := few_there (there := inNames ns) (keys := ns.flatten) (fun x h => of_decide_eq_true h) (i := 200) (Nat.le_refl _) fun j y _ hy => by
      have := all y (List.mem_of_getElem? hy)
      cases q : inNames ns y with
      | true => rfl
      | false => rw [q] at this; exact absurd rfl this
    omega
def notIn (ns : List (List Str)) (i : Nat) : List Str := (firsts.take i).filter fun x => !inNames ns x
theorem notIn_head (ns : List (List Str)) : (notIn ns firsts.length)[0]? = leastOf (inNames ns) := by
  unfold notIn leastOf
  rw [List.take_length, ← List.head?_filter, List.head?_eq_getElem?]
theorem labs_firsts : Labs firsts := fun x hx => ⟨(firsts_ok x hx).1, Nat.le_trans (firsts_ok x hx).2.2 (by decide)⟩
end LN
namespace LN
open PySem PySem.Spec PyProof.Rows L2
def rListOf (K : PySem.W.Frag) : List V → Hp → VK → Prop := fun vs H Q => ∃ p ys, vs = [.ref p] ∧ (SqL K H p ys ∨ SqT K H p ys) ∧ ∀ l, H l = none → Q (.ref l) (upd H l (.lst ys))
theorem to_list {X : Cx} : CallR X (.type "list") (rListOf X.K) := call_list_of
theorem eights : ∀ j : Nat, j ≤ 130 → ∃ n : Nat, RgC 0 (j : Int) 8 n ∧ n ≤ 17 := by
  have all : ∀ j : Nat, j < 131 → (Builtin.Range.small 0 (j : Int) 8 && decide (0 ≤ Builtin.Range.rangeSize 0 (j : Int) 8 ∧ Builtin.Range.rangeSize 0 (j : Int) 8 ≤ 17)) = true := by decide +kernel
  intro j hj
  have z := all j (by omega)
  rw [Bool.and_eq_true] at z
  obtain ⟨z0, z1⟩ := of_decide_eq_true z.2
  exact ⟨_, ⟨by decide, by decide, z.1, (Int.toNat_of_nonneg z0).symm⟩, by omega⟩
end LN
namespace LN
open PySem PySem.Spec PyProof.Rows L2
theorem strs_of : ∀ {ys : List V}, (∀ v ∈ ys, ∃ x, v = V.str x ∧ Lab x) → ∃ zs : List Str, ys = zs.map V.str ∧ Labs zs
  | [], _ => ⟨[], rfl, Labs.nil⟩
  | v :: ys, h => by
    obtain ⟨x, rfl, lx⟩ := h v List.mem_cons_self
    obtain ⟨zs, rfl, lz⟩ := strs_of (ys := ys) fun w hw => h w (List.mem_cons_of_mem _ hw)
    exact ⟨x :: zs, rfl, Labs.cons lx lz⟩
theorem cut_eight {ls : List Str} {k : Nat} (lab : Labs ls) : ∃ n : List Str, cutV (ls.map V.str) (some (0 + (k : Nat) * 8)) (some (0 + (k : Nat) * 8 + 8)) = n.map V.str ∧ Labs n ∧ n.length ≤ 8 := by
  have a1 : (0 : Int) + (k : Nat) * 8 = ((k * 8 : Nat) : Int) := by omega
  have a2 : (0 : Int) + (k : Nat) * 8 + 8 = ((k * 8 + 8 : Nat) : Int) := by omega
  unfold cutV
  rw [a2, a1, HT.sIx_nat, HT.sIx_nat]
  refine ⟨(ls.drop (min (k * 8) (ls.map V.str).length)).take (min (k * 8 + 8) (ls.map V.str).length - min (k * 8) (ls.map V.str).length), by rw [List.map_take, List.map_drop], (lab.drop _).take _, ?_⟩
  rw [List.length_take]
  omega
/-- sum(lists, []), its end as one -/
def rSumS (K : PySem.W.Frag) : List V → Hp → VK → Prop := fun vs H Q => ∃ (l b : Addr) (ps : List Addr) (xss : List (List V)), vs = [.ref l, .ref b] ∧ SqL K H l (ps.map V.ref) ∧ H b = some (.lst []) ∧ ps.length = xss.length ∧ (∀ (i : Nat) (p : Addr) (xs : List V), ps[i]? = some p → xss[i]? = some xs → H p = some (.lst xs)) ∧ xss.flatten.length ≤ sizeLine ∧
  ∀ T H', Same H H' → H' T = some (.lst xss.flatten) → Q (.ref T) H'
theorem cr_sumS {X : Cx} (hc : X.calm = true) : CallR X (.builtin "sum") (rSumS X.K) := by
  intro pins s σ H vs us Q I r h
  obtain ⟨l, b, ps, xss, e, hs, hb, hn, parts, small, k⟩ := h
  refine cr_sumL hc pins s σ H vs us Q I r ⟨l, b, ps, xss, e, hs, hb, hn, parts, small, fun z => k b H (Same.refl H) ?_, fun T nT => k T _ (same_put nT) upd_same⟩
  have x0 : xss = [] := List.length_eq_zero_iff.mp (by rw [← hn, z]; rfl)
  rw [x0]
  exact hb
theorem least_nil : leastOf (inNames []) = some ("a" : Str) := by decide +kernel
theorem least_empty : leastOf (inNames [[]]) = some ("a" : Str) := by decide +kernel
end LN
namespace LN
open PySem PySem.Spec PyProof.Rows L2
theorem eqv_none : ∀ {xs : List PyData}, PyData.eqv (.list xs) (.list []) = decide (xs = [])
  | [] => rfl
  | _ :: _ => rfl
end LN

namespace K15
open PySem PySem.Spec PyProof.Rows L2 LN
def topS (i : Nat) : Stmt := PySem.Challenge.pw_listnames_k15_least_labels.main.body.getD i (.Pass ⟨0, 0, 0, 0⟩)
abbrev s_label_behind : Stmt := topS 2
abbrev s_label_beyond : Stmt := topS 3
abbrev s_least_label : Stmt := topS 4
abbrev s_law_bag : Stmt := topS 6
abbrev s_law_take : Stmt := topS 7
abbrev s_law_mix : Stmt := topS 8
abbrev s_law_labels : Stmt := topS 9
abbrev s_law_first_labels : Stmt := topS 10
abbrev s_law : Stmt := topS 11
section
variable {P : Program} {w : World} {K : PySem.W.Frag} {mg : Str → Option Value} {base : Heap}
theorem scBag : FnScope ["_law_script", "_law_cell"] ["_law_script"] (defScope s_law_bag) := ⟨rfl, rfl, rfl, by decide +kernel, rfl, by decide +kernel, by decide +kernel⟩
theorem ok_bag {f : Addr} {fd : FuncData} (F : Fun K "_law_bag" "_law_bag" s_law_bag f fd) (ma : mg "abs" = none) : FnOk P w K mg base CX0 1 f fd ["_law_script"] (spBag K) := by
  refine F.ok scBag (fun vs H Q E h => ?_) (fun cdv A outer s H vs Q E hr h => ?_)
  · obtain ⟨a, ns, rfl, _⟩ := h
    rfl
  obtain ⟨a, ns, rfl, hS, hlen, q⟩ := h
  refine ⟨_, pss_one (ps_ret (pe_lst (pa_cons pe_int (pa_cons pe_int (pa_cons pe_int (pa_cons
    (pe_lc (own := [("_law_cell", 1)]) (g := gName 1) (tt := tYes) rfl scBag.nd (pi_list (pe_slice sl_list (pv 0) po_none (po_some pe_int)))
      (blkOk_by (N := ["_law_script", "_law_cell"]) (sc := defScope s_law_bag) (by decide +kernel)) (fun _ _ _ _ _ => pg_name (i := 1) scBag.nd rfl (Or.inl rfl)) (fun _ _ _ _ _ => pts_nil)
      (fun _ _ _ _ _ => pe_callB call_abs (by rfl) ma (by decide +kernel) (pa_cons (pv 1) pa_nil))) pa_nil)))))), ?_⟩
  refine ⟨.ref a, rfl, 63, rfl, a, _, rfl, hS, fun p np => ?_⟩
  have s1 : Same H (upd H p (.lst (cutV (ns.map V.int) none (some 63)))) := same_put np
  refine ⟨p, rfl, ⟨_, .inl (.inl upd_same)⟩, fun D nD => ?_⟩
  have nDp : D ≠ p := fun e => by rw [e, upd_same] at nD; cases nD
  have s2 := s1.trans (same_put (o := .lst []) nD)
  refine lc_list (K := K) (a := p) (xs := cutV (ns.map V.int) none (some 63))
    (fun i G => ∃ ms : List Int, ms.length = i ∧ G D = some (.lst (ms.map V.int)) ∧ Same H G ∧ G p = some (.lst (cutV (ns.map V.int) none (some 63))))
    ⟨[], rfl, upd_same, s2, by rw [upd_ne nDp.symm]; exact upd_same⟩ (fun i G _ h => .inl (.inl h.choose_spec.2.2.2)) (fun i x G hx h => ?_) (fun G h => ?_)
  · obtain ⟨ms, hm, eD, sm, ep⟩ := h
    have hx' := List.mem_of_getElem? hx
    have : x ∈ ns.map V.int := by
      unfold cutV at hx'
      exact List.mem_of_mem_drop (List.mem_of_mem_take hx')
    obtain ⟨n, _, rfl⟩ := List.mem_map.mp this
    have hi : i < 64 := by
      have h1 := (List.getElem?_eq_some_iff.mp hx).1
      have h2 := cutV_length (ns.map V.int) none (some 63)
      rw [List.length_map] at h2
      omega
    have hn : H D = none := s1.free nD
    refine ⟨rfl, .int n, rfl, n, rfl, ms.map V.int, eD, ?_, ms ++ [if n < 0 then -n else n], ?_, ?_, ?_, ?_⟩
    · rw [List.length_map, hm]
      exact small1000 (by omega)
    · rw [List.length_append, hm]
      rfl
    · rw [upd_same, List.map_append]
      rfl
    · exact fun b o e => by rw [upd_ne (ne_of_none e hn)]; exact sm _ _ e
    · rw [upd_ne nDp.symm]
      exact ep
  · obtain ⟨ms, hm, eD, sm, ep⟩ := h
    refine ⟨by show 4 ≤ sizeLine; decide, fun b nb => ?_⟩
    refine q _ b D (sm.trans (same_put nb)) (sm.free nb) (s1.free nD) ⟨0, 1234567891, 0, ms, ne_of_none eD nb, upd_same, ?_, by decide, by decide, by decide⟩
    rw [upd_ne (ne_of_none eD nb)]
    exact eD

theorem scTake : FnScope ["_law_bag_here", "_law_many", "_law_cell", "_law_more", "_law_drawn"] ["_law_bag_here", "_law_many"] (defScope s_law_take) := ⟨rfl, rfl, rfl, by decide +kernel, rfl, by decide +kernel, by decide +kernel⟩
theorem ok_take {f : Addr} {fd : FuncData} (F : Fun K "_law_take" "_law_take" s_law_take f fd) (ml : mg "len" = none) (mi : mg "int" = none) : FnOk P w K mg base CX0 1 f fd ["_law_bag_here", "_law_many"] spTake := by
  refine F.ok scTake (fun vs H Q E h => ?_) (fun cdv A outer s H vs Q E hr h => ?_)
  · obtain ⟨b, bc, m, rfl, _⟩ := h
    rfl
  obtain ⟨b, c, m, rfl, bag, m1, m2, q⟩ := h
  have nd := scTake.nd
  refine ⟨_, C8.pss_cut (ps_if (pt_cmpR op_eq (pe_ix ix_list (pv 0) pe_int (fun _ _ => rfl)) pe_int (nomark _))
      (pss_cons (ps_set (i := 2) nd rfl (.inl rfl) pe_int)
      (C8.pss_cut (ps_if (pt_cmpR op_lt (pe_ix ix_list (pv 0) pe_int (fun _ _ => rfl)) (pe_callB call_len_seq (by rfl) ml PySem.boot_len (pa_cons (pe_ix ix_list (pv 0) pe_int (fun _ _ => rfl)) pa_nil)) (nomark _))
        (pss_one (ps_set (i := 2) nd rfl (.inl rfl) (pe_ix ix_list (pe_ix ix_list (pv 0) pe_int (fun _ _ => rfl)) (pe_ix ix_list (pv 0) pe_int (fun _ _ => rfl)) (fun _ _ => rfl)))) pss_nil)
      (pss_cons (ps_augS (pv 0) pe_int get_list pe_int ip_add set_list)
      (C8.pss_cut (ps_if (pt_cmpR op_ge (pv 2) pe_int (nomark _)) (pss_one (ps_asg (pv 2) (pg_sub (pv 0) pe_int set_list))) pss_nil)
      (pss_cons (ps_set (i := 3) nd rfl (.inl rfl) (pe_op op_add (pe_op op_mod (pe_callTy call_int1 (by rfl) mi (by decide +kernel) (pa_cons (pv 2) pa_nil)) pe_int)
          (pe_op op_mul pe_int (pe_ix ix_list (pv 0) pe_int (fun _ _ => rfl)))))
      (pss_one (ps_asg (pe_op op_mod (pe_callTy call_int1 (by rfl) mi (by decide +kernel) (pa_cons (pe_op op_add (pe_op op_mul (pe_ix ix_list (pv 0) pe_int (fun _ _ => rfl)) pe_int) (pv 3)) pa_nil)) pe_int) (pg_sub (pv 0) pe_int set_list)))))))) pss_nil)
    (pss_cons (ps_if (pt_cmpR op_gt (pe_ix ix_list (pv 0) pe_int (fun _ _ => rfl)) pe_int (nomark _))
      (pss_cons (ps_set (i := 4) nd rfl (.inl rfl) (pe_op op_mod (pe_callTy call_int1 (by rfl) mi (by decide +kernel) (pa_cons (pe_ix ix_list (pv 0) pe_int (fun _ _ => rfl)) pa_nil)) (pv 1)))
      (pss_cons (ps_asg (pe_op op_fdiv (pe_ix ix_list (pv 0) pe_int (fun _ _ => rfl)) (pv 1)) (pg_sub (pv 0) pe_int set_list)) (pss_one (ps_ret (pv 4))))) pss_nil)
    (C8.pss_cut (ps_asg (pe_op op_mod (pe_callTy call_int1 (by rfl) mi (by decide +kernel) (pa_cons (pe_op op_add (pe_op op_mul (pe_ix ix_list (pv 0) pe_int (fun _ _ => rfl)) pe_int) pe_int) pa_nil)) pe_int) (pg_sub (pv 0) pe_int set_list))
    (pss_one (ps_ret (pe_op op_mod (pe_callTy call_int1 (by rfl) mi (by decide +kernel) (pa_cons (pe_op op_fdiv (pe_ix ix_list (pv 0) pe_int (fun _ _ => rfl)) pe_int) pa_nil)) (pv 1)))))), ?_⟩
  obtain ⟨x0, x1, x2, ns, hcb, hb, hc, h1, h2, h3⟩ := bag
  let G : Int → Int → Int → Hp := fun x0 x1 x2 => upd H b (.lst [.int x0, .int x1, .int x2, .ref c])
  have gc : ∀ x0 x1 x2, G x0 x1 x2 c = some (.lst (ns.map V.int)) := fun x0 x1 x2 => (upd_ne hcb).trans hc
  have gb : ∀ x0 x1 x2, G x0 x1 x2 b = some (.lst [.int x0, .int x1, .int x2, .ref c]) := fun x0 x1 x2 => upd_same
  have st : ∀ x0 x1 x2 z0 z1 z2, upd (G x0 x1 x2) b (.lst [.int z0, .int z1, .int z2, .ref c]) = G z0 z1 z2 := fun _ _ _ _ _ _ => upd_upd
  have g0 : H = G x0 x1 x2 := (upd_own hb).symm
  have dr : ∀ z0 z1 z2, 0 ≤ z1 → z1 < 2147483647 → 0 ≤ z2 → Drew b c H (G z0 z1 z2) := fun z0 z1 z2 k1 k2 k3 =>
    ⟨⟨z0, z1, z2, ns, hcb, gb _ _ _, gc _ _ _, k1, k2, k3⟩, fun a o n e => (upd_ne n).trans e, fun a e z => by
      by_cases ea : a = b
      · rw [ea] at z
        exact absurd ((gb z0 z1 z2).symm.trans z) (Option.some_ne_none _)
      · exact e ((upd_ne (o := .lst [.int z0, .int z1, .int z2, .ref c]) ea).symm.trans z)⟩
  clear_value G
  subst g0
  have modr : ∀ z : Int, 0 ≤ z % 2147483647 ∧ z % 2147483647 < 2147483647 := fun z => ⟨Int.emod_nonneg z (by decide), Int.emod_lt_of_pos z (by decide)⟩
  have nat : ∀ z : Int, ∃ r : Nat, z % (m : Int) = (r : Int) ∧ r < m := fun z => by
    have a1 : 0 ≤ z % (m : Int) := Int.emod_nonneg z (by omega)
    have a2 : z % (m : Int) < (m : Int) := Int.emod_lt_of_pos z (by omega)
    exact ⟨(z % (m : Int)).toNat, by omega, by omega⟩
  refine ⟨fun σ' H' => ∃ y2 y3 z0 z1 z2, σ' = [some (.ref b), some (.int m), y2, y3, none] ∧ H' = G z0 z1 z2 ∧ 0 ≤ z1 ∧ z1 < 2147483647 ∧ 0 ≤ z2, ?_, ?_⟩
  · refine ⟨.ref b, rfl, b, _, 0, _, rfl, rfl, .inl (.inl (gb _ _ _)), rfl, rfl, _, rfl, ite2 (fun _ => ?_) (fun _ => ?_)⟩
    · refine ⟨fun σ' H' => ∃ z, σ' = [some (.ref b), some (.int m), some (.int z), none, none] ∧ H' = G x0 x1 x2, ?_, ?_⟩
      · refine ⟨.ref b, rfl, b, _, 2, _, rfl, rfl, .inl (.inl (gb _ _ _)), rfl, .ref b, rfl, b, _, 3, _, rfl, rfl, .inl (.inl (gb _ _ _)), rfl, c, _, rfl, .inl (.inl (.inl (gc _ _ _))), ?_⟩
        refine ⟨_, _, rfl, rfl, _, rfl, ite2 (fun e => ?_) (fun _ => ⟨0, rfl, rfl⟩)⟩
        have lt := of_decide_eq_true e
        rw [List.length_map] at lt
        obtain ⟨k, rfl⟩ := Int.eq_ofNat_of_zero_le h3
        have hk : k < ns.length := by omega
        refine ⟨.ref b, rfl, b, _, 3, _, rfl, rfl, .inl (.inl (gb _ _ _)), rfl, .ref b, rfl, b, _, 2, _, rfl, rfl, .inl (.inl (gb _ _ _)), rfl, c, _, k, .int ns[k], rfl, rfl, .inl (.inl (gc _ _ _)), atI_nat ?_, ⟨_, rfl, rfl⟩⟩
        rw [List.getElem?_map, List.getElem?_eq_getElem hk]
        rfl
      · rintro _ _ ⟨z, rfl, rfl⟩
        refine ⟨.ref b, rfl, b, _, 2, _, rfl, rfl, by decide, gb _ _ _, rfl, _, _, rfl, rfl, b, _, _, _, rfl, rfl, gb _ _ _, rfl, ?_⟩
        show C8.tCut _ _ _ _ (upd (G x0 x1 x2) b (.lst [.int x0, .int x1, .int (x2 + 1), .ref c]))
        rw [st]
        refine ⟨fun σ' H' => ∃ z z0, σ' = [some (.ref b), some (.int m), some (.int z), none, none] ∧ H' = G z0 x1 (x2 + 1), ?_, ?_⟩
        · refine ⟨_, rfl, _, _, rfl, rfl, _, rfl, ite2 (fun _ => ?_) (fun _ => ⟨_, _, rfl, rfl⟩)⟩
          refine ⟨_, rfl, .ref b, rfl, b, _, 0, _, rfl, rfl, gb _ _ _, rfl, ⟨z, z, rfl, ?_⟩⟩
          exact st _ _ _ _ _ _
        · rintro _ _ ⟨z, z0, rfl, rfl⟩
          refine ⟨_, rfl, .inl ⟨z, rfl, _, _, rfl, rfl, (by show (0 : Int) < 2147483647; decide), .ref b, rfl, b, _, 2, _, rfl, rfl, .inl (.inl (gb _ _ _)), rfl, _, _, rfl, rfl, .inl ⟨by decide, by decide⟩, _, _, rfl, rfl, ?_⟩⟩
          refine ⟨.ref b, rfl, b, _, 1, _, rfl, rfl, .inl (.inl (gb _ _ _)), rfl, _, _, rfl, rfl, .inl ⟨by omega, by omega⟩, _, rfl, _, _, rfl, rfl, .inl ⟨_, rfl, _, _, rfl, rfl, (by show (0 : Int) < 2147483647; decide), ?_⟩⟩
          refine ⟨.ref b, rfl, b, _, 1, _, rfl, rfl, gb _ _ _, rfl, ⟨_, _, z0, _, x2 + 1, rfl, st _ _ _ _ _ _, (modr _).1, (modr _).2, by omega⟩⟩
    · exact ⟨none, none, x0, x1, x2, rfl, rfl, h1, h2, h3⟩
  · rintro _ _ ⟨y2, y3, z0, z1, z2, rfl, rfl, k1, k2, k3⟩
    refine ⟨.ref b, rfl, b, _, 0, _, rfl, rfl, .inl (.inl (gb _ _ _)), rfl, _, _, rfl, rfl, _, rfl, ite2 (fun _ => ?_) (fun _ => ?_)⟩
    · obtain ⟨r, er, hr'⟩ := nat z0
      refine ⟨.ref b, rfl, b, _, 0, _, rfl, rfl, .inl (.inl (gb _ _ _)), rfl, .inl ⟨_, rfl, _, rfl, _, _, rfl, rfl, (by show (0 : Int) < (m : Int); omega), ?_⟩⟩
      refine ⟨.ref b, rfl, b, _, 0, _, rfl, rfl, .inl (.inl (gb _ _ _)), rfl, _, rfl, _, _, rfl, rfl, ⟨by omega, by omega⟩, .ref b, rfl, b, _, 0, _, rfl, rfl, gb _ _ _, rfl, _, rfl, ?_⟩
      show Q (V.int (z0 % (m : Int))) _
      rw [er]
      refine q _ r ?_ hr'
      show Drew b c _ (upd (G z0 z1 z2) b (.lst [.int (z0 / (m : Int)), .int z1, .int z2, .ref c]))
      rw [st]
      exact dr _ _ _ k1 k2 k3
    · refine ⟨fun σ' H' => σ' = [some (.ref b), some (.int m), y2, y3, none] ∧ H' = G z0 ((z1 * 48271 + 11) % 2147483647) z2, ⟨.ref b, rfl, b, _, 1, _, rfl, rfl, .inl (.inl (gb _ _ _)), rfl, _, _, rfl, rfl, .inl ⟨by omega, by omega⟩, _, _, rfl, rfl, .inl ⟨_, rfl, _, _, rfl, rfl, (by show (0 : Int) < 2147483647; decide), ?_⟩⟩, ?_⟩
      · exact ⟨.ref b, rfl, b, _, 1, _, rfl, rfl, gb _ _ _, rfl, rfl, st _ _ _ _ _ _⟩
      rintro _ _ ⟨rfl, rfl⟩
      obtain ⟨r, er, hr'⟩ := nat ((z1 * 48271 + 11) % 2147483647 / 64)
      refine ⟨.ref b, rfl, b, _, 1, _, rfl, rfl, .inl (.inl (gb _ _ _)), rfl, _, _, rfl, rfl, ⟨by decide, by decide⟩, .inl ⟨_, rfl, _, rfl, _, _, rfl, rfl, (by show (0 : Int) < (m : Int); omega), ?_⟩⟩
      show Q (V.int ((z1 * 48271 + 11) % 2147483647 / 64 % (m : Int))) _
      rw [er]
      exact q _ r (dr _ _ _ (modr _).1 (modr _).2 k3) hr'

theorem scLabels : FnScope ["_law_bag_here", "_law_many", "_law_turn", "_law_stem", "_law_letters", "_law_k"] ["_law_bag_here", "_law_many"] (defScope s_law_labels) := ⟨rfl, rfl, rfl, by decide +kernel, rfl, by decide +kernel, by decide +kernel⟩
theorem ok_labels {f ft : Addr} {fd fdt : FuncData} (F : Fun K "_law_labels" "_law_labels" s_law_labels f fd) (DT : Df K mg "_law_take" s_law_take ["_law_bag_here", "_law_many"] ft fdt)
    (GT : FnOk P w K mg base CX0 1 ft fdt ["_law_bag_here", "_law_many"] spTake) (mi : mg "int" = none) (mr : mg "range" = none) : FnOk P w K mg base CX0 2 f fd ["_law_bag_here", "_law_many"] spLabels := by
  refine F.ok scLabels (fun vs H Q E h => ?_) (fun cdv A outer s H vs Q E hr h => ?_)
  · obtain ⟨b, bc, n, rfl, _⟩ := h
    rfl
  obtain ⟨b, bc, n, rfl, bag, hn, q⟩ := h
  have nd := scLabels.nd
  refine ⟨_, pss_cons (ps_asg (pe_tup (pa_cons (pcall DT GT hr (pa_cons (pv 0) (pa_cons pe_int pa_nil))) (pa_cons
      (pe_ix ix_list (pe_lst (pa_cons pe_str (pa_cons pe_str (pa_cons pe_str (pa_cons pe_str pa_nil))))) (pcall DT GT hr (pa_cons (pv 0) (pa_cons pe_int pa_nil))) (fun _ _ => rfl)) pa_nil)))
      (pg_tup rfl (pgs_cons (pg_name (i := 2) nd rfl (.inr rfl)) (pgs_cons (pg_name (i := 3) nd rfl (.inr rfl)) pgs_nil))))
    (pss_cons (ps_asg pe_str (pg_name (i := 4) nd rfl (.inr rfl)))
    (pss_one (ps_ret (pe_lc (own := [("_law_k", 5)]) (g := gName 5) (tt := tYes) rfl nd (pi_range1 (by rfl) mr (pa_cons (pv 1) pa_nil))
      (blkOk_by (N := ["_law_bag_here", "_law_many", "_law_turn", "_law_stem", "_law_letters", "_law_k"]) (sc := defScope s_law_labels) (by decide +kernel)) (fun _ _ _ _ _ => pg_name (i := 5) nd rfl (Or.inl rfl)) (fun _ _ _ _ _ => pts_nil)
      (fun _ _ _ _ _ => pe_op op_add_str (pe_op op_mulStr (pv 3) (pe_callTy call_int1 (by rfl) mi (by decide +kernel) (pa_cons (pe_op op_mod (pe_callTy call_int1 (by rfl) mi (by decide +kernel) (pa_cons (pv 5) pa_nil)) pe_int) pa_nil)))
        (pe_item_str (pv 4) (pe_op op_mod (pe_callTy call_int1 (by rfl) mi (by decide +kernel) (pa_cons (pe_op op_add (pv 2) (pe_op op_mul pe_int (pv 5))) pa_nil)) pe_int) (fun _ _ => rfl))))))), ?_⟩
  refine ⟨.ref b, rfl, b, bc, 26, rfl, bag, by decide, by decide, fun H1 r1 d1 l1 => ?_⟩
  refine ⟨by show 4 ≤ sizeLine; decide, fun l nl => ?_⟩
  have nlb : l ≠ b := fun e => by
    obtain ⟨xs, hx⟩ := d1.bag.lst
    rw [e, hx] at nl
    cases nl
  refine ⟨.ref b, rfl, b, bc, 4, rfl, d1.bag.same (same_put nl), by decide, by decide, fun H3 r2 d3 l2 => ?_⟩
  have sl : SqL K H3 l (stems.map V.str) := drew_seq d3 nlb (.inl (.inl upd_same))
  have hst : (stems.map V.str)[r2]? = some (V.str stems[r2]) := by
    rw [List.getElem?_map, List.getElem?_eq_getElem (show r2 < stems.length from l2)]
    rfl
  have okst := stem_ok stems[r2] (List.getElem_mem _)
  refine ⟨l, _, _, _, rfl, rfl, sl, atI_nat hst, by show 2 ≤ sizeLine; decide, fun T nT => ?_⟩
  have d4 : Drew b bc H (upd H3 T (.tup [.int r1, .str stems[r2]])) := ((d1.same (same_put nl)).trans d3).same (same_put nT)
  refine ⟨T, _, rfl, .inl (.inl upd_same), rfl, _, _, rfl, _, _, rfl, rfl, ?_⟩
  refine ⟨_, rfl, _, rfl, by omega, by omega, fun D nD => ?_⟩
  generalize hG4 : upd H3 T (.tup [.int r1, .str stems[r2]]) = H4 at *
  refine lc_range (lo := 0) (n := n) (fun i G => ∃ ls : List Str, G D = some (.lst (ls.map V.str)) ∧ Same H4 G ∧ Labs ls ∧ (∀ x ∈ ls, x.length ≤ 10) ∧ ls.length = i)
    ⟨[], upd_same, same_put nD, Labs.nil, fun _ h => absurd h List.not_mem_nil, rfl⟩ (fun i G hi h => ?_) (fun G h => ?_)
  · obtain ⟨ls, eD, sm, lab, few, hl⟩ := h
    have e0 : (0 : Int) + (i : Nat) = (i : Nat) := Int.zero_add _
    obtain ⟨mok, mis⟩ := mul_few (x := stems[r2]) (k := ((0 : Int) + (i : Nat)) % 2) (by omega) (by omega)
    have mlab : PyData.strOk (Txt.mul stems[r2] (((0 : Int) + (i : Nat)) % 2)) = true ∧ (Txt.mul stems[r2] (((0 : Int) + (i : Nat)) % 2)).length ≤ 7 := by
      rcases mis with e | e
      · rw [e]; exact ⟨by decide +kernel, by decide +kernel⟩
      · rw [e]; exact okst
    have hj : (((r1 : Int) + 3 * ((0 : Int) + (i : Nat))) % 26).toNat < 26 := by omega
    obtain ⟨c, ec, hc⟩ := letters_at hj
    have one : (Str.mk #[c]).length = 1 := rfl
    refine ⟨rfl, _, rfl, _, rfl, .inl ⟨_, rfl, _, _, rfl, rfl, (by show (0 : Int) < 2; decide), .inl ⟨_, rfl, _, _, rfl, rfl, mok, ?_⟩⟩⟩
    refine ⟨_, rfl, _, rfl, _, rfl, _, _, rfl, rfl, .inl ⟨by decide, by decide⟩, _, _, rfl, rfl, .inl ⟨_, rfl, _, _, rfl, rfl, (by show (0 : Int) < 26; decide), ?_⟩⟩
    refine ⟨letters, ((r1 : Int) + 3 * ((0 : Int) + (i : Nat))) % 26, c, rfl, rfl, by omega, by omega, ?_, ec, _, _, rfl, rfl, ?_, ls.map V.str, eD, small1000 (by rw [List.length_map]; omega), ls ++ [Txt.mul stems[r2] (((0 : Int) + (i : Nat)) % 2) ++ ⟨#[c]⟩], ?_, ?_, ?_, ?_, ?_⟩
    · show _ < ((26 : Nat) : Int)
      omega
    · rw [one, sizeLine_eq]
      have := mlab.2
      omega
    · rw [upd_same, List.map_append]
      rfl
    · exact fun a o e => by rw [upd_ne (ne_of_none e nD)]; exact sm _ _ e
    · refine lab.append (Labs.cons ⟨strOk_cat mlab.1 (strOk_one hc), ?_⟩ Labs.nil)
      rw [strLen_append, one]
      have := mlab.2
      omega
    · intro x hx
      rcases List.mem_append.mp hx with hx | hx
      · exact few x hx
      · rw [List.mem_singleton.mp hx, strLen_append, one]
        have := mlab.2
        omega
    · rw [List.length_append, hl]
      rfl
  · obtain ⟨ls, eD, sm, lab, few, hl⟩ := h
    exact q G D ls (d4.same sm) (d4.free nD) eD lab few hl

theorem scBehind : FnScope ["label", "kept", "letters"] ["label"] (defScope s_label_behind) := ⟨rfl, rfl, rfl, by decide +kernel, rfl, by decide +kernel, by decide +kernel⟩
theorem ok_behind {f : Addr} {fd : FuncData} {tk : Tok} (F : Fun K "label_behind" "label_behind" s_label_behind f fd) (ml : mg "len" = none) (mL : mg "LABEL_SIGNS" = some (.int 8 tk)) : FnOk P w K mg base CX0 1 f fd ["label"] spBehind := by
  refine F.ok scBehind (fun vs H Q E h => ?_) (fun cdv A outer s H vs Q E hr h => ?_)
  · obtain ⟨i, x, y, rfl, _⟩ := h
    rfl
  obtain ⟨i, x, y, rfl, hx, hy, q⟩ := h
  have nd := scBehind.nd
  refine ⟨_, pss_cons (ps_if (pt_cmpR op_lt (pe_callB call_len_str (by rfl) ml PySem.boot_len (pa_cons (pv 0) pa_nil)) (pe_glob (v := .int 8) rfl mL ⟨_, rfl⟩) (nomark _)) (pss_one (ps_ret (pe_op op_add_str (pv 0) pe_str))) pss_nil)
    (pss_cons (ps_set (i := 1) nd rfl (.inl rfl) (pe_bm PySem.F.plainAttrs_str PySem.F.slot_str_rstrip PySem.F.type_str_rstrip mt_rstripChars (pv 0) (pa_cons pe_str pa_nil)))
    (pss_cons (ps_set (i := 2) nd rfl (.inl rfl) pe_str)
    (pss_one (ps_ret (pe_op op_add_str (pe_slice sl_str (pv 1) po_none (po_some (pe_un un_neg pe_int)))
      (pe_ix ix_str (pv 2) (pe_op op_add (pe_bm PySem.F.plainAttrs_str PySem.F.slot_str_index PySem.F.type_str_index mt_sindex (pv 2) (pa_cons (pe_ix ix_str (pv 1) (pe_un un_neg pe_int) (fun _ _ => rfl)) pa_nil)) pe_int) (fun _ _ => rfl))))))), ?_⟩
  have okx := firsts_ok x (List.mem_of_getElem? hx)
  have lt : i < 199 := by
    have := (List.getElem?_eq_some_iff.mp hy).1
    rw [firsts_len] at this
    omega
  have st := firsts_step i lt
  rw [firsts_getD hx, firsts_getD hy] at st
  unfold stepOk at st
  have line : x.length ≤ sizeLine := by rw [sizeLine_eq]; omega
  refine ⟨.str x, rfl, x, rfl, line, _, _, rfl, rfl, _, rfl, ite2 (fun h1 => ?_) (fun h1 => ?_)⟩
  · have h1 := of_decide_eq_true h1
    rw [if_pos (by omega)] at st
    refine ⟨.str x, rfl, x, _, rfl, rfl, by rw [sizeLine_eq]; show x.length + 1 ≤ _; omega, ?_⟩
    rw [of_decide_eq_true st]
    exact q
  have h1 : ¬ (x.length : Int) < 8 := fun w => h1 (decide_eq_true w)
  rw [if_neg (by omega), Bool.and_eq_true] at st
  obtain ⟨small, st⟩ := st
  have small := of_decide_eq_true small
  obtain ⟨kept, ek⟩ : ∃ k, Txt.rstripChars x ("z" : Str) = k := ⟨_, rfl⟩
  rw [ek] at small st
  cases ec : atI kept.cps.toList (-1) with
  | none => rw [ec] at st; cases st
  | some c =>
    rw [ec] at st
    replace st : (match Builtin.Str.occurrences alpha ⟨#[c]⟩ 0 alpha.length 1 with | [] => false | i :: _ => match atI alpha.cps.toList ((i : Int) + 1) with | none => false | some e => decide (cutS kept none (some (-1)) ++ ⟨#[e]⟩ = y)) = true := st
    cases eo : Builtin.Str.occurrences alpha ⟨#[c]⟩ 0 alpha.length 1 with
    | nil => rw [eo] at st; cases st
    | cons k rest =>
      rw [eo] at st
      replace st : (match atI alpha.cps.toList ((k : Int) + 1) with | none => false | some e => decide (cutS kept none (some (-1)) ++ ⟨#[e]⟩ = y)) = true := st
      cases ee : atI alpha.cps.toList ((k : Int) + 1) with
      | none => rw [ee] at st; cases st
      | some e =>
        rw [ee] at st
        have e2 : cutS kept none (some (-1)) ++ ⟨#[e]⟩ = y := of_decide_eq_true st
        have oky := firsts_ok y (List.mem_of_getElem? hy)
        have l3 : (cutS kept none (some (-1))).length + 1 ≤ 8 := by
          have := oky.2.2
          rw [← e2, strLen_append] at this
          exact this
        have keptLine : kept.length ≤ sizeLine := by rw [sizeLine_eq]; omega
        refine ⟨.str x, rfl, rfl, x, _, rfl, rfl, line, ?_⟩
        rw [ek]
        refine ⟨.str kept, rfl, _, rfl, _, rfl, kept, rfl, keptLine, .str alpha, rfl, .str alpha, rfl, rfl, .str kept, rfl, _, rfl, kept, _, c, rfl, rfl, keptLine, ec, alpha, _, k, rest, rfl, rfl, eo, _, _, rfl, rfl, alpha, _, e, rfl, rfl, by decide, ee, _, _, rfl, rfl, ?_, ?_⟩
        · rw [sizeLine_eq]
          show _ + 1 ≤ _
          exact Nat.le_trans l3 (by decide)
        · rw [e2]
          exact q

theorem scBeyond : FnScope ["taken", "label"] ["taken"] (defScope s_label_beyond) := ⟨rfl, rfl, rfl, by decide +kernel, rfl, by decide +kernel, by decide +kernel⟩
theorem ok_beyond {f fb : Addr} {fd fdb : FuncData} (F : Fun K "label_beyond" "label_beyond" s_label_beyond f fd) (DB : Df K mg "label_behind" s_label_behind ["label"] fb fdb) (GB : FnOk P w K mg base CX0 1 fb fdb ["label"] spBehind) : FnOk P w K mg base CX0 2 f fd ["taken"] spBeyond := by
  refine F.ok scBeyond (fun vs H Q E h => ?_) (fun cdv A outer s H vs Q E hr h => ?_)
  · obtain ⟨a, kvs, rfl, _⟩ := h
    rfl
  obtain ⟨a, kvs, rfl, ea, few, q⟩ := h
  have nd := scBeyond.nd
  have hu := hu_of hr
  refine ⟨_, pss_cons (ps_set (i := 1) nd rfl (.inl rfl) pe_str)
    (pss_cons (ps_while PassesOwn.never (pt_cmp (pc_din hu (pv 1) (pv 0))) (pss_one (ps_set (i := 1) nd rfl (.inl rfl) (pcall DB GB hr (pa_cons (pv 1) pa_nil)))))
    (pss_one (ps_ret (pv 1)))), ?_⟩
  refine ⟨fun n σ' G => ∃ i x, n = 200 - i ∧ σ' = [some (.ref a), some (.str x)] ∧ H = G ∧ firsts[i]? = some x ∧ ∀ j y, j < i → firsts[j]? = some y → inK kvs y = true, ⟨200, 0, _, rfl, rfl, rfl, first_first, fun j y hj => absurd hj (Nat.not_lt_zero _)⟩, ?_⟩
  rintro n σ' G ⟨i, x, rfl, rfl, rfl, hx, before⟩
  have lt : i < 200 := by
    have := (List.getElem?_eq_some_iff.mp hx).1
    rw [firsts_len] at this
    exact this
  refine ⟨.str x, rfl, .ref a, rfl, a, _, rfl, DGet.k (k := Sum.inr x) ea, _, rfl, ?_⟩
  cases e : (valV kvs (Sum.inr x : L2.Key)).isSome with
  | true =>
    have more : ∀ j y, j < i + 1 → firsts[j]? = some y → inK kvs y = true := fun j y hj hy => by
      rcases Nat.lt_or_ge j i with z | z
      · exact before j y z hy
      · have ej : j = i := by omega
        rw [ej, hx] at hy
        cases hy
        exact e
    have less := few_keys (Nat.succ_le_of_lt lt) more
    have ey : firsts[i + 1]? = some (firsts[i + 1]'(by rw [firsts_len]; omega)) := List.getElem?_eq_getElem _
    refine iteT ⟨fun σ' G => σ' = [some (.ref a), some (.str (firsts[i + 1]'(by rw [firsts_len]; omega)))] ∧ H = G, fun σ' G h => ⟨200 - (i + 1), by omega, i + 1, _, rfl, h.1, h.2, ey, more⟩, ?_⟩
    exact ⟨.str x, rfl, i, x, _, rfl, hx, ey, rfl, rfl⟩
  | false =>
    refine iteF ⟨.str x, rfl, ?_⟩
    exact q x (least_at hx e before)

theorem scLeast : FnScope ["names", "name", "label"] ["names"] (defScope s_least_label) := ⟨rfl, rfl, rfl, by decide +kernel, rfl, by decide +kernel, by decide +kernel⟩
theorem ok_least {f fb : Addr} {fd fdb : FuncData} (F : Fun K "least_label" "least_label" s_least_label f fd) (DB : Df K mg "label_beyond" s_label_beyond ["taken"] fb fdb) (GB : FnOk P w K mg base CX0 2 fb fdb ["taken"] spBeyond) : FnOk P w K mg base CX0 3 f fd ["names"] (spLeast K) := by
  refine F.ok scLeast (fun vs H Q E h => ?_) (fun cdv A outer s H vs Q E hr h => ?_)
  · obtain ⟨a, ps, ns, rfl, _⟩ := h
    rfl
  obtain ⟨a, ps, ns, rfl, ha, nms, few, q⟩ := h
  have nd := scLeast.nd
  refine ⟨_, pss_one (ps_ret (pcall DB GB hr (pa_cons (pe_dc2 (own := [("name", 1), ("label", 2)]) (vs1 := [2]) (g := gName 1) (wi1 := iTup K (tVar 1)) (g1 := gName 2) rfl nd (pi_list (pv 0)) (blkOk_by (N := ["names", "name", "label"]) (sc := defScope s_least_label) (by decide +kernel)) (by decide)
    (fun _ _ _ _ _ => pg_name (i := 1) nd rfl (Or.inl rfl)) (fun _ _ _ _ _ => pi_tup (pv 1)) (fun _ _ _ _ _ => pg_name (i := 2) nd rfl (Or.inl rfl)) (fun _ _ _ _ _ => pv 2) (fun _ _ _ _ _ => pe_bl)) pa_nil))), ?_⟩
  refine ⟨.ref a, rfl, a, rfl, ⟨_, ha⟩, fun D nD => ?_⟩
  have small : ∀ i, (ns.take i).flatten.length ≤ 150 := fun i => by
    refine Nat.le_trans ?_ few
    rw [← List.take_append_drop i ns, List.flatten_append, List.length_append, List.take_append_drop]
    exact Nat.le_add_right _ _
  refine turns_it (walk_list (K := K) (a := a) (xs := ps)) (fun i G => ∃ kvs, Same H G ∧ G D = some (.dK kvs) ∧ Keys kvs (ns.take i).flatten) ⟨[], same_put nD, upd_same, Keys.nil⟩ (fun i G _ h => by obtain ⟨_, s, _⟩ := h; exact s.seq ha) (fun i x G G' hi h hy => ?_) (fun G h => ?_)
  · obtain ⟨kvs, sG, eD, ks⟩ := h
    obtain ⟨rfl, hx⟩ := hy
    obtain ⟨p, n, en, rfl, hp⟩ := nms.at_ i x hx
    refine ⟨rfl, .ref p, rfl, p, rfl, ⟨_, same_seqT sG hp⟩, ?_⟩
    have up : (ns.take (i + 1)).flatten = (ns.take i).flatten ++ n := by
      rw [List.take_add_one, en, List.flatten_append]
      simp
    refine turns_it (walk_tup (K := K) (a := p) (xs := n.map V.str)) (fun j G2 => ∃ kvs, Same H G2 ∧ G2 D = some (.dK kvs) ∧ Keys kvs ((ns.take i).flatten ++ n.take j)) ⟨kvs, sG, eD, by rw [List.take_zero, List.append_nil]; exact ks⟩ (fun j G2 _ h => by obtain ⟨_, s, _⟩ := h; exact same_seqT s hp) (fun j y G2 G3 hj h hy => ?_) (fun G2 h => ?_)
    · obtain ⟨kvs2, s2, e2, ks2⟩ := h
      obtain ⟨rfl, ey⟩ := hy
      rw [List.getElem?_map] at ey
      obtain ⟨z, ez, rfl⟩ := Option.map_eq_some_iff.mp ey
      refine ⟨rfl, .str z, rfl, kvs2, Sum.inr z, rfl, e2, ?_, putK kvs2 (Sum.inr z) (.bl true), fun b o e => ?_, upd_same, ?_⟩
      · have := ks2.few
        have le : ((ns.take i).flatten ++ n.take j).length ≤ 150 := by
          have := small (i + 1)
          rw [up, List.length_append] at this
          rw [List.length_append, List.length_take]
          omega
        exact small1000 (by omega)
      · rw [upd_ne (ne_of_none e nD)]
        exact s2 b o e
      · have z2 := ks2.put z (.bl true)
        rw [List.append_assoc] at z2
        rw [List.take_add_one, ez]
        exact z2
    · obtain ⟨kvs2, s2, e2, ks2⟩ := h
      rw [List.length_map, List.take_length] at ks2
      exact ⟨kvs2, s2, e2, by rw [up]; exact ks2⟩
  · obtain ⟨kvs, sG, eD, ks⟩ := h
    rw [nms.len, List.take_length] at ks
    refine ⟨D, kvs, rfl, eD, Nat.le_trans ks.few few, fun x hx => q G x sG ?_⟩
    have e : inK kvs = inNames ns := funext fun y => ks.is y
    rw [← e]
    exact hx

theorem scMix : FnScope ["_law_bag_here", "_law_some", "_law_found", "_law_one"] ["_law_bag_here", "_law_some"] (defScope s_law_mix) := ⟨rfl, rfl, rfl, by decide +kernel, rfl, by decide +kernel, by decide +kernel⟩
theorem ok_mix {f ft : Addr} {fd fdt : FuncData} (F : Fun K "_law_mix" "_law_mix" s_law_mix f fd) (DT : Df K mg "_law_take" s_law_take ["_law_bag_here", "_law_many"] ft fdt)
    (GT : FnOk P w K mg base CX0 1 ft fdt ["_law_bag_here", "_law_many"] spTake) (ml : mg "len" = none) : FnOk P w K mg base CX0 2 f fd ["_law_bag_here", "_law_some"] (spMix K) := by
  refine F.ok scMix (fun vs H Q E h => ?_) (fun cdv A outer s H vs Q E hr h => ?_)
  · obtain ⟨b, bc, l, xs, rfl, _⟩ := h
    rfl
  obtain ⟨b, bc, l, xs, rfl, bag, ne, sq, few, q⟩ := h
  have nd := scMix.nd
  refine ⟨_, pss_cons (ps_set (i := 2) nd rfl (.inl rfl) (pe_lst pa_nil))
    (pss_cons (ps_for PassesOwn.never rfl (pi_list (pv 1)) (pg_name (i := 3) nd rfl (.inl rfl))
      (pss_one (ps_expr (pe_bm PySem.F.plainAttrs_list PySem.F.slot_list_insert PySem.F.type_list_insert mt_insert (pv 2)
        (pa_cons (pcall DT GT hr (pa_cons (pv 0) (pa_cons (pe_op op_add (pe_callB call_len_seq (by rfl) ml PySem.boot_len (pa_cons (pv 2) pa_nil)) pe_int) pa_nil))) (pa_cons (pv 3) pa_nil))))))
    (pss_one (ps_ret (pv 2)))), ?_⟩
  refine ⟨by show 0 ≤ sizeLine; decide, fun p np => ?_⟩
  have d0 := (Drew.refl bag).same (same_put (o := .lst []) np)
  have pb := (bag.apart np).1
  refine ⟨.ref l, rfl, l, rfl, ⟨_, drew_seq d0 ne sq⟩, ?_⟩
  refine for_list (K := K) (a := l) (xs := xs) (fun i σ' G => ∃ v ys, σ' = [some (.ref b), some (.ref l), some (.ref p), v] ∧ Drew b bc H G ∧ G p = some (.lst ys) ∧ ys.Perm (xs.take i))
    ⟨none, [], rfl, d0, upd_same, .nil⟩ (fun i σ' G _ h => by obtain ⟨_, _, _, d, _⟩ := h; exact drew_seq d ne sq) (fun i x σ' G hx h => ?_) (fun σ' G h => ?_)
  · obtain ⟨v, ys, rfl, d, ep, pm⟩ := h
    have lt := (List.getElem?_eq_some_iff.mp hx).1
    have len : ys.length ≤ i := by
      rw [pm.length_eq, List.length_take]
      omega
    refine ⟨.ref p, rfl, .inl ⟨rfl, _, .inl (.inl ep)⟩, .ref b, rfl, .ref p, rfl, p, _, rfl, .inl (.inl (.inl ep)), _, _, rfl, rfl, b, bc, ys.length + 1, ?_, d.bag, by omega, by omega, fun H2 r d2 hr2 => ?_⟩
    · show [V.ref b, V.int ((ys.length : Int) + 1)] = _
      rw [show (ys.length : Int) + 1 = ((ys.length + 1 : Nat) : Int) by omega]
    refine ⟨x, rfl, p, ys, r, x, rfl, rfl, d2.keep p _ pb ep, small1000 (by omega), by omega, by omega, ?_⟩
    refine ⟨_, _, rfl, (d.trans d2).put bag np, upd_same, ?_⟩
    have e1 : ys.take ((r : Nat) : Int).toNat ++ [x] ++ ys.drop ((r : Nat) : Int).toNat = ys.take r ++ x :: ys.drop r := by simp
    rw [e1, List.take_add_one, hx]
    refine (List.perm_middle.trans ?_).trans (List.perm_append_singleton x _).symm
    rw [List.take_append_drop]
    exact pm.cons x
  · obtain ⟨v, ys, rfl, d, ep, pm⟩ := h
    rw [List.take_length] at pm
    exact ⟨.ref p, rfl, q G p ys d np ep pm⟩

theorem scFirsts : FnScope ["_law_many", "_law_letters", "_law_found", "_law_k", "_law_letter", "_law_last"] ["_law_many"] (defScope s_law_first_labels) := ⟨rfl, rfl, rfl, by decide +kernel, rfl, by decide +kernel, by decide +kernel⟩
theorem ok_firsts {f : Addr} {fd : FuncData} (F : Fun K "_law_first_labels" "_law_first_labels" s_law_first_labels f fd) (mr : mg "range" = none) : FnOk P w K mg base CX0 1 f fd ["_law_many"] spFirsts := by
  refine F.ok scFirsts (fun vs H Q E h => ?_) (fun cdv A outer s H vs Q E hr h => ?_)
  · obtain ⟨rfl, _⟩ := h
    rfl
  obtain ⟨rfl, q⟩ := h
  have nd := scFirsts.nd
  refine ⟨_, pss_cons (ps_par (i := 1) (j := 2) (by rfl) nd rfl rfl (by decide) rfl rfl (pa_cons pe_str (pa_cons (pe_lst pa_nil) pa_nil)) (by rfl))
    (C8.pss_cut (ps_for PassesOwn.never rfl (pi_range1 (by rfl) mr (pa_cons pe_int pa_nil)) (pg_name (i := 3) nd rfl (.inl rfl))
      (pss_one (ps_expr (pe_bm PySem.F.plainAttrs_list PySem.F.slot_list_append PySem.F.type_list_append mt_append (pv 2) (pa_cons (pe_op op_mulStr pe_str (pe_op op_add (pv 3) pe_int)) pa_nil)))))
    (C8.pss_cut (ps_for PassesOwn.never rfl (pi_str (pe_slice sl_str (pv 1) (po_some pe_int) po_none)) (pg_name (i := 4) nd rfl (.inl rfl))
      (pss_one (ps_expr (pe_bm PySem.F.plainAttrs_list PySem.F.slot_list_append PySem.F.type_list_append mt_append (pv 2) (pa_cons (pe_op op_add_str (pe_op op_mulStr pe_str pe_int) (pv 4)) pa_nil)))))
    (C8.pss_cut (ps_for PassesOwn.never rfl (pi_str (pe_slice sl_str (pv 1) (po_some pe_int) po_none)) (pg_name (i := 4) nd rfl (.inl rfl))
      (pss_cons (ps_expr (pe_bm PySem.F.plainAttrs_list PySem.F.slot_list_append PySem.F.type_list_append mt_append (pv 2) (pa_cons (pe_op op_add_str (pe_op op_mulStr pe_str pe_int) (pv 4)) pa_nil)))
      (pss_one (ps_for PassesOwn.never rfl (pi_str (pv 1)) (pg_name (i := 5) nd rfl (.inl rfl))
        (pss_one (ps_expr (pe_bm PySem.F.plainAttrs_list PySem.F.slot_list_append PySem.F.type_list_append mt_append (pv 2) (pa_cons (pe_op op_add_str (pe_op op_add_str (pe_op op_mulStr pe_str pe_int) (pv 4)) (pv 5)) pa_nil))))))))
    (pss_one (ps_ret (pe_slice sl_list (pv 2) po_none (po_some (pv 0)))))))), ?_⟩
  have m7 : Txt.mul ("a" : Str) 7 = txt (aN 7) := a_mul 7 (by decide)
  have m6 : Txt.mul ("a" : Str) 6 = txt (aN 6) := a_mul 6 (by decide)
  have put : ∀ (G : Hp) (p : Addr) (o : HO), Same H G → H p = none → Same H (upd G p o) := fun G p o s n b u e => by
    rw [upd_ne (ne_of_none e n)]
    exact s b u e
  have line : alpha.length ≤ sizeLine := by decide
  refine ⟨by show 0 ≤ sizeLine; decide, fun p np => ⟨_, _, rfl, ?_⟩⟩
  -- a, aa, ..
  refine ⟨fun σ' G => ∃ y3, σ' = [some (.int 200), some (.str alpha), some (.ref p), y3, none, none] ∧ Same H G ∧ G p = some (.lst (strs_ (ones 8))), ?_, ?_⟩
  · refine ⟨8, rfl, by decide, by decide, ?_⟩
    refine for_range (lo := 0) (n := 8) (fun i σ' G => ∃ y3, σ' = [some (.int 200), some (.str alpha), some (.ref p), y3, none, none] ∧ Same H G ∧ G p = some (.lst (strs_ (ones i)))) ⟨none, rfl, same_put np, upd_same⟩ (fun i σ' G hi h => ?_) (fun σ' G h => h)
    obtain ⟨y3, rfl, sG, eG⟩ := h
    have ek : (0 : Int) + (i : Nat) + 1 = ((i + 1 : Nat) : Int) := by omega
    refine ⟨.ref p, rfl, .inl ⟨rfl, _, .inl (.inl eG)⟩, _, rfl, _, _, rfl, rfl, _, _, rfl, rfl, by rw [ek]; exact a_mulOk _ (by omega), p, _, _, rfl, rfl, eG, small1000 (by rw [strs_len]; unfold ones; rw [List.length_map, List.length_range]; omega), ?_⟩
    refine ⟨_, rfl, put G p _ sG np, ?_⟩
    rw [upd_same, ek, a_mul _ (by omega), strs_snoc, ones_succ]
  rintro _ G ⟨y3, rfl, sG, eG⟩
  -- aaaaaaab, ..
  refine ⟨fun σ' G => ∃ y4, σ' = [some (.int 200), some (.str alpha), some (.ref p), y3, y4, none] ∧ Same H G ∧ G p = some (.lst (strs_ (ones 8 ++ sevens 25))), ?_, ?_⟩
  · refine ⟨.str alpha, rfl, _, rfl, alpha, rfl, line, _, rfl, ?_⟩
    refine for_it (walk_str (z := cutS alpha (some 1) none)) (fun i σ' G => ∃ y4, σ' = [some (.int 200), some (.str alpha), some (.ref p), y3, y4, none] ∧ Same H G ∧ G p = some (.lst (strs_ (ones 8 ++ sevens i)))) ⟨none, rfl, sG, by rw [eG]; rfl⟩ (fun _ _ _ _ _ => trivial) (fun i x σ' G1 G2 hi h hx => ?_) (fun σ' G h => h)
    obtain ⟨y4, rfl, s1, e1⟩ := h
    obtain ⟨rfl, c, hc, rfl⟩ := hx
    have hc : (lets.drop 1)[i]? = some c := by
      rw [← tail_signs]
      simpa using hc
    have li : i < 25 := (List.getElem?_eq_some_iff.mp hc).1
    have ls : (sevens i).length ≤ 25 := by unfold sevens; rw [List.length_map, List.length_take]; omega
    have lo : (ones 8).length = 8 := rfl
    refine ⟨.ref p, rfl, .inl ⟨rfl, _, .inl (.inl e1)⟩, _, _, rfl, rfl, a_mulOk 7 (by decide), _, rfl, _, _, rfl, rfl, by rw [m7]; exact (by decide : (txt (aN 7)).length + 1 ≤ sizeLine), p, _, _, rfl, rfl, e1, small1000 (by rw [strs_len, List.length_append]; omega), ?_⟩
    refine ⟨_, rfl, put _ p _ s1 np, ?_⟩
    have ec : (⟨#[c]⟩ : Str) = txt [c] := rfl
    rw [upd_same, m7, ec, txt_app, strs_snoc, List.append_assoc, ← sevens_succ hc]
  rintro _ G ⟨y4, rfl, sG, eG⟩
  -- aaaaaab, aaaaaaba, ..
  refine ⟨fun σ' G => ∃ y4 y5, σ' = [some (.int 200), some (.str alpha), some (.ref p), y3, y4, y5] ∧ Same H G ∧ G p = some (.lst (strs_ (ones 8 ++ sevens 25 ++ blks 25))), ?_, ?_⟩
  · refine ⟨.str alpha, rfl, _, rfl, alpha, rfl, line, _, rfl, ?_⟩
    refine for_it (walk_str (z := cutS alpha (some 1) none)) (fun i σ' G => ∃ y4 y5, σ' = [some (.int 200), some (.str alpha), some (.ref p), y3, y4, y5] ∧ Same H G ∧ G p = some (.lst (strs_ (ones 8 ++ sevens 25 ++ blks i)))) ⟨y4, none, rfl, sG, by rw [eG]; unfold blks; rw [List.take_zero]; simp⟩ (fun _ _ _ _ _ => trivial) (fun i x σ' G1 G2 hi h hx => ?_) (fun σ' G h => h)
    obtain ⟨y4, y5, rfl, s1, e1⟩ := h
    obtain ⟨rfl, c, hc, rfl⟩ := hx
    have hc : (lets.drop 1)[i]? = some c := by
      rw [← tail_signs]
      simpa using hc
    have li : i < 25 := (List.getElem?_eq_some_iff.mp hc).1
    have lb := blks_len i (by omega)
    have lo : (ones 8 ++ sevens 25).length = 33 := rfl
    have six : (txt (aN 6)).length = 6 := rfl
    have ec : (⟨#[c]⟩ : Str) = txt [c] := rfl
    refine ⟨.ref p, rfl, .inl ⟨rfl, _, .inl (.inl e1)⟩, _, _, rfl, rfl, a_mulOk 6 (by decide), _, rfl, _, _, rfl, rfl, by rw [m6]; exact (by decide : (txt (aN 6)).length + 1 ≤ sizeLine), p, _, _, rfl, rfl, e1, small1000 (by rw [strs_len, List.length_append]; omega), ?_⟩
    have s2 := put _ p (.lst (strs_ (ones 8 ++ sevens 25 ++ blks i) ++ [V.str (Txt.mul ("a" : Str) 6 ++ ⟨#[c]⟩)])) s1 np
    refine ⟨.str alpha, rfl, alpha, rfl, ?_⟩
    refine for_it (walk_str (z := alpha)) (fun j σ' G => ∃ y5, σ' = [some (.int 200), some (.str alpha), some (.ref p), y3, some (.str ⟨#[c]⟩), y5] ∧ Same H G ∧ G p = some (.lst (strs_ (ones 8 ++ sevens 25 ++ (blks i ++ blkOf c j))))) ⟨y5, rfl, s2, ?_⟩ (fun _ _ _ _ _ => trivial) (fun j x σ' G3 G4 hj h hx => ?_) (fun σ' G3 h => ?_)
    · rw [upd_same, m6, ec, txt_app, strs_snoc, List.append_assoc]
      rfl
    · obtain ⟨y5, rfl, s3, e3⟩ := h
      obtain ⟨rfl, d, hd, rfl⟩ := hx
      have hd : lets[j]? = some d := by
        rw [← all_signs]
        simpa using hd
      have lj : j < 26 := (List.getElem?_eq_some_iff.mp hd).1
      have lk : (blkOf c j).length ≤ 27 := by unfold blkOf; rw [List.length_cons, List.length_map, List.length_take]; omega
      have ed : (⟨#[d]⟩ : Str) = txt [d] := rfl
      refine ⟨.ref p, rfl, .inl ⟨rfl, _, .inl (.inl e3)⟩, _, _, rfl, rfl, a_mulOk 6 (by decide), _, rfl, _, _, rfl, rfl, by rw [m6]; exact (by decide : (txt (aN 6)).length + 1 ≤ sizeLine), _, rfl, _, _, rfl, rfl, ?_, p, _, _, rfl, rfl, e3, small1000 (by rw [strs_len, List.length_append, List.length_append (as := blks i)]; omega), ?_⟩
      · rw [m6, ec, txt_app, txt_len, sizeLine_eq]
        show 6 + 1 + 1 ≤ _
        decide
      refine ⟨_, rfl, put _ p _ s3 np, ?_⟩
      rw [upd_same, m6, ec, ed, txt_app, txt_app, strs_snoc, List.append_assoc, List.append_assoc (aN 6) [c] [d], List.append_assoc (blks i), blkOf_succ hd]
      rfl
    · obtain ⟨y5, rfl, s3, e3⟩ := h
      refine ⟨_, _, rfl, s3, ?_⟩
      rw [blks_succ hc]
      exact e3
  rintro _ G ⟨y4, y5, rfl, sG, eG⟩
  refine ⟨.ref p, rfl, _, rfl, _, rfl, p, _, rfl, .inl (.inl eG), fun p2 np2 => ?_⟩
  refine q _ p2 (sG.trans (same_put np2)) (sG.free np2) ?_
  rw [upd_same, all_firsts]
  have e2 : cutV (strs_ firstsN) none (some (200 : Int)) = (strs_ firstsN).take 200 := cut_to (k := 200)
  rw [e2, firsts_take]

theorem scLaw : FnScope ["_law_script", "_law_bag_here", "_law_firsts", "_law_turn", "_law_labels_here", "_law_names", "_law_k", "_law_known", "_law_due", "_law_shown", "_law_again", "_law_name", "_law_label"] ["_law_script"] (defScope s_law) := ⟨rfl, rfl, rfl, by decide +kernel, rfl, by decide +kernel, by decide +kernel⟩
def spLaw (K : PySem.W.Frag) : Sp := fun vs H Q _ => ∃ (a : Addr) (ns : List Int), vs = [.ref a] ∧ SqL K H a (ns.map V.int) ∧ ns.length ≤ 63 ∧ ∀ H', Q (.bl true) H'
theorem ok_law {f fbag ft ffi fla fmi fle : Addr} {fd fdbag fdt fdfi fdla fdmi fdle : FuncData} (F : Fun K "law" "law" s_law f fd)
    (DBag : Df K mg "_law_bag" s_law_bag ["_law_script"] fbag fdbag) (GBag : FnOk P w K mg base CX0 1 fbag fdbag ["_law_script"] (spBag K))
    (DT : Df K mg "_law_take" s_law_take ["_law_bag_here", "_law_many"] ft fdt) (GT : FnOk P w K mg base CX0 1 ft fdt ["_law_bag_here", "_law_many"] spTake)
    (DF : Df K mg "_law_first_labels" s_law_first_labels ["_law_many"] ffi fdfi) (GF : FnOk P w K mg base CX0 1 ffi fdfi ["_law_many"] spFirsts)
    (DL : Df K mg "_law_labels" s_law_labels ["_law_bag_here", "_law_many"] fla fdla) (GL : FnOk P w K mg base CX0 2 fla fdla ["_law_bag_here", "_law_many"] spLabels)
    (DM : Df K mg "_law_mix" s_law_mix ["_law_bag_here", "_law_some"] fmi fdmi) (GM : FnOk P w K mg base CX0 2 fmi fdmi ["_law_bag_here", "_law_some"] (spMix K))
    (DE : Df K mg "least_label" s_least_label ["names"] fle fdle) (GE : FnOk P w K mg base CX0 3 fle fdle ["names"] (spLeast K))
    (ml : mg "len" = none) (mr : mg "range" = none) (mp : mg "repr" = none) (mt : mg "tuple" = none) (ms : mg "list" = none) (md : mg "dict" = none) (mu : mg "sum" = none) : FnQ P w K mg base 4 f fd ["_law_script"] (spLaw K) := by
  refine okQ F scLaw (fun vs H Q h => ?_) (fun cdv A outer s H vs Q quiet hr h => ?_)
  · obtain ⟨a, ns, rfl, _⟩ := h
    rfl
  obtain ⟨a, ns, rfl, hS, hlen, q⟩ := h
  have nd := scLaw.nd
  have un := hr.un
  have hu := hu_of hr
  refine ⟨_, pss_cons (ps_set (i := 1) nd rfl (.inl rfl) (pcall DBag GBag (hr.mono (by decide)) (pa_cons (pv 0) pa_nil)))
    (pss_cons (ps_set (i := 2) nd rfl (.inl rfl) (pcall DF GF (hr.mono (by decide)) (pa_cons pe_int pa_nil)))
    (pss_cons (ps_for PassesOwn.never rfl (pi_range1 (by rfl) mr (pa_cons pe_int pa_nil)) (pg_name (i := 3) nd rfl (.inl rfl))
      (C8.pss_cut (ps_set (i := 4) nd rfl (.inl rfl) (pe_op op_cat (pcall DL GL (hr.mono (by decide)) (pa_cons (pv 1) (pa_cons pe_int pa_nil)))
          (pcall DM GM (hr.mono (by decide)) (pa_cons (pv 1) (pa_cons (pe_slice sl_list (pv 2) po_none (po_some (pcall DT GT (hr.mono (by decide)) (pa_cons (pv 1)
            (pa_cons (pe_ix ix_list (pe_lst (pa_cons pe_int (pa_cons pe_int (pa_cons pe_int pa_nil)))) (pcall DT GT (hr.mono (by decide)) (pa_cons (pv 1) (pa_cons pe_int pa_nil))) (fun _ _ => rfl)) pa_nil))))) pa_nil)))))
      (C8.pss_cut (ps_set (i := 5) nd rfl (.inl rfl) (pe_lst pa_nil))
      (C8.pss_cut (ps_for PassesOwn.never rfl (pi_range3 (by rfl) mr (pa_cons pe_int (pa_cons (pe_callB call_len_seq (by rfl) ml PySem.boot_len (pa_cons (pv 4) pa_nil)) (pa_cons pe_int pa_nil)))) (pg_name (i := 6) nd rfl (.inl rfl))
        (pss_one (ps_expr (pe_bm PySem.F.plainAttrs_list PySem.F.slot_list_append PySem.F.type_list_append mt_append (pv 5)
          (pa_cons (pe_callTy call_tuple_of (by rfl) mt (by decide +kernel) (pa_cons (pe_slice sl_list (pv 4) (po_some (pv 6)) (po_some (pe_op op_add (pv 6) pe_int))) pa_nil)) pa_nil)))))
      (C8.pss_cut (ps_set (i := 5) nd rfl (.inl rfl) (pe_slice sl_list (pcall DM GM (hr.mono (by decide)) (pa_cons (pv 1) (pa_cons (pv 5) pa_nil))) po_none (po_some pe_int)))
      (C8.pss_cut (ps_if (PW.pt (pw_and (pt_cmpR (op_neD hr.units) (pv 5) (pe_lst pa_nil) (nomark _)) (pw_and1 (pt_cmpR op_eq (pcall DT GT (hr.mono (by decide)) (pa_cons (pv 1) (pa_cons pe_int pa_nil))) pe_int (nomark _)))))
        (pss_one (ps_expr (pe_bm0 PySem.F.plainAttrs_list PySem.F.slot_list_pop PySem.F.type_list_pop mt_pop (pv 5)))) pss_nil)
      (C8.pss_cut (ps_asg (pe_callTy (call_dictP rfl) (by rfl) md (by decide +kernel) (pa_cons (pe_lc (own := [("_law_label", 12)]) (g := gName 12) (tt := tYes) rfl nd
          (pi_list (pe_callB (cr_sumS rfl) (by rfl) mu (by decide +kernel) (pa_cons (pe_lc (own := [("_law_name", 11)]) (g := gName 11) (tt := tYes) rfl nd (pi_list (pv 5))
            (blkOk_by (N := ["_law_script", "_law_bag_here", "_law_firsts", "_law_turn", "_law_labels_here", "_law_names", "_law_k", "_law_known", "_law_due", "_law_shown", "_law_again", "_law_name", "_law_label"]) (sc := defScope s_law) (by decide +kernel)) (fun _ _ _ _ _ => pg_name (i := 11) nd rfl (Or.inl rfl)) (fun _ _ _ _ _ => pts_nil)
            (fun _ _ _ _ _ => pe_callTy (r := rListOf K) to_list (by rfl) ms (by decide +kernel) (pa_cons (pv 11) pa_nil))) (pa_cons (pe_lst pa_nil) pa_nil))))
          (blkOk_by (N := ["_law_script", "_law_bag_here", "_law_firsts", "_law_turn", "_law_labels_here", "_law_names", "_law_k", "_law_known", "_law_due", "_law_shown", "_law_again", "_law_name", "_law_label"]) (sc := defScope s_law) (by decide +kernel)) (fun _ _ _ _ _ => pg_name (i := 12) nd rfl (Or.inl rfl)) (fun _ _ _ _ _ => pts_nil)
          (fun _ _ _ _ _ => pe_tup (pa_cons (pv 12) (pa_cons pe_bl pa_nil)))) pa_nil)) (pg_name (i := 7) nd rfl (.inr rfl)))
      (C8.pss_cut (ps_par (i := 8) (j := 9) (by rfl) nd rfl rfl (by decide) rfl rfl (pa_cons (pe_ix ix_list (pe_lc (own := [("_law_label", 12)]) (g := gName 12) rfl nd (pi_list (pv 2))
            (blkOk_by (N := ["_law_script", "_law_bag_here", "_law_firsts", "_law_turn", "_law_labels_here", "_law_names", "_law_k", "_law_known", "_law_due", "_law_shown", "_law_again", "_law_name", "_law_label"]) (sc := defScope s_law) (by decide +kernel)) (fun _ _ _ _ _ => pg_name (i := 12) nd rfl (Or.inl rfl))
            (fun _ _ _ _ _ => pts_one (pt_cmp (pc_dnotin hu (pv 12) (pv 7)))) (fun _ _ _ _ _ => pv 12)) pe_int (fun _ _ => rfl))
          (pa_cons (pe_callB (cr_repr quiet (by show A.units + 3 + 70 < cLine; have : A.units + 3 + 16 * 3 + 200 < cLine := un; omega)) (by rfl) mp (by decide +kernel) (pa_cons (pv 5) pa_nil)) pa_nil)) (by rfl))
      (pss_one (ps_for PassesOwn.never rfl (pi_range1 (by rfl) mr (pa_cons pe_int pa_nil)) (pg_name (i := 10) nd rfl (.inl rfl))
        (pss_one (ps_if (PW.pt (pw_or (pt_cmpR op_ne (pcall DE GE hr (pa_cons (pv 5) pa_nil)) (pv 8) (nomark _))
          (pw_or1 (pt_cmpR op_ne (pe_callB (cr_repr quiet (by show A.units + 3 + 70 < cLine; have : A.units + 3 + 16 * 3 + 200 < cLine := un; omega)) (by rfl) mp (by decide +kernel) (pa_cons (pv 5) pa_nil)) (pv 9) (nomark _))))) (pss_one (ps_ret pe_bl)) pss_nil))))))))))))
    (pss_one (ps_ret (pe_and (pe_cmpR op_eq (pcall DE GE hr (pa_cons (pe_lst pa_nil) pa_nil)) pe_str (nomark _)) (pe_one (pe_cmpR op_eq (pcall DE GE hr (pa_cons (pe_lst (pa_cons (pe_tup pa_nil) pa_nil)) pa_nil)) pe_str (nomark _)))))))), ?_⟩
  refine ⟨.ref a, rfl, a, ns, rfl, hS, hlen, fun H1 b bc s1 fb fbc bag => ?_⟩
  refine ⟨rfl, fun H2 fr s2 nfr efr => ?_⟩
  have bag2 := bag.same s2
  have frb := (bag.apart nfr).1
  refine ⟨8, rfl, by decide, by decide, ?_⟩
  refine for_range (lo := 0) (n := 8) (fun _ σ' G' => ∃ y3 y4 y5 y6 y7 y8 y9 y10 y11 y12, σ' = [some (.ref a), some (.ref b), some (.ref fr), y3, y4, y5, y6, y7, y8, y9, y10, y11, y12] ∧ Drew b bc H2 G')
    ⟨none, none, none, none, none, none, none, none, none, none, rfl, Drew.refl bag2⟩ (fun i σ' G' _ h => ?_) (fun σ' G' h => ?_)
  · obtain ⟨y3, y4, y5, y6, y7, y8, y9, y10, y11, y12, rfl, dG⟩ := h
    -- the labels
    refine ⟨fun σ' G => ∃ (lh : Addr) (ls : List Str), σ' = [some (.ref a), some (.ref b), some (.ref fr), some (.int (0 + (i : Nat))), some (.ref lh), y5, y6, y7, y8, y9, y10, y11, y12] ∧ Drew b bc H2 G ∧ H2 lh = none ∧ G lh = some (.lst (ls.map V.str)) ∧ Labs ls ∧ ls.length ≤ 124, ?_, ?_⟩
    · refine ⟨.ref b, rfl, b, bc, 5, rfl, dG.bag, by decide, fun G1 pl ls d1 npl epl lls _ n5 => ?_⟩
      have dG1 := dG.trans d1
      have plb := (dG.bag.apart npl).1
      refine ⟨.ref b, rfl, .ref fr, rfl, .ref b, rfl, by show 3 ≤ sizeLine; decide, fun l nl => ?_⟩
      have s3 := same_put (o := .lst [.int 9, .int 40, .int 120]) nl
      have dG2 := dG1.same s3
      have lb := (dG1.bag.apart nl).1
      refine ⟨.ref b, rfl, b, bc, 3, rfl, dG2.bag, by decide, by decide, fun G3 r d3 hr3 => ?_⟩
      have el : SqL K G3 l [.int 9, .int 40, .int 120] := drew_seq d3 lb (.inl (.inl upd_same))
      obtain ⟨m, em, m1, m2⟩ : ∃ m : Nat, ([V.int 9, V.int 40, V.int 120] : List V)[r]? = some (.int (m : Nat)) ∧ 1 ≤ m ∧ m ≤ 120 := by
        have : r = 0 ∨ r = 1 ∨ r = 2 := by omega
        rcases this with rfl | rfl | rfl
        · exact ⟨9, rfl, by decide, by decide⟩
        · exact ⟨40, rfl, by decide, by decide⟩
        · exact ⟨120, rfl, by decide, by decide⟩
      have dG3 := dG2.trans d3
      refine ⟨l, _, _, _, rfl, rfl, el, atI_nat em, b, bc, m, rfl, dG3.bag, by omega, by omega, fun G4 r4 d4 hr4 => ?_⟩
      have dG4 := dG3.trans d4
      refine ⟨_, rfl, fr, _, rfl, .inl (.inl (dG4.keep fr _ frb efr)), fun p5 np5 => ?_⟩
      have s5 := same_put (o := .lst (cutV (firsts.map V.str) none (some ((r4 : Nat) : Int)))) np5
      have dG5 := dG4.same s5
      have p5b := (dG4.bag.apart np5).1
      refine ⟨b, bc, p5, _, rfl, dG5.bag, p5b, .inl (.inl upd_same), by rw [cut_to, List.length_take]; omega, fun G6 p6 ys d6 np6 ep6 pm => ?_⟩
      rw [cut_to] at pm
      obtain ⟨zs, rfl, lzs⟩ := strs_of (ys := ys) fun v hv => by
        obtain ⟨x, hx, rfl⟩ := List.mem_map.mp (List.mem_of_mem_take (pm.mem_iff.mp hv))
        exact ⟨x, rfl, labs_firsts x hx⟩
      have zl : zs.length ≤ 119 := by
        have := pm.length_eq
        rw [List.length_map, List.length_take] at this
        omega
      have epl6 : G6 pl = some (.lst (ls.map V.str)) := d6.keep pl _ plb (s5 _ _ (d4.keep pl _ plb (d3.keep pl _ plb (s3 _ _ epl))))
      have dG6 := dG5.trans d6
      refine ⟨pl, p6, _, _, rfl, rfl, epl6, ep6, by rw [List.length_map, List.length_map, sizeLine_eq]; omega, fun p7 np7 => ?_⟩
      refine ⟨p7, ls ++ zs, rfl, dG6.same (same_put np7), dG6.free np7, by rw [upd_same, List.map_append], lls.append lzs, by rw [List.length_append]; omega⟩
    rintro _ G ⟨lh, ls, rfl, dA, nlh, elh, lls, l124⟩
    have lhb := (bag2.apart nlh).1
    -- a list for the names
    refine ⟨fun σ' G2 => ∃ nl, σ' = [some (.ref a), some (.ref b), some (.ref fr), some (.int (0 + (i : Nat))), some (.ref lh), some (.ref nl), y6, y7, y8, y9, y10, y11, y12] ∧ Same G G2 ∧ G nl = none ∧ G2 nl = some (.lst []), ?_, ?_⟩
    · exact ⟨by show 0 ≤ sizeLine; decide, fun p np => ⟨p, rfl, same_put np, np, upd_same⟩⟩
    rintro _ G2 ⟨nl, rfl, sG2, nnl, enl⟩
    have nnl2 := dA.free nnl
    have nlb := (bag2.apart nnl2).1
    have nel : lh ≠ nl := ne_of_none elh nnl
    -- the names
    refine ⟨fun σ' G3 => ∃ y6 vs, σ' = [some (.ref a), some (.ref b), some (.ref fr), some (.int (0 + (i : Nat))), some (.ref lh), some (.ref nl), y6, y7, y8, y9, y10, y11, y12] ∧ Drew b bc H2 G3 ∧ G3 nl = some (.lst vs) ∧ ANames K G3 vs ∧ vs.length ≤ 17, ?_, ?_⟩
    · have elh2 := sG2 _ _ elh
      obtain ⟨k, rg, k17⟩ := eights (ls.map V.str).length (by rw [List.length_map]; omega)
      refine ⟨.ref lh, rfl, lh, _, rfl, .inl (.inl (.inl elh2)), _, _, _, k, rfl, rg, ?_⟩
      refine for_rangeC (lo := 0) (c := 8) (n := k) (fun j σ' G3 => ∃ y6 vs, σ' = [some (.ref a), some (.ref b), some (.ref fr), some (.int (0 + (i : Nat))), some (.ref lh), some (.ref nl), y6, y7, y8, y9, y10, y11, y12] ∧ Drew b bc H2 G3 ∧ G3 lh = some (.lst (ls.map V.str)) ∧ G3 nl = some (.lst vs) ∧ ANames K G3 vs ∧ vs.length = j)
        ⟨y6, [], rfl, dA.same sG2, elh2, enl, fun v hv => absurd hv List.not_mem_nil, rfl⟩ (fun j σ' G3 hj h => ?_) (fun σ' G3 h => ?_)
      · obtain ⟨y6, vs, rfl, d3, e3, en3, an3, hl⟩ := h
        refine ⟨.ref nl, rfl, .inl ⟨rfl, _, .inl (.inl en3)⟩, .ref lh, rfl, _, rfl, _, rfl, _, rfl, _, _, rfl, rfl, _, rfl, lh, _, rfl, .inl (.inl e3), fun p np => ?_⟩
        obtain ⟨n, en, lab, n8⟩ := cut_eight (ls := ls) (k := j) lls
        refine ⟨p, _, rfl, .inl ⟨.inl (.inl upd_same), fun t nt => ?_⟩⟩
        have s4 := same_put (o := .lst (cutV (ls.map V.str) (some (0 + (j : Nat) * 8)) (some (0 + (j : Nat) * 8 + 8)))) np
        have s5 := s4.trans (same_put (o := .tup (cutV (ls.map V.str) (some (0 + (j : Nat) * 8)) (some (0 + (j : Nat) * 8 + 8)))) nt)
        refine ⟨nl, vs, .ref t, rfl, rfl, s5 _ _ en3, small1000 (by omega), ?_⟩
        have nnt : nl ≠ t := ne_of_none (s4 _ _ en3) nt
        refine ⟨_, vs ++ [.ref t], rfl, (d3.same s5).put bag2 nnl2, by rw [upd_ne nel]; exact s5 _ _ e3, upd_same, fun v hv => ?_, by rw [List.length_append, hl]; rfl⟩
        have keepN : ∀ (q : Addr) (m : List Str) (G5 : Hp) (o : HO), G5 nl = some (.lst vs) → Nm K G5 q m → Nm K (upd G5 nl o) q m := fun q m G5 o e h => by
          rcases h with (h | ⟨u, h⟩) | h
          · exact .inl (.inl (by rw [upd_ne (ne_of h e (by intro z; cases z))]; exact h))
          · exact .inl (.inr ⟨u, by rw [upd_ne (ne_of h e (by intro z; cases z))]; exact h⟩)
          · exact .inr h
        rcases List.mem_append.mp hv with hv | hv
        · obtain ⟨q', m, ev, hq, r⟩ := an3.same s5 v hv
          exact ⟨q', m, ev, keepN q' m _ _ (s5 _ _ en3) hq, r⟩
        · rw [List.mem_singleton.mp hv]
          refine ⟨t, n, rfl, keepN t n _ _ (s5 _ _ en3) (.inl (.inl ?_)), lab, n8⟩
          rw [upd_same, en]
      · obtain ⟨y6, vs, rfl, d3, e3, en3, an3, hl⟩ := h
        exact ⟨y6, vs, rfl, d3, en3, an3, by omega⟩
    rintro _ G3 ⟨z6, vs, rfl, d3, en3, an3, l17⟩
    -- mixed
    refine ⟨fun σ' G4 => ∃ nl vs, σ' = [some (.ref a), some (.ref b), some (.ref fr), some (.int (0 + (i : Nat))), some (.ref lh), some (.ref nl), z6, y7, y8, y9, y10, y11, y12] ∧ Drew b bc H2 G4 ∧ H2 nl = none ∧ G4 nl = some (.lst vs) ∧ ANames K G4 vs ∧ vs.length ≤ 17, ?_, ?_⟩
    · refine ⟨.ref b, rfl, .ref nl, rfl, b, bc, nl, vs, rfl, d3.bag, nlb, .inl (.inl en3), by omega, fun G4 p ys d4 np ep pm => ?_⟩
      have e20 : cutV ys none (some (20 : Int)) = ys.take 20 := cut_to (k := 20)
      refine ⟨_, rfl, p, _, rfl, .inl (.inl ep), fun p2 np2 => ?_⟩
      refine ⟨p2, _, rfl, (d3.trans d4).same (same_put np2), (d3.trans d4).free np2, upd_same, fun v hv => ?_, ?_⟩
      · exact ((an3.drew d3.bag d4).same (same_put np2)) v (pm.mem_iff.mp (by rw [e20] at hv; exact List.mem_of_mem_take hv))
      · rw [e20, List.length_take, pm.length_eq]
        omega
    clear an3 en3 d3 l17 vs
    rintro _ G4 ⟨nm, vs, rfl, d4, nnm, enm, an4, l17⟩
    have nmb := (bag2.apart nnm).1
    -- at times one less
    refine ⟨fun σ' G5 => ∃ vs, σ' = [some (.ref a), some (.ref b), some (.ref fr), some (.int (0 + (i : Nat))), some (.ref lh), some (.ref nm), z6, y7, y8, y9, y10, y11, y12] ∧ Drew b bc H2 G5 ∧ G5 nm = some (.lst vs) ∧ ANames K G5 vs ∧ vs.length ≤ 17, ?_, ?_⟩
    · obtain ⟨nms, hn, alln⟩ := an4.names
      have nl17 : nms.length ≤ 17 := by rw [← hn.len]; exact l17
      have g := good_names (ls := nms) (fun l hl => ⟨(alln l hl).1, by have := (alln l hl).2; omega⟩) (by omega)
      refine ⟨.ref nm, rfl, by show 0 ≤ sizeLine; decide, fun p np => ?_⟩
      have s5 := same_put (o := .lst []) np
      refine ⟨.list (nms.map nameD), .list [], .lst (.inl (.inl (s5 _ _ enm))) (names_dpa (hn.same s5)), .lst (.inl (.inl upd_same)) .nil, g.shaped (by decide), by decide +kernel, _, rfl, ite2 (fun h1 => ?_) (fun _ => ⟨vs, rfl, d4.same s5, s5 _ _ enm, an4.same s5, l17⟩)⟩
      have d5 := d4.same s5
      refine ⟨.ref b, rfl, b, bc, 3, rfl, d5.bag, by decide, by decide, fun G6 r d6 _ => ⟨rfl, _, rfl, ?_⟩⟩
      have en6 := d6.keep nm _ nmb (s5 _ _ enm)
      have an6 := (an4.same s5).drew d5.bag d6
      refine ite2 (fun _ => ?_) (fun _ => ⟨vs, rfl, d5.trans d6, en6, an6, l17⟩)
      rw [eqv_none] at h1
      have ne : vs ≠ [] := fun z => by
        have : nms = [] := List.length_eq_zero_iff.mp (by rw [← hn.len, z]; rfl)
        rw [this] at h1
        cases h1
      have pos : vs.length - 1 < vs.length := by
        have := List.length_pos_iff.mpr ne
        omega
      refine ⟨.ref nm, rfl, .inl ⟨rfl, _, .inl (.inl en6)⟩, nm, vs, _, rfl, rfl, en6, List.getElem?_eq_getElem pos, ?_⟩
      refine ⟨vs.dropLast, rfl, (d5.trans d6).put bag2 nnm, upd_same, fun v hv => ?_, by rw [List.length_dropLast]; omega⟩
      obtain ⟨q', m, ev, hq, rest⟩ := an6 v (List.dropLast_subset _ hv)
      refine ⟨q', m, ev, ?_, rest⟩
      rcases hq with (h | ⟨u, h⟩) | h
      · exact .inl (.inl (by rw [upd_ne (ne_of h en6 (by intro z; cases z))]; exact h))
      · exact .inl (.inr ⟨u, by rw [upd_ne (ne_of h en6 (by intro z; cases z))]; exact h⟩)
      · exact .inr h
    clear an4 enm d4 l17 vs
    rintro _ G5 ⟨vs, rfl, d5, enm, an5, l17⟩
    obtain ⟨nms, hn, alln⟩ := an5.names
    have nl17 : nms.length ≤ 17 := by rw [← hn.len]; exact l17
    have g := good_names (ls := nms) (fun l hl => ⟨(alln l hl).1, by have := (alln l hl).2; omega⟩) (by omega)
    have flat := flat_len8 alln
    have few : nms.flatten.length ≤ 150 := by omega
    obtain ⟨x, hx⟩ := least_some few
    -- what is known
    refine ⟨fun σ' G6 => ∃ kd kvs, σ' = [some (.ref a), some (.ref b), some (.ref fr), some (.int (0 + (i : Nat))), some (.ref lh), some (.ref nm), z6, some (.ref kd), y8, y9, y10, y11, y12] ∧ Same G5 G6 ∧ G6 kd = some (.dK kvs) ∧ Keys kvs nms.flatten, ?_, ?_⟩
    · refine ⟨.ref nm, rfl, nm, rfl, ⟨_, .inl (.inl enm)⟩, fun D nD => ?_⟩
      have nDm : nm ≠ D := ne_of_none enm nD
      refine lc_list (K := K) (a := nm) (xs := vs) (fun j G7 => ∃ ps : List Addr, Same G5 G7 ∧ G7 D = some (.lst (ps.map V.ref)) ∧ ps.length = j ∧ ∀ (u : Nat) (p : Addr) (n : List Str), ps[u]? = some p → nms[u]? = some n → p ≠ D ∧ G7 p = some (.lst (n.map V.str)))
        ⟨[], same_put nD, upd_same, rfl, fun u p n hp => by cases hp⟩ (fun j G7 _ h => by obtain ⟨_, s7, _⟩ := h; exact .inl (.inl (s7 _ _ enm))) (fun j v G7 hv h => ?_) (fun G7 h => ?_)
      · obtain ⟨ps, s7, eD, pl, hp⟩ := h
        obtain ⟨q', n, en, rfl, hq⟩ := hn.at_ j v hv
        refine ⟨rfl, .ref q', rfl, q', _, rfl, .inr (same_seqT s7 hq), fun l nl => ?_⟩
        have lj : j < vs.length := (List.getElem?_eq_some_iff.mp hv).1
        have s8 := same_put (o := .lst (n.map V.str)) nl
        have Dl : D ≠ l := ne_of_none eD nl
        refine ⟨_, s8 _ _ eD, small1000 (by rw [List.length_map]; omega), ps ++ [l], fun b' o e => ?_, ?_, by rw [List.length_append, pl]; rfl, fun u p m hu hm => ?_⟩
        · rw [upd_ne (ne_of_none e nD)]
          exact s8 _ _ (s7 _ _ e)
        · rw [upd_same, List.map_append]
          rfl
        · rcases Nat.lt_or_ge u ps.length with lt | ge
          · rw [List.getElem?_append_left lt] at hu
            obtain ⟨pD, ep⟩ := hp u p m hu hm
            exact ⟨pD, by rw [upd_ne pD]; exact s8 _ _ ep⟩
          · have eu : u = ps.length := by
              have := (List.getElem?_eq_some_iff.mp hu).1
              rw [List.length_append] at this
              have : u < ps.length + 1 := this
              omega
            rw [eu, List.getElem?_append_right (Nat.le_refl _), Nat.sub_self] at hu
            cases hu
            rw [eu, pl, en] at hm
            cases hm
            exact ⟨Dl.symm, by rw [upd_ne Dl.symm, upd_same]⟩
      obtain ⟨ps, s7, eD, pl, hp⟩ := h
      refine ⟨by show 0 ≤ sizeLine; decide, fun b0 nb0 => ?_⟩
      have s8 := same_put (o := .lst []) nb0
      have flat2 : (nms.map fun n => n.map V.str).flatten = nms.flatten.map V.str := by rw [List.map_flatten]
      refine ⟨D, b0, ps, nms.map fun n => n.map V.str, rfl, .inl (.inl (s8 _ _ eD)), upd_same, by rw [List.length_map, pl, hn.len], fun u p xs hu hx => ?_, by rw [flat2, List.length_map, sizeLine_eq]; omega, fun T G8 sT eT => ?_⟩
      · rw [List.getElem?_map] at hx
        obtain ⟨n, en, rfl⟩ := Option.map_eq_some_iff.mp hx
        exact s8 _ _ (hp u p n hu en).2
      rw [flat2] at eT
      have sA : Same G5 G8 := (s7.trans s8).trans sT
      refine ⟨T, rfl, ⟨_, .inl (.inl eT)⟩, fun D2 nD2 => ?_⟩
      refine lc_list (K := K) (a := T) (xs := nms.flatten.map V.str) (fun j G9 => ∃ qs : List Addr, Same G8 G9 ∧ G9 D2 = some (.lst (qs.map V.ref)) ∧ qs.length = j ∧ Paired (fun p (kv : L2.Key × V) => SqT K G9 p [kV kv.1, kv.2]) qs ((nms.flatten.take j).map fun x => (Sum.inr x, V.bl true)))
        ⟨[], same_put nD2, upd_same, rfl, .nil⟩ (fun j G9 _ h => by obtain ⟨_, s9, _⟩ := h; exact .inl (.inl (s9 _ _ eT))) (fun j v G9 hv h => ?_) (fun G9 h => ?_)
      · obtain ⟨qs, s9, eQ, ql, pr⟩ := h
        rw [List.getElem?_map] at hv
        obtain ⟨z, ez, rfl⟩ := Option.map_eq_some_iff.mp hv
        have lz := (List.getElem?_eq_some_iff.mp ez).1
        refine ⟨rfl, .str z, rfl, by show 2 ≤ sizeLine; decide, fun t nt => ?_⟩
        have s10 := same_put (o := .tup [.str z, .bl true]) nt
        have tD2 : t ≠ D2 := (ne_of_none eQ nt).symm
        have keep2 : ∀ (p : Addr) (xs : List V) (G' : Hp), Same G9 G' → G' D2 = some (.lst (qs.map V.ref)) → SqT K G' p xs → SqT K (upd G' D2 (.lst (qs.map V.ref ++ [.ref t]))) p xs := fun p xs G' _ e h => by
          rcases h with (h | ⟨u, h⟩) | h
          · exact .inl (.inl (by rw [upd_ne (ne_of h e (by intro z; cases z))]; exact h))
          · exact .inl (.inr ⟨u, by rw [upd_ne (ne_of h e (by intro z; cases z))]; exact h⟩)
          · exact .inr h
        refine ⟨_, s10 _ _ eQ, small1000 (by rw [List.length_map]; omega), qs ++ [t], fun b' o e => ?_, ?_, by rw [List.length_append, ql]; rfl, ?_⟩
        · rw [upd_ne (ne_of_none e nD2)]
          exact s10 _ _ (s9 _ _ e)
        · rw [upd_same, List.map_append]
          rfl
        · rw [List.take_add_one, ez, List.map_append]
          refine Paired.snoc (Paired.mapP pr fun p kv h => keep2 p _ _ s10 (s10 _ _ eQ) (same_seqT s10 h)) (keep2 t _ _ s10 (s10 _ _ eQ) (.inl (.inl upd_same)))
      obtain ⟨qs, s9, eQ, ql, pr⟩ := h
      rw [List.length_map, List.take_length] at pr
      refine ⟨D2, qs, _, rfl, .inl (.inl eQ), pr, fun kd nkd => ?_⟩
      have z := Keys.merge nms.flatten Keys.nil
      rw [List.nil_append] at z
      exact ⟨kd, _, rfl, (sA.trans s9).trans (same_put nkd), upd_same, z⟩
    rintro _ G6 ⟨kd, kvs, rfl, s6, ekd, keys⟩
    have d6 := d5.same s6
    have efr6 := d6.keep fr _ frb efr
    have shown : (PyData.list (nms.map nameD)).shown.length ≤ sizeLine := Nat.le_trans g.len (by decide)
    -- what is due
    refine ⟨fun σ' G7 => σ' = [some (.ref a), some (.ref b), some (.ref fr), some (.int (0 + (i : Nat))), some (.ref lh), some (.ref nm), z6, some (.ref kd), some (.str x), some (.str (PyData.list (nms.map nameD)).shown), y10, y11, y12] ∧ Same G6 G7, ?_, ?_⟩
    · refine ⟨.ref fr, rfl, fr, rfl, ⟨_, .inl (.inl efr6)⟩, fun D nD => ?_⟩
      refine lc_list (K := K) (a := fr) (xs := firsts.map V.str) (fun j G7 => Same G6 G7 ∧ G7 D = some (.lst ((notIn nms j).map V.str))) ⟨same_put nD, upd_same⟩ (fun j G7 _ h => .inl (.inl (h.1 _ _ efr6))) (fun j v G7 hv h => ?_) (fun G7 h => ?_)
      · obtain ⟨s7, eD⟩ := h
        rw [List.getElem?_map] at hv
        obtain ⟨z, ez, rfl⟩ := Option.map_eq_some_iff.mp hv
        have lj := (List.getElem?_eq_some_iff.mp ez).1
        rw [firsts_len] at lj
        have up : notIn nms (j + 1) = notIn nms j ++ [z].filter fun x => !inNames nms x := by
          unfold notIn
          rw [List.take_add_one, ez, List.filter_append]
          rfl
        have nl : (notIn nms j).length ≤ 200 := Nat.le_trans (List.length_filter_le _ _) (by rw [List.length_take]; omega)
        refine ⟨rfl, .str z, rfl, .ref kd, rfl, kd, _, rfl, DGet.k (k := Sum.inr z) (s7 _ _ ekd), _, rfl, ?_⟩
        have ek : (valV kvs (Sum.inr z : L2.Key)).isSome = inNames nms z := keys.is z
        rw [ek]
        cases e : inNames nms z with
        | true =>
          refine iteF ⟨s7, ?_⟩
          have f0 : [z].filter (fun x => !inNames nms x) = [] := by rw [List.filter_cons, e]; rfl
          rw [up, f0, List.append_nil]
          exact eD
        | false =>
          have f1 : [z].filter (fun x => !inNames nms x) = [z] := by rw [List.filter_cons, e]; rfl
          refine iteT ⟨.str z, rfl, _, eD, small1000 (by rw [List.length_map]; omega), fun b' o e' => ?_, ?_⟩
          · rw [upd_ne (ne_of_none e' nD)]
            exact s7 _ _ e'
          · rw [upd_same, up, f1, List.map_append]
            rfl
      · obtain ⟨s7, eD⟩ := h
        rw [List.length_map] at eD
        have e0 : ((notIn nms firsts.length).map V.str)[0]? = some (.str x) := by rw [List.getElem?_map, notIn_head, hx]; rfl
        have hn7 := hn.same (s6.trans s7)
        refine ⟨D, _, ((0 : Nat) : Int), _, rfl, rfl, .inl (.inl eD), atI_nat e0, .ref nm, rfl, .ref nm, .list (nms.map nameD), rfl, .lst (.inl (.inl (s7 _ _ (s6 _ _ enm)))) (names_dpa hn7), g.shows, g.noDict, Nat.le_trans g.deep (by decide), shown, ?_⟩
        exact ⟨_, _, rfl, rfl, s7⟩
    rintro _ G7 ⟨rfl, s7⟩
    refine ⟨2, rfl, by decide, by decide, ?_⟩
    refine for_range (lo := 0) (n := 2) (fun _ σ' G8 => ∃ y10, σ' = [some (.ref a), some (.ref b), some (.ref fr), some (.int (0 + (i : Nat))), some (.ref lh), some (.ref nm), z6, some (.ref kd), some (.str x), some (.str (PyData.list (nms.map nameD)).shown), y10, y11, y12] ∧ Same G7 G8)
      ⟨y10, rfl, Same.refl _⟩ (fun j σ' G8 _ h => ?_) (fun σ' G8 h => ?_)
    · obtain ⟨y10, rfl, s8⟩ := h
      have sA := (s6.trans s7).trans s8
      have hn8 := hn.same sA
      refine ⟨.ref nm, rfl, nm, vs, nms, rfl, .inl (.inl (sA _ _ enm)), hn8, few, fun G9 x2 s9 hx2 => ?_⟩
      rw [hx] at hx2
      cases hx2
      refine ⟨_, rfl, rfl, _, rfl, iteNS rfl ?_⟩
      refine ⟨.ref nm, rfl, .ref nm, .list (nms.map nameD), rfl, .lst (.inl (.inl (s9 _ _ (sA _ _ enm)))) (names_dpa (hn8.same s9)), g.shows, g.noDict, Nat.le_trans g.deep (by decide), shown, _, rfl, rfl, _, rfl, iteNS rfl ?_⟩
      exact ⟨_, rfl, s8.trans s9⟩
    · obtain ⟨y10, rfl, s8⟩ := h
      exact ⟨_, _, _, _, _, _, _, _, _, _, rfl, (d6.same s7).same s8⟩
  · obtain ⟨y3, y4, y5, y6, y7, y8, y9, y10, y11, y12, rfl, dG⟩ := h
    refine ⟨by show 0 ≤ sizeLine; decide, fun l nl => ⟨l, [], [], rfl, .inl (.inl upd_same), ⟨rfl, fun i v hv => by cases hv⟩, by decide, fun H3 x s3 hx => ?_⟩⟩
    rw [least_nil] at hx
    cases hx
    refine ⟨rfl, true, rfl, iteT ?_⟩
    refine ⟨by show 0 ≤ sizeLine; decide, fun t nt => ⟨by show 1 ≤ sizeLine; decide, fun l2 nl2 => ⟨l2, [.ref t], [[]], rfl, .inl (.inl upd_same), ⟨rfl, fun i v hv => ?_⟩, by decide, fun H4 x s4 hx => ?_⟩⟩⟩
    · cases i with
      | zero => cases hv; exact ⟨t, [], rfl, rfl, .inl (.inl (same_put nl2 _ _ upd_same))⟩
      | succ i => cases hv
    · rw [least_empty] at hx
      cases hx
      exact ⟨rfl, q _⟩

end
theorem all_mk {l : PySem.W.OpenLaw} {w : World} {K : PySem.W.Frag} {h : Heap} {mg : Str → Option Value} {fa f0 f1 f2 f3 f4 f5 f6 f7 f8 : Addr} (X : K.In h) (G : h.Ns mainGlobals mg) (hfa : mg "law" = some (.ref fa))
    {tk_LABEL_SIGNS : Tok}
    (gl_LABEL_SIGNS : PySem.W.nsIn K mainGlobals "LABEL_SIGNS" = some (some (.int 8 tk_LABEL_SIGNS)))
    {od0 an0 od1 an1 od2 an2 od3 an3 od4 an4 od5 an5 od6 an6 od7 an7 od8 an8 : Option Addr} {sl0 sl1 sl2 sl3 sl4 sl5 sl6 sl7 sl8 : Array (Option Value)} {oc0 kV0 dc0 pm0 cd0 ct0 oc1 kV1 dc1 pm1 cd1 ct1 oc2 kV2 dc2 pm2 cd2 ct2 oc3 kV3 dc3 pm3 cd3 ct3 oc4 kV4 dc4 pm4 cd4 ct4 oc5 kV5 dc5 pm5 cd5 ct5 oc6 kV6 dc6 pm6 cd6 ct6 oc7 kV7 dc7 pm7 cd7 ct7 oc8 kV8 dc8 pm8 cd8 ct8 : Value}
    (a0 : PySem.W.nsIn K mainGlobals "label_behind" = some (some (.ref f0))) (l0 : K.lookup f0 = some ⟨oc0, od0, .func (PySem.W.fnOf "label_behind" "label_behind" (defArgs s_label_behind) (defBody s_label_behind) (defScope s_label_behind) .none kV0 dc0 pm0 an0 cd0 ct0), sl0⟩) (c0 : PySem.W.codeIn K cd0 "label_behind" = true) (k0 : PySem.W.keepIn K (.ref f0) = true)
    (a1 : PySem.W.nsIn K mainGlobals "label_beyond" = some (some (.ref f1))) (l1 : K.lookup f1 = some ⟨oc1, od1, .func (PySem.W.fnOf "label_beyond" "label_beyond" (defArgs s_label_beyond) (defBody s_label_beyond) (defScope s_label_beyond) .none kV1 dc1 pm1 an1 cd1 ct1), sl1⟩) (c1 : PySem.W.codeIn K cd1 "label_beyond" = true) (k1 : PySem.W.keepIn K (.ref f1) = true)
    (a2 : PySem.W.nsIn K mainGlobals "least_label" = some (some (.ref f2))) (l2 : K.lookup f2 = some ⟨oc2, od2, .func (PySem.W.fnOf "least_label" "least_label" (defArgs s_least_label) (defBody s_least_label) (defScope s_least_label) .none kV2 dc2 pm2 an2 cd2 ct2), sl2⟩) (c2 : PySem.W.codeIn K cd2 "least_label" = true) (k2 : PySem.W.keepIn K (.ref f2) = true)
    (a3 : PySem.W.nsIn K mainGlobals "_law_bag" = some (some (.ref f3))) (l3 : K.lookup f3 = some ⟨oc3, od3, .func (PySem.W.fnOf "_law_bag" "_law_bag" (defArgs s_law_bag) (defBody s_law_bag) (defScope s_law_bag) .none kV3 dc3 pm3 an3 cd3 ct3), sl3⟩) (c3 : PySem.W.codeIn K cd3 "_law_bag" = true) (k3 : PySem.W.keepIn K (.ref f3) = true)
    (a4 : PySem.W.nsIn K mainGlobals "_law_take" = some (some (.ref f4))) (l4 : K.lookup f4 = some ⟨oc4, od4, .func (PySem.W.fnOf "_law_take" "_law_take" (defArgs s_law_take) (defBody s_law_take) (defScope s_law_take) .none kV4 dc4 pm4 an4 cd4 ct4), sl4⟩) (c4 : PySem.W.codeIn K cd4 "_law_take" = true) (k4 : PySem.W.keepIn K (.ref f4) = true)
    (a5 : PySem.W.nsIn K mainGlobals "_law_mix" = some (some (.ref f5))) (l5 : K.lookup f5 = some ⟨oc5, od5, .func (PySem.W.fnOf "_law_mix" "_law_mix" (defArgs s_law_mix) (defBody s_law_mix) (defScope s_law_mix) .none kV5 dc5 pm5 an5 cd5 ct5), sl5⟩) (c5 : PySem.W.codeIn K cd5 "_law_mix" = true) (k5 : PySem.W.keepIn K (.ref f5) = true)
    (a6 : PySem.W.nsIn K mainGlobals "_law_labels" = some (some (.ref f6))) (l6 : K.lookup f6 = some ⟨oc6, od6, .func (PySem.W.fnOf "_law_labels" "_law_labels" (defArgs s_law_labels) (defBody s_law_labels) (defScope s_law_labels) .none kV6 dc6 pm6 an6 cd6 ct6), sl6⟩) (c6 : PySem.W.codeIn K cd6 "_law_labels" = true) (k6 : PySem.W.keepIn K (.ref f6) = true)
    (a7 : PySem.W.nsIn K mainGlobals "_law_first_labels" = some (some (.ref f7))) (l7 : K.lookup f7 = some ⟨oc7, od7, .func (PySem.W.fnOf "_law_first_labels" "_law_first_labels" (defArgs s_law_first_labels) (defBody s_law_first_labels) (defScope s_law_first_labels) .none kV7 dc7 pm7 an7 cd7 ct7), sl7⟩) (c7 : PySem.W.codeIn K cd7 "_law_first_labels" = true) (k7 : PySem.W.keepIn K (.ref f7) = true)
    (a8 : PySem.W.nsIn K mainGlobals "law" = some (some (.ref f8))) (l8 : K.lookup f8 = some ⟨oc8, od8, .func (PySem.W.fnOf "law" "law" (defArgs s_law) (defBody s_law) (defScope s_law) .none kV8 dc8 pm8 an8 cd8 ct8), sl8⟩) (c8 : PySem.W.codeIn K cd8 "law" = true) (k8 : PySem.W.keepIn K (.ref f8) = true)
    (z_abs : PySem.W.nsIn K mainGlobals "abs" = some none)
    (z_len : PySem.W.nsIn K mainGlobals "len" = some none)
    (z_int : PySem.W.nsIn K mainGlobals "int" = some none)
    (z_repr : PySem.W.nsIn K mainGlobals "repr" = some none)
    (z_range : PySem.W.nsIn K mainGlobals "range" = some none)
    (z_tuple : PySem.W.nsIn K mainGlobals "tuple" = some none)
    (z_list : PySem.W.nsIn K mainGlobals "list" = some none)
    (z_dict : PySem.W.nsIn K mainGlobals "dict" = some none)
    (z_sum : PySem.W.nsIn K mainGlobals "sum" = some none) :
    ∃ fd : FuncData, (∀ (s : Shared) (v : Value), BindsTo s fd ⟨[v], []⟩ [("_law_script", v)]) ∧ ∀ base : Heap, K.In base → base.Ns mainGlobals mg → FnQ l.prog w K mg base 4 fa fd ["_law_script"] (spLaw K) := by
  have e := hfa.symm.trans (PySem.W.mg_of X G a8)
  cases e
  have F0 := fun_mk (st := s_label_behind) l0 c0 k0
  have D0 : Df K mg "label_behind" s_label_behind ["label"] f0 _ := ⟨F0, PySem.W.mg_of X G a0, F0.binds (ps := ["label"]) fun _ _ _ _ _ _ us hl => match us, hl with | [_], _ => rfl⟩
  have F1 := fun_mk (st := s_label_beyond) l1 c1 k1
  have D1 : Df K mg "label_beyond" s_label_beyond ["taken"] f1 _ := ⟨F1, PySem.W.mg_of X G a1, F1.binds (ps := ["taken"]) fun _ _ _ _ _ _ us hl => match us, hl with | [_], _ => rfl⟩
  have F2 := fun_mk (st := s_least_label) l2 c2 k2
  have D2 : Df K mg "least_label" s_least_label ["names"] f2 _ := ⟨F2, PySem.W.mg_of X G a2, F2.binds (ps := ["names"]) fun _ _ _ _ _ _ us hl => match us, hl with | [_], _ => rfl⟩
  have F3 := fun_mk (st := s_law_bag) l3 c3 k3
  have D3 : Df K mg "_law_bag" s_law_bag ["_law_script"] f3 _ := ⟨F3, PySem.W.mg_of X G a3, F3.binds (ps := ["_law_script"]) fun _ _ _ _ _ _ us hl => match us, hl with | [_], _ => rfl⟩
  have F4 := fun_mk (st := s_law_take) l4 c4 k4
  have D4 : Df K mg "_law_take" s_law_take ["_law_bag_here", "_law_many"] f4 _ := ⟨F4, PySem.W.mg_of X G a4, F4.binds (ps := ["_law_bag_here", "_law_many"]) fun _ _ _ _ _ _ us hl => match us, hl with | [_, _], _ => rfl⟩
  have F5 := fun_mk (st := s_law_mix) l5 c5 k5
  have D5 : Df K mg "_law_mix" s_law_mix ["_law_bag_here", "_law_some"] f5 _ := ⟨F5, PySem.W.mg_of X G a5, F5.binds (ps := ["_law_bag_here", "_law_some"]) fun _ _ _ _ _ _ us hl => match us, hl with | [_, _], _ => rfl⟩
  have F6 := fun_mk (st := s_law_labels) l6 c6 k6
  have D6 : Df K mg "_law_labels" s_law_labels ["_law_bag_here", "_law_many"] f6 _ := ⟨F6, PySem.W.mg_of X G a6, F6.binds (ps := ["_law_bag_here", "_law_many"]) fun _ _ _ _ _ _ us hl => match us, hl with | [_, _], _ => rfl⟩
  have F7 := fun_mk (st := s_law_first_labels) l7 c7 k7
  have D7 : Df K mg "_law_first_labels" s_law_first_labels ["_law_many"] f7 _ := ⟨F7, PySem.W.mg_of X G a7, F7.binds (ps := ["_law_many"]) fun _ _ _ _ _ _ us hl => match us, hl with | [_], _ => rfl⟩
  have F8 := fun_mk (st := s_law) l8 c8 k8
  have m_abs := PySem.W.mg_none_of X G z_abs
  have m_len := PySem.W.mg_none_of X G z_len
  have m_int := PySem.W.mg_none_of X G z_int
  have m_repr := PySem.W.mg_none_of X G z_repr
  have m_range := PySem.W.mg_none_of X G z_range
  have m_tuple := PySem.W.mg_none_of X G z_tuple
  have m_list := PySem.W.mg_none_of X G z_list
  have m_dict := PySem.W.mg_none_of X G z_dict
  have m_sum := PySem.W.mg_none_of X G z_sum
  have m_LABEL_SIGNS := PySem.W.mg_of X G gl_LABEL_SIGNS
  refine ⟨PySem.W.fnOf "law" "law" (defArgs s_law) (defBody s_law) (defScope s_law) .none kV8 dc8 pm8 an8 cd8 ct8, fun s v => .of_eq rfl, fun base _ _ => ?_⟩
  exact (by
    have G0 := ok_behind (P := l.prog) (w := w) (base := base) F0 m_len m_LABEL_SIGNS
    have G1 := ok_beyond (P := l.prog) (w := w) (base := base) F1 D0 G0
    have G2 := ok_least (P := l.prog) (w := w) (base := base) F2 D1 G1
    have G3 := ok_bag (P := l.prog) (w := w) (base := base) F3 m_abs
    have G4 := ok_take (P := l.prog) (w := w) (base := base) F4 m_len m_int
    have G5 := ok_mix (P := l.prog) (w := w) (base := base) F5 D4 G4 m_len
    have G6 := ok_labels (P := l.prog) (w := w) (base := base) F6 D4 G4 m_int m_range
    have G7 := ok_firsts (P := l.prog) (w := w) (base := base) F7 m_range
    exact ok_law F8 D3 G3 D4 G4 D7 G7 D6 G6 D5 G5 D2 G2 m_len m_range m_repr m_tuple m_list m_dict m_sum)
end K15
open PySem PySem.W PyProof.Rows
set_option maxRecDepth 100000 in
set_option maxHeartbeats 0 in
theorem PySem.Challenge.cw_listnames_k15_least_labels_holds : PySem.Challenge.rw_listnames_k15_least_labels.Holds := by
  w_on; o_law; k_head; (case hw => w_witness2)
  k_fill
  refine LN.walk_ofQ (l := PySem.Challenge.rw_listnames_k15_least_labels) (n := 63) (k := 4) (x := "_law_script") (sp := fun w => K15.spLaw _) rfl (by decide) rfl ⟨rfl, by decide, by decide⟩ (fun w h Y => PySem.W.kIn_of Y) ?F (fun _ _ a ns hl _ hS => ⟨a, ns, rfl, hS, hl, fun _ => rfl⟩)
  case F =>
    intro w mg fa h KX G hmg
    refine' K15.all_mk KX G hmg ?gl_LABEL_SIGNS ?a0 ?l0 ?c0 ?k0 ?a1 ?l1 ?c1 ?k1 ?a2 ?l2 ?c2 ?k2 ?a3 ?l3 ?c3 ?k3 ?a4 ?l4 ?c4 ?k4 ?a5 ?l5 ?c5 ?k5 ?a6 ?l6 ?c6 ?k6 ?a7 ?l7 ?c7 ?k7 ?a8 ?l8 ?c8 ?k8 ?z_abs ?z_len ?z_int ?z_repr ?z_range ?z_tuple ?z_list ?z_dict ?z_sum
    (case gl_LABEL_SIGNS => k_is)
    (case a0 => k_is)
    (case l0 => k_is)
    (case c0 => k_is)
    (case k0 => k_is)
    (case a1 => k_is)
    (case l1 => k_is)
    (case c1 => k_is)
    (case k1 => k_is)
    (case a2 => k_is)
    (case l2 => k_is)
    (case c2 => k_is)
    (case k2 => k_is)
    (case a3 => k_is)
    (case l3 => k_is)
    (case c3 => k_is)
    (case k3 => k_is)
    (case a4 => k_is)
    (case l4 => k_is)
    (case c4 => k_is)
    (case k4 => k_is)
    (case a5 => k_is)
    (case l5 => k_is)
    (case c5 => k_is)
    (case k5 => k_is)
    (case a6 => k_is)
    (case l6 => k_is)
    (case c6 => k_is)
    (case k6 => k_is)
    (case a7 => k_is)
    (case l7 => k_is)
    (case c7 => k_is)
    (case k7 => k_is)
    (case a8 => k_is)
    (case l8 => k_is)
    (case c8 => k_is)
    (case k8 => k_is)
    (case z_abs => k_is)
    (case z_len => k_is)
    (case z_int => k_is)
    (case z_repr => k_is)
    (case z_range => k_is)
    (case z_tuple => k_is)
    (case z_list => k_is)
    (case z_dict => k_is)
    (case z_sum => k_is)
