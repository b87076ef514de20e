import PyProof.Rows.All
import Wide.All
import OpenK.AllK
import Wide.FinOn
import HandS.Base
import HandS.Call
import HandS.List
import HandS.Comp
import HandS.Ends
import HandS.Words
import HandS.Codes
import HandS.TupAny
import HandS.More
import HandS.Iter
import HandS.Text
import HandS.Dict
import HandS.WordsList
import HandS.Evl
import HandS.TupMul
import HandS.IsInst
import HandS.Walk
import HandS.DictComp
import HandS.WordsDict
import HandS.WordsExc
import HandS.TupSets
import HandS.SortRule
import HandS.DictTup
import HandS.SortKw
import HandS.Deep
import HandS.Star
import HandS.Property
import HandS.MakeKwOnly
import HandS.Flow
import HandS.CallSlots
import HandS.ExcInit
import HandS.ExcField
import HandS.Style
import HandS.TupLen
import HandS.NoneIn
import HandS.TryOnly
import HandS.TryMany
import HandS.OwnEq
import HandS.SetKeys
import HandS.ExcOwn
import KE.SortKeyHeap
import KE.KSortKey
import KE.SortData
import PyProof.ListRange
import KE.DataEq
import HandS.SlotsOwn
import KE.KOpsOwn
import OpenK.KMeth
import OpenK.KOps
import HandS.Conv
import KE.KDictPairs
import KE.KDictWalk
import KE.KDictDisplayH
import PyProof.DictCompW
import PyProof.DictMoreH
import HandS.ExcValue
import HandS.StrMore
import HandS.Replace
import KE.KDictItemsList
import KE.KDictSum
import KE.KEqDict
import PyProof.DictFindH
import HandS.ExcIs
import KE.KExcIs
import HandS.DeepEq
import PyProof.ReprRoads
import HandS.SetFor
import KE.KEqNest
import KE.KDictCopyH
import KE.SortCalls
import KE.DataMinMax
import PySem.Challenge.RW_listnames_k17_zones_refused
set_option Elab.async false
set_option linter.all false
set_option maxRecDepth 100000
namespace LN
open PySem PySem.Spec PyProof.Rows L2

/-! calls around which no text of a container is being made -/
abbrev Quiet (A : Around) : Prop := A.guards = some []

structure FnQ (P : Program) (w : World) (K : PySem.W.Frag) (mg : Str → Option Value) (base : Heap) (k : Nat) (f : Addr) (fd : FuncData) (ps : List Str) (sp : Sp) : Prop where
  size : ∀ vs H Q, sp vs H Q E0 → vs.length = ps.length
  go : ∀ (A : Around) (outer : List Env) (s : Shared) (H : Hp) (us : List Value) (vs : List V) (Q : VK), Quiet A → Room k A → Env0 P w K mg base A outer s H →
    BindsTo s fd ⟨us, []⟩ (ps.zip us) → Vals vs us → sp vs H Q E0 → codeAny (model P w) A (.call (.ref f) ⟨us, []⟩) (CR CX0 outer P w H s Q E0) s

section
variable {P : Program} {w : World} {K : PySem.W.Frag} {mg : Str → Option Value} {base : Heap}
theorem okQ {x qual : Str} {st : Stmt} {f : Addr} {fd : FuncData} {N ps : List Str} {k : Nat} {sp : Sp} (F : Fun K x qual st f fd) (S : FnScope N ps (defScope st))
    (size : ∀ vs H Q, sp vs H Q E0 → vs.length = ps.length)
    (body : ∀ (cdv : Value) (A : Around) (outer : List Env) (s : Shared) (H : Hp) (vs : List V) (Q : VK), Quiet A →
      Room k (A.deeper (envOfC qual (defScope st) s.heap.objs.size f cdv)) → sp vs H Q E0 →
      ∃ t, PSs (cxOf CX0 P w K mg base N qual (defScope st) f cdv A outer s H E0).nox (defBody st) t ∧ t { nx := fun _ H' => Q .non H', rt := Q } (start N vs) H) :
    FnQ P w K mg base (k + 1) f fd ps sp := by
  obtain ⟨oc, od, kV, doc, pm, an, cdv, ct, osl, rfl, lk, hcd⟩ := F.ex
  constructor
  · exact size
  intro A outer s H us vs Q quiet room env binds rel want
  have inHeap : K.In s.heap := env.mod.kin.keeps (fun b o e => (env.bs b o e).1)
  have noLim : s.heap.NoLimit := env.mod.nolimit.keeps (fun b o e => (env.bs b o e).1)
  have kinds : ∀ y ∈ ps.zip us, (defScope st).names.lookup y.1 = some .local ∨
      ((defScope st).names.lookup y.1 = some .cell ∧ ((cellsFrom (s.heap.objs.size + 1) (defScope st).names []).lookup y.1).isSome = true) := by
    intro y hy
    cases S.par y.1 (List.of_mem_zip (show (y.1, y.2) ∈ ps.zip us from hy)).1 with
    | inl q => exact .inl q
    | inr q => exact .inr ⟨q, PySem.W.cellsFrom_some _ _ _ (.inl q)⟩
  apply codeAny_call_function room.depth (inHeap _ _ lk) rfl S.co S.gen rfl (PySem.W.codeRec_of inHeap hcd) (binds _ _ _ _ _)
  apply wpAny_newFunctionEnv_cells S.kind kinds
  intro env' henv s1 entered
  subst henv
  refine ⟨noLim.keeps entered.toInCall.keep, codeAny_func ?_⟩
  obtain ⟨t, rule, reads⟩ := body cdv A outer s H vs Q quiet (room.deeper _) want
  have inv := inv_start (CX := CX0) (E := E0) S room.hd env (size _ _ _ want) rel entered
  refine wpAny_mono (rule.nox.run [] s1 (start N vs) H _ inv reads) ?_ (fun e s' hs => hs)
  intro fl s' hs
  cases fl with
  | ret u =>
    obtain ⟨v, σ', H', J, rv, q⟩ := hs
    exact ⟨v, H', J.os, J.bare, J.base, J.hok, rv, q⟩
  | next =>
    obtain ⟨σ', H', J, q⟩ := hs
    exact ⟨V.non, H', J.os, J.bare, J.base, J.hok, rfl, q⟩
  | brk =>
    obtain ⟨_, _, _, q⟩ := hs
    cases q
  | cont =>
    obtain ⟨_, _, _, q⟩ := hs
    cases q
end

section
variable {X : Cx} {k : Nat} {f : Addr} {fd : FuncData} {ps : List Str} {sp : Sp} {x : Str} {p pos : Pos} {e : Expr} {es : List Expr} {t : TA}
theorem callQ (F : FnQ X.prog X.w X.K X.mg X.base k f fd ps sp) (quiet : Quiet X.A) (room : Room k X.A) (hg : Gl X x) (hm : X.mg x = some (.ref f)) (hk : PySem.W.keepIn X.K (.ref f) = true)
    (hb : Binds X.K fd ps []) (args : PA X (e :: es) t) (hdb : (x == ("__debug__" : Str)) = false := by decide) (he : starEach (e :: es) X.env = (false, eval e X.env) :: starEach es X.env := by rfl)
    (hpl : (backTo pos (starEach es X.env)).any (·.1) = false := by rfl) : PE X (.Call (.Name x p) (e :: es) [] pos) (tCall sp [] E0 t) := by
  constructor
  intro pins s σ H Q inv want
  apply wpAny_Call_Name_kw (ld_glob inv hg hm _ hdb)
  apply PySem.W.callWith_K (h₀ := X.base) inv.ok.mod.kin hk _ he hpl
  refine thn (args.run pos pins s σ H _ inv want) ?_
  rintro us s1 ⟨vs, H1, I1, r, q⟩
  refine ⟨I1.kIn, ?_⟩
  rw [List.append_nil] at q
  have hl : us.length = ps.length := r.length.symm.trans (F.size _ _ _ q)
  have hbs := hb s1 us I1.kIn (by rw [List.append_nil]; exact hl)
  rw [List.append_nil] at hbs
  refine wpAny_call (codeAny_mono (F.go X.A X.stack s1 H1 us vs Q quiet room I1.env0 hbs r q) ?_)
  intro r' s' hq
  cases r' with
  | error e => cases (show False from hq)
  | ok fl =>
    cases fl with
    | ret u => exact I1.after hq
    | next => cases (show False from hq)
    | brk => cases (show False from hq)
    | cont => cases (show False from hq)

theorem cr_repr (quiet : Quiet X.A) (hu : X.A.units + 70 < cLine) : CallR X (.builtin "repr") (fun xs H Q => ∃ x d, xs = [x] ∧ Dp X.K H x d ∧ d.showable = true ∧ d.hasDict = false ∧ d.depth ≤ 60 ∧ d.shown.length ≤ sizeLine ∧ Q (.str d.shown) H) := by
  intro pins s σ H xs us Q inv rel want
  obtain ⟨x, d, rfl, hd, h1, h2, h3, h4, q⟩ := want
  obtain ⟨u, rfl, ru⟩ := vals1 rel
  obtain ⟨as, rd⟩ := Dp.reads inv d _ _ hd ru
  have fin : ∀ tk t, EP X pins σ Q (.str d.shown t) { s with toks := tk } := fun tk t => ⟨.str d.shown, H, inv.tok _, ⟨t, rfl⟩, q⟩
  cases hd with
  | non =>
    obtain rfl : u = Value.none := ru
    exact PySem.P.repr_of_none (fin _ _)
  | bl b =>
    obtain rfl : u = Value.bool b := ru
    exact PySem.P.repr_of_bool (fin _ _)
  | int i =>
    obtain ⟨t, rfl⟩ := ru
    exact PySem.P.repr_of_int (of_decide_eq_true h1) (fin _ _)
  | str z =>
    obtain ⟨t, rfl⟩ := ru
    exact PySem.P.repr_of_str (fin _ _) h4
  | lst q1 q2 =>
    cases ru
    refine repr_of_reads' rd h1 (PyData.noDict_hsm h2) quiet (by omega) (fun _ _ e => e) ?_ h4
    intro h' u tk hk
    exact ⟨.str (PyData.list _).shown, H, inv.un (t' := tk) (Un.kept hk) (inv.hok.kept hk), ⟨u, rfl⟩, q⟩
  | tup q1 q2 =>
    cases ru
    refine repr_of_reads' rd h1 (PyData.noDict_hsm h2) quiet (by omega) (fun _ _ e => e) ?_ h4
    intro h' u tk hk
    exact ⟨.str (PyData.tuple _).shown, H, inv.un (t' := tk) (Un.kept hk) (inv.hok.kept hk), ⟨u, rfl⟩, q⟩
end
end LN

namespace LN
open PySem PySem.Spec PyProof.Rows L2

section
variable {P : Program} {w : World} {K : PySem.W.Frag} {mg mb : Str → Option Value} {k : Nat} {fa a : Addr} {fd : FuncData} {x : Str} {sp : Sp} {s₁ : Shared} {vs : List Value} {ns : List Int}
abbrev EndsTrue (s₁ : Shared) : Result → Shared → Prop := fun r s' => r = .ok (.ret (.bool true)) ∧ PySem.OldK s₁.heap s'.heap ∧ s'.os = s₁.os ∧ AllBare s'.gens

theorem law_over (inHeap : K.In s₁.heap) (top : s₁.heap.Ns mainGlobals mg) (blt : s₁.heap.Ns builtinsNs mb) (bltIs : ∀ x : Str, x ≠ "__name__" → mb x = bootBuiltins x) (lim : s₁.heap.NoLimit) (gens : s₁.gens = #[])
    (script : s₁.heap.get? a = some { cls := .type "list", data := .seq vs.toArray }) (room : Room k callerA)
    (F : ∀ base : Heap, K.In base → base.Ns mainGlobals mg → FnQ P w K mg base k fa fd [x] sp) (bind : ∀ (s : Shared) (u : Value), BindsTo s fd ⟨[u], []⟩ [(x, u)])
    (H : Hp) (only : Only H) (held : HOk P w H s₁.heap) (there : ∀ b, H b ≠ none → b = a) (off : H a ≠ none → K.lookup a = none) (want : sp [.ref a] H (fun v _ => v = .bl true) E0) :
    codeAny (model P w) callerA (.call (.ref fa) ⟨[.ref a], []⟩) (EndsTrue s₁) s₁ := by
  have stay : ∀ {b : Addr} {o : Obj}, s₁.heap.get? b = some o → H b = none → (hidT s₁.heap H).get? b = some o := fun e n => hidT_get e n
  have notDict : ∀ {b : Addr} {o : Obj} {es : Array DictEntry} {ep : Nat}, s₁.heap.get? b = some o → o.data = .dict es ep → H b = none := by
    intro b o es ep e d
    cases q : H b with
    | none => rfl
    | some u =>
      have eb := there b (by rw [q]; exact Option.some_ne_none u)
      rw [eb, script] at e
      cases e
      cases (show Data.seq vs.toArray _ = Data.dict es ep from d)
  have spaces : ∀ {b : Addr} {m : Str → Option Value}, s₁.heap.Ns b m → (hidT s₁.heap H).Ns b m := by
    rintro b m ⟨o, es, ep, e, d, r⟩
    exact ⟨o, es, ep, stay e (notDict e d), d, r⟩
  have inHid : K.In (hidT s₁.heap H) := by
    intro b o e
    refine stay (inHeap b o e) ?_
    cases q : H b with
    | none => rfl
    | some u =>
      have eb := there b (by rw [q]; exact Option.some_ne_none u)
      have z := off (by rw [← eb, q]; exact Option.some_ne_none u)
      rw [eb, z] at e
      cases e
  have md : Mod K mg (hidT s₁.heap H) := by
    obtain ⟨mc, l1, l2⟩ := lim
    exact ⟨inHid, spaces top, ⟨mb, spaces blt, bltIs⟩, ⟨mc, spaces l1, l2⟩⟩
  have env : Env0 P w K mg (hidT s₁.heap H) callerA [] s₁ H := by
    refine ⟨rfl, md, fun b o e => of_hidT e, Nat.le_of_eq (hidT_size _ _), trivial, ?_, held, .of_eq gens⟩
    intro b hb
    exact absurd (show b ∈ ([] : List Addr) from hb) List.not_mem_nil
  refine codeAny_mono ((F _ inHid (spaces top)).go callerA [] s₁ H [.ref a] [.ref a] _ rfl room env (bind s₁ (.ref a)) (.cons rfl .nil) want) ?_
  intro r s' h
  cases r with
  | error e => cases (show False from h)
  | ok fl =>
    cases fl with
    | next => cases (show False from h)
    | brk => cases (show False from h)
    | cont => cases (show False from h)
    | ret u =>
      obtain ⟨v, H', os, bare, un, held', rv, q⟩ := h
      obtain rfl : v = .bl true := q
      obtain rfl : u = Value.bool true := rv
      refine ⟨rfl, OldK.of_keep ?_, os, bare⟩
      intro b o e
      cases q : H b with
      | none => exact un.keep b o e q (fun z => absurd (show b ∈ ([] : List Addr) from z) List.not_mem_nil) List.not_mem_nil
      | some u =>
        cases only b with
        | inl z => rw [q] at z; cases z
        | inr z =>
          obtain ⟨ob, xs, z⟩ := z
          obtain ⟨e1, _⟩ := held b _ z
          obtain ⟨e2, _⟩ := held' b _ (un.frzs b ob _ z)
          rw [e] at e1
          cases e1
          exact e2

theorem law_callQ (inHeap : K.In s₁.heap) (top : s₁.heap.Ns mainGlobals mg) (blt : s₁.heap.Ns builtinsNs mb) (bltIs : ∀ x : Str, x ≠ "__name__" → mb x = bootBuiltins x) (lim : s₁.heap.NoLimit) (gens : s₁.gens = #[])
    (script : s₁.heap.get? a = some { cls := .type "list", data := .seq vs.toArray }) (whole : IntsAre vs ns) (size : ns.length ≤ sizeLine) (room : Room k callerA)
    (F : ∀ base : Heap, K.In base → base.Ns mainGlobals mg → FnQ P w K mg base k fa fd [x] sp) (bind : ∀ (s : Shared) (u : Value), BindsTo s fd ⟨[u], []⟩ [(x, u)])
    (want : ∀ H : Hp, Only H → SqL K H a (ns.map V.int) → sp [.ref a] H (fun v _ => v = .bl true) E0) :
    codeAny (model P w) callerA (.call (.ref fa) ⟨[.ref a], []⟩) (EndsTrue s₁) s₁ := by
  have rv := vals_ints whole
  cases hk : K.lookup a with
  | some o =>
    have e := inHeap a o hk
    rw [script] at e
    cases e
    have sq : SqL K (fun _ => none) a (ns.map V.int) := by
      refine .inr ⟨_, vs.toArray, _, hk, rfl, rfl, rfl, ?_, by simpa using rv⟩
      rw [List.size_toArray, whole.length]
      exact size
    exact law_over inHeap top blt bltIs lim gens script room F bind (fun _ => none) (fun _ => .inl rfl) (fun b u z => nomatch (show (none : Option HO) = some u from z)) (fun b z => absurd rfl z) (fun z => absurd rfl z) (want _ (fun _ => .inl rfl) sq)
  | none =>
    let H : Hp := fun b => if b = a then some (.frz { cls := .type "list", data := .seq vs.toArray } (.lst (ns.map V.int))) else none
    have ha : H a = some (.frz { cls := .type "list", data := .seq vs.toArray } (.lst (ns.map V.int))) := if_pos rfl
    have hb : ∀ b, b ≠ a → H b = none := fun b n => if_neg n
    have only : Only H := by
      intro b
      by_cases e : b = a
      · rw [e]; exact .inr ⟨_, _, ha⟩
      · exact .inl (hb b e)
    refine law_over inHeap top blt bltIs lim gens script room F bind H only ?_ ?_ (fun _ => hk) (want H only (.inl (.inr ⟨_, ha⟩)))
    · intro b u z
      by_cases e : b = a
      · subst e
        rw [ha] at z
        cases z
        exact ⟨script, by rw [List.length_map]; exact size, vs, _, rv, script⟩
      · rw [hb b e] at z
        cases z
    · intro b z
      by_cases e : b = a
      · exact e
      · exact absurd (hb b e) z
end

theorem walk_ofQ {l : PySem.W.OpenLaw} {n k : Nat} {q : Program} {loose : List Str} {XP : (Str → Option Value) → Heap → Prop} {YP : World → Heap → Prop} {d : DefRec} {K : Params → PySem.W.Frag} {sp : World → Sp} {x : Str}
    (most : l.most = some n) (few : n ≤ sizeLine) (plain : d.params.defaults = []) (room : Room k callerA) (hY : ∀ (w : World) (h : Heap), YP w h → (K w.params).In h)
    (F : ∀ (w : World) (mg : Str → Option Value) (fa : Addr) (h : Heap), (K w.params).In h → h.Ns mainGlobals mg → mg d.name = some (.ref fa) →
      ∃ fd : FuncData, (∀ (s : Shared) (u : Value), BindsTo s fd ⟨[u], []⟩ [(x, u)]) ∧
        ∀ base : Heap, (K w.params).In base → base.Ns mainGlobals mg → FnQ l.prog w (K w.params) mg base k fa fd [x] (sp w))
    (want : ∀ (w : World) (H : Hp) (a : Addr) (ns : List Int), ns.length ≤ n → Only H → SqL (K w.params) H a (ns.map V.int) → sp w [.ref a] H (fun v _ => v = .bl true) E0) :
    PySem.W.WalkO q loose XP YP l.row.toRowW d [] (fun f vs => PySem.call f vs) := by
  apply Att.attach_call most plain
  intro w s₀ s₁ mg mb fa o pm cd doc a vs ns G Y ho hd hcd hmg hobj whole len gens
  obtain ⟨fd, bind, hF⟩ := F w mg fa _ (hY w _ Y) G.T.g hmg
  exact law_callQ (hY w _ Y) G.T.g G.T.b G.T.builtins G.T.nolimit gens hobj whole (Nat.le_trans len few) room hF bind (fun H only sq => want w H a ns len only sq)
end LN

namespace LN
open PySem PySem.Spec PyProof.Rows L2
theorem same_put {H : Hp} {p : Addr} {o : HO} (h : H p = none) : Same H (upd H p o) := fun b x e => by
  rw [upd_ne (ne_of_none e h)]
  exact e
theorem upd_own {H : Hp} {p : Addr} {o : HO} (h : H p = some o) : upd H p o = H := by
  funext b
  by_cases e : b = p
  · rw [e, upd_same, h]
  · rw [upd_ne e]

section
variable {X : Cx}
/-- xs[i], i counted from 0, where the store of xs[i] op= e reads it -/
theorem get_list : PGet X (fun x y H Q => ∃ p xs i v, x = .ref p ∧ y = .int (i : Nat) ∧ i < 1000 ∧ H p = some (.lst xs) ∧ xs[i]? = some v ∧ Q v H) := by
  intro pins s σ H o i ov iv Q inv ro ri want
  obtain ⟨p, xs, j, v, rfl, rfl, small, hp, at_, q⟩ := want
  obtain rfl : ov = Value.ref p := ro
  obtain ⟨t, rfl⟩ := ri
  obtain ⟨its, r, pl, hz⟩ := inv.list (.inl (.inl hp))
  obtain ⟨u, eu, ru⟩ := r.get at_
  refine wpAny_getItem_list pl.isList (Int.natCast_nonneg _) (by omega) (by simpa using eu) ?_
  exact ⟨v, H, inv, ru, q⟩

/-- text * int -/
theorem op_mulStr : OpR X (binaryOp .Mult) (fun x y H Q => ∃ z n, x = .str z ∧ y = .int n ∧ MulOk z n ∧ Q (.str (Txt.mul z n)) H) := by
  intro pins s σ H x y v u Q inv rx ry want
  obtain ⟨z, n, rfl, rfl, ok, q⟩ := want
  obtain ⟨t, rfl⟩ := rx
  obtain ⟨t', rfl⟩ := ry
  refine SB.mul ok ?_
  intro t'' k
  exact ⟨.str _, H, inv.tok _, ⟨_, rfl⟩, q⟩
end

/-- the bag of a law: four places; what is drawn next hangs on the first three -/
def Bag (b bc : Addr) (H : Hp) : Prop := ∃ (x0 x1 x2 : Int) (ns : List Int), bc ≠ b ∧ H b = some (.lst [.int x0, .int x1, .int x2, .ref bc]) ∧ H bc = some (.lst (ns.map V.int)) ∧ 0 ≤ x1 ∧ x1 < 2147483647 ∧ 0 ≤ x2
theorem Bag.same {b bc : Addr} {H H' : Hp} (h : Bag b bc H) (s : Same H H') : Bag b bc H' := by
  obtain ⟨x0, x1, x2, ns, h1, h2, h3, h4⟩ := h
  exact ⟨x0, x1, x2, ns, h1, s _ _ h2, s _ _ h3, h4⟩
/-- all that was tracked, but the bag, is as it was; the bag is one -/
structure Drew (b bc : Addr) (H H' : Hp) : Prop where
  bag : Bag b bc H'
  keep : ∀ a o, a ≠ b → H a = some o → H' a = some o
  held : ∀ a, H a ≠ none → H' a ≠ none
theorem Drew.refl {b bc : Addr} {H : Hp} (h : Bag b bc H) : Drew b bc H H := ⟨h, fun _ _ _ e => e, fun _ e => e⟩
theorem Drew.trans {b bc : Addr} {H H1 H2 : Hp} (h : Drew b bc H H1) (g : Drew b bc H1 H2) : Drew b bc H H2 := ⟨g.bag, fun a o n e => g.keep a o n (h.keep a o n e), fun a e => g.held a (h.held a e)⟩
theorem Drew.same {b bc : Addr} {H H1 H2 : Hp} (h : Drew b bc H H1) (g : Same H1 H2) : Drew b bc H H2 := ⟨h.bag.same g, fun a o n e => g a o (h.keep a o n e), fun a e z => by
  have := h.held a e
  cases q : H1 a with
  | none => exact this q
  | some o => rw [g a o q] at z; cases z⟩
theorem same_drew {b bc : Addr} {H H1 H2 : Hp} (g : Same H H1) (h : Drew b bc H1 H2) : Drew b bc H H2 := ⟨h.bag, fun a o n e => h.keep a o n (g a o e), fun a e z => by
  cases q : H a with
  | none => exact e q
  | some o => exact h.held a (by rw [g a o q]; exact Option.some_ne_none o) z⟩
theorem Drew.free {b bc : Addr} {H H' : Hp} (h : Drew b bc H H') {p : Addr} (e : H' p = none) : H p = none := by
  cases q : H p with
  | none => rfl
  | some o => exact absurd e (h.held p (by rw [q]; exact Option.some_ne_none o))
def spBag (K : PySem.W.Frag) : Sp := fun vs H Q _ => ∃ (a : Addr) (ns : List Int), vs = [.ref a] ∧ SqL K H a (ns.map V.int) ∧ ns.length ≤ 63 ∧ ∀ H' b bc, Same H H' → H b = none → H bc = none → Bag b bc H' → Q (.ref b) H'
def spTake : Sp := fun vs H Q _ => ∃ (b bc : Addr) (m : Nat), vs = [.ref b, .int m] ∧ Bag b bc H ∧ 1 ≤ m ∧ m < 1073741824 ∧ ∀ H' (r : Nat), Drew b bc H H' → r < m → Q (.int r) H'
end LN

namespace LN
open PySem PySem.Spec PyProof.Rows L2

/-! data that can be compared and shown: dep bounds how deep it is, n how long its text -/
structure Good (d : PyData) (dep n : Nat) : Prop where
  lay : d.canLay0 = true
  shows : d.showable = true
  deep : d.depth ≤ dep
  len : d.shown.length ≤ n
theorem Good.mono {d : PyData} {a b n m : Nat} (g : Good d a n) (h : a ≤ b) (h' : n ≤ m) : Good d b m := ⟨g.lay, g.shows, Nat.le_trans g.deep h, Nat.le_trans g.len h'⟩
theorem Good.bool (b : Bool) : Good (.bool b) 0 5 := by cases b <;> exact ⟨rfl, rfl, Nat.le_refl _, by decide⟩
theorem Good.none : Good .none 0 5 := ⟨rfl, rfl, Nat.le_refl _, by decide⟩
theorem Good.str {x : Str} {m : Nat} (h : PyData.strOk x = true) (l : x.length ≤ m) : Good (.str x) 0 (10 * m + 2) := by
  refine ⟨h, rfl, Nat.le_refl _, ?_⟩
  have k := StrLaws.reprText_len x (fun c hc => by
    have := Array.all_eq_true_iff_forall_mem.mp h c (Array.mem_def.mpr hc)
    have := of_decide_eq_true this
    omega)
  show (reprText x).length ≤ _
  omega
theorem piled_le {n : Nat} : ∀ {ds : List PyData}, (∀ d ∈ ds, d.shown.length ≤ n) → piled (PyData.shownAll ds) ≤ ds.length * (n + 2)
  | [], _ => Nat.zero_le _
  | d :: ds, h => by
    have ih := piled_le (ds := ds) fun x hx => h x (List.mem_cons_of_mem _ hx)
    have h1 := h d List.mem_cons_self
    show piled (d.shown :: PyData.shownAll ds) ≤ _
    rw [piled_cons, List.length_cons, Nat.succ_mul]
    omega
theorem listText_le (ts : List Str) : (listText ts).length ≤ 2 + piled ts := by
  cases ts with
  | nil => exact Nat.le_refl 2
  | cons t r =>
    have h := textFrom_length_pos r 1 (("[" : Str) ++ (if (0 : Nat) > 0 then ", " else "" : String) ++ t) (Nat.succ_pos 0)
    have e : (listText (t :: r)).length = (textFrom 1 (("[" : Str) ++ (if (0 : Nat) > 0 then ", " else "" : String) ++ t) r).length + 1 := by
      unfold listText
      rw [strLen_append]
      rfl
    have e2 : ((("[" : Str) ++ (if (0 : Nat) > 0 then ", " else "" : String) ++ t)).length = 1 + t.length := by
      rw [strLen_append, strLen_append]
      rfl
    rw [e, h, e2, piled_cons]
    omega
theorem tupleText_le (ts : List Str) : (tupleText ts).length ≤ 3 + piled ts := by
  unfold tupleText
  rw [strLen_append, strLen_append]
  have e1 : ((("(" : String) : Str)).length = 1 := rfl
  have e3 : (((if ts.length == 1 then ",)" else ")" : String) : Str)).length ≤ 2 := by split <;> decide
  rw [e1]
  by_cases h : ts = []
  · subst h
    have : (Str.join (", " : String) []).length = 0 := rfl
    omega
  · have := join_length_add ts h
    omega
theorem all_lay {ds : List PyData} (h : ∀ d ∈ ds, d.canLay0 = true) : PyData.canLayAll0 ds = true := by
  induction ds with
  | nil => rfl
  | cons d ds ih =>
    show (d.canLay0 && PyData.canLayAll0 ds) = true
    rw [h d List.mem_cons_self, ih fun x hx => h x (List.mem_cons_of_mem _ hx)]
    rfl
theorem all_shows {ds : List PyData} (h : ∀ d ∈ ds, d.showable = true) : PyData.showableAll ds = true := by
  induction ds with
  | nil => rfl
  | cons d ds ih =>
    show (d.showable && PyData.showableAll ds) = true
    rw [h d List.mem_cons_self, ih fun x hx => h x (List.mem_cons_of_mem _ hx)]
    rfl
theorem all_deep {ds : List PyData} {k : Nat} (h : ∀ d ∈ ds, d.depth ≤ k) : PyData.depthAll ds ≤ k := by
  induction ds with
  | nil => exact Nat.zero_le _
  | cons d ds ih =>
    show max d.depth (PyData.depthAll ds) ≤ k
    exact Nat.max_le.mpr ⟨h d List.mem_cons_self, ih fun x hx => h x (List.mem_cons_of_mem _ hx)⟩
theorem Good.list {ds : List PyData} {k n m : Nat} (h : ∀ d ∈ ds, Good d k n) (l : ds.length ≤ m) : Good (.list ds) (k + 1) (2 + m * (n + 2)) := by
  refine ⟨all_lay fun d hd => (h d hd).lay, all_shows fun d hd => (h d hd).shows, Nat.succ_le_succ (all_deep fun d hd => (h d hd).deep), ?_⟩
  show (listText (PyData.shownAll ds)).length ≤ _
  have h1 := listText_le (PyData.shownAll ds)
  have h2 := piled_le fun d hd => (h d hd).len
  have h3 := Nat.mul_le_mul_right (n + 2) l
  omega
theorem Good.tuple {ds : List PyData} {k n m : Nat} (h : ∀ d ∈ ds, Good d k n) (l : ds.length ≤ m) : Good (.tuple ds) (k + 1) (3 + m * (n + 2)) := by
  refine ⟨all_lay fun d hd => (h d hd).lay, all_shows fun d hd => (h d hd).shows, Nat.succ_le_succ (all_deep fun d hd => (h d hd).deep), ?_⟩
  show (tupleText (PyData.shownAll ds)).length ≤ _
  have h1 := tupleText_le (PyData.shownAll ds)
  have h2 := piled_le fun d hd => (h d hd).len
  have h3 := Nat.mul_le_mul_right (n + 2) l
  omega
theorem Good.shaped {d : PyData} {k n : Nat} (g : Good d k n) (h : k ≤ 60) : SeqAt.shaped d = true := by
  unfold SeqAt.shaped
  rw [g.lay, decide_eq_true (Nat.le_trans g.deep (Nat.le_trans h (by decide)))]
  rfl
theorem Good.noDict {d : PyData} {k n : Nat} (g : Good d k n) : d.hasDict = false := PyData.hasDict_of_canLay d g.lay
theorem Good.self {d : PyData} {k n : Nat} (g : Good d k n) : PyData.eqv d d = true := SeqAt.eqv_refl d g.lay

/-! labels and names -/
structure Lab (x : Str) : Prop where
  ok : PyData.strOk x = true
  few : x.length ≤ 20
abbrev Labs (l : List Str) : Prop := ∀ x ∈ l, Lab x
def nameD (l : List Str) : PyData := .tuple (l.map PyData.str)
theorem good_name {l : List Str} (h : Labs l) (n : l.length ≤ 100) : Good (nameD l) 1 20500 := by
  have g : ∀ d ∈ l.map PyData.str, Good d 0 202 := fun d hd => by
    obtain ⟨x, hx, rfl⟩ := List.mem_map.mp hd
    exact Good.str (h x hx).ok (h x hx).few
  exact (Good.tuple g (m := 100) (by rw [List.length_map]; exact n)).mono (Nat.le_refl _) (by decide)
theorem good_names {ls : List (List Str)} (h : ∀ l ∈ ls, Labs l ∧ l.length ≤ 100) (n : ls.length ≤ 100) : Good (.list (ls.map nameD)) 2 2100000 := by
  have g : ∀ d ∈ ls.map nameD, Good d 1 20500 := fun d hd => by
    obtain ⟨x, hx, rfl⟩ := List.mem_map.mp hd
    exact good_name (h x hx).1 (h x hx).2
  exact (Good.list g (m := 100) (by rw [List.length_map]; exact n)).mono (Nat.le_refl _) (by decide)
theorem good_bools {bs : List Bool} (n : bs.length ≤ 1000) : Good (.list (bs.map PyData.bool)) 1 7002 := by
  have g : ∀ d ∈ bs.map PyData.bool, Good d 0 5 := fun d hd => by
    obtain ⟨x, _, rfl⟩ := List.mem_map.mp hd
    exact Good.bool x
  exact (Good.list g (m := 1000) (by rw [List.length_map]; exact n)).mono (Nat.le_refl _) (by decide)
theorem Labs.take {l : List Str} (h : Labs l) (n : Nat) : Labs (l.take n) := fun x hx => h x (List.mem_of_mem_take hx)
theorem Labs.drop {l : List Str} (h : Labs l) (n : Nat) : Labs (l.drop n) := fun x hx => h x (List.mem_of_mem_drop hx)
theorem Labs.append {l m : List Str} (h : Labs l) (g : Labs m) : Labs (l ++ m) := fun x hx => (List.mem_append.mp hx).elim (h x) (g x)
theorem Labs.cons {x : Str} {l : List Str} (h : Lab x) (g : Labs l) : Labs (x :: l) := fun y hy => (List.mem_cons.mp hy).elim (fun e => e ▸ h) (g y)
theorem Labs.nil : Labs [] := fun _ h => absurd h List.not_mem_nil

section
variable {K : PySem.W.Frag} {H H' : Hp}
theorem same_rd {a : Addr} {o : HO} (s : Same H H') (h : Rd H a o) : Rd H' a o := h.elim (fun e => .inl (s _ _ e)) fun ⟨u, e⟩ => .inr ⟨u, s _ _ e⟩
theorem same_seqT {a : Addr} {xs : List V} (s : Same H H') (h : SqT K H a xs) : SqT K H' a xs := h.elim (fun e => .inl (same_rd s e)) .inr
mutual
theorem dp_same (s : Same H H') : ∀ {d : PyData} {v : V}, Dp K H v d → Dp K H' v d
  | _, _, .non => .non
  | _, _, .bl b => .bl b
  | _, _, .int i => .int i
  | _, _, .str x => .str x
  | _, _, .lst q r => .lst (Same.seq s q) (dpa_same s r)
  | _, _, .tup q r => .tup (same_seqT s q) (dpa_same s r)
theorem dpa_same (s : Same H H') : ∀ {ds : List PyData} {vs : List V}, DpAll K H vs ds → DpAll K H' vs ds
  | _, _, .nil => .nil
  | _, _, .cons q r => .cons (dp_same s q) (dpa_same s r)
end
theorem dpa_append : ∀ {vs ws : List V} {ds es : List PyData}, DpAll K H vs ds → DpAll K H ws es → DpAll K H (vs ++ ws) (ds ++ es)
  | _, _, _, _, .nil, g => g
  | _, _, _, _, .cons q r, g => .cons q (dpa_append r g)
theorem dpa_len : ∀ {vs : List V} {ds : List PyData}, DpAll K H vs ds → vs.length = ds.length
  | _, _, .nil => rfl
  | _, _, .cons _ r => congrArg Nat.succ (dpa_len r)
theorem dpa_snoc {vs : List V} {ds : List PyData} {v : V} {d : PyData} (h : DpAll K H vs ds) (g : Dp K H v d) : DpAll K H (vs ++ [v]) (ds ++ [d]) := dpa_append h (.cons g .nil)
theorem dp_strs : ∀ l : List Str, DpAll K H (l.map V.str) (l.map PyData.str)
  | [] => .nil
  | x :: l => .cons (.str x) (dp_strs l)
theorem dp_bools : ∀ l : List Bool, DpAll K H (l.map V.bl) (l.map PyData.bool)
  | [] => .nil
  | x :: l => .cons (.bl x) (dp_bools l)
/-- the name l stands at a -/
abbrev Nm (K : PySem.W.Frag) (H : Hp) (a : Addr) (l : List Str) : Prop := SqT K H a (l.map V.str)
theorem nm_dp {a : Addr} {l : List Str} (h : Nm K H a l) : Dp K H (.ref a) (nameD l) := .tup h (dp_strs l)
theorem Drew.nm {b bc a : Addr} {l : List Str} (s : Drew b bc H H') (hb : ∃ xs, H b = some (.lst xs)) (h : Nm K H a l) : Nm K H' a l := by
  obtain ⟨xs, hb⟩ := hb
  rcases h with (h | ⟨o, h⟩) | h
  · exact .inl (.inl (s.keep a _ (ne_of h hb (by intro z; cases z)) h))
  · exact .inl (.inr ⟨o, s.keep a _ (ne_of h hb (by intro z; cases z)) h⟩)
  · exact .inr h
theorem Bag.lst {b bc : Addr} (h : Bag b bc H) : ∃ xs, H b = some (.lst xs) := by
  obtain ⟨_, _, _, _, _, h, _⟩ := h
  exact ⟨_, h⟩
end

/-- a def of the text, by its name -/
structure Df (K : PySem.W.Frag) (mg : Str → Option Value) (x : Str) (st : Stmt) (ps : List Str) (f : Addr) (fd : FuncData) : Prop where
  F : Fun K x x st f fd
  g : mg x = some (.ref f)
  b : Binds K fd ps []
section
variable {X : Cx} {k : Nat} {f : Addr} {fd : FuncData} {ps : List Str} {sp : Sp} {x : Str} {st : Stmt} {p pos : Pos} {e : Expr} {es : List Expr} {t : TA}
theorem pcall (D : Df X.K X.mg x st ps f fd) (G : FnOk X.prog X.w X.K X.mg X.base CX0 k f fd ps sp) (hr : Room k X.A) (ha : PA X (e :: es) t) (hg : Gl X x := by rfl) (hdb : (x == ("__debug__" : Str)) = false := by decide)
    (he : starEach (e :: es) X.env = (false, eval e X.env) :: starEach es X.env := by rfl) (hpl : (backTo pos (starEach es X.env)).any (·.1) = false := by rfl) : PE X (.Call (.Name x p) (e :: es) [] pos) (tCall sp [] E0 t) :=
  pe_call G hr hg D.g D.F.kp D.b .nil pass0 ha hdb he hpl
theorem qcall (D : Df X.K X.mg x st ps f fd) (G : FnQ X.prog X.w X.K X.mg X.base k f fd ps sp) (q : Quiet X.A) (hr : Room k X.A) (ha : PA X (e :: es) t) (hg : Gl X x := by rfl) (hdb : (x == ("__debug__" : Str)) = false := by decide)
    (he : starEach (e :: es) X.env = (false, eval e X.env) :: starEach es X.env := by rfl) (hpl : (backTo pos (starEach es X.env)).any (·.1) = false := by rfl) : PE X (.Call (.Name x p) (e :: es) [] pos) (tCall sp [] E0 t) :=
  callQ G q hr hg D.g D.F.kp D.b ha hdb he hpl
end
/-- two things with the same data are alike -/
def spAlike (K : PySem.W.Frag) : Sp := fun vs H Q _ => ∃ (x y : V) (d : PyData) (k n : Nat), vs = [x, y] ∧ Dp K H x d ∧ Dp K H y d ∧ Good d k n ∧ k ≤ 60 ∧ n ≤ sizeLine ∧ Q (.bl true) H
end LN
namespace LN
open PySem PySem.Spec PyProof.Rows L2
section
variable {K : PySem.W.Frag} {H H' : Hp}
theorem drew_seq {b bc l : Addr} {xs : List V} (s : Drew b bc H H') (n : l ≠ b) (h : SqL K H l xs) : SqL K H' l xs := by
  rcases h with (h | ⟨o, h⟩) | h
  · exact .inl (.inl (s.keep l _ n h))
  · exact .inl (.inr ⟨o, s.keep l _ n h⟩)
  · exact .inr h
end
def spPick (K : PySem.W.Frag) : Sp := fun vs H Q _ => ∃ (b bc l : Addr) (xs : List V), vs = [.ref b, .ref l] ∧ Bag b bc H ∧ l ≠ b ∧ SqL K H l xs ∧ 1 ≤ xs.length ∧ xs.length ≤ 1000 ∧ ∀ H' (i : Nat) v, Drew b bc H H' → xs[i]? = some v → Q v H'
def spUnder (K : PySem.W.Frag) : Sp := fun vs H Q _ => ∃ (a c : Addr) (n t : List Str), vs = [.ref a, .ref c] ∧ Nm K H a n ∧ Nm K H c t ∧ Labs n ∧ Labs t ∧ n.length ≤ 100 ∧ t.length ≤ 100 ∧ ∀ H', Same H H' → Q (.bl (decide (t <:+ n))) H'
def spBeneath (K : PySem.W.Frag) : Sp := fun vs H Q _ => ∃ (a c : Addr) (n t : List Str), vs = [.ref a, .ref c] ∧ Nm K H a n ∧ Nm K H c t ∧ Labs n ∧ Labs t ∧ n.length ≤ 100 ∧ t.length ≤ 100 ∧ ∀ H', Same H H' → Q (.bl (decide (t.length < n.length ∧ t <:+ n))) H'
def tails (n : List Str) : List (List Str) := (List.range (n.length + 1)).map fun k => n.drop k
def spTops (K : PySem.W.Frag) : Sp := fun vs H Q _ => ∃ (a : Addr) (n : List Str), vs = [.ref a] ∧ Nm K H a n ∧ Labs n ∧ n.length ≤ 100 ∧ ∀ H' p vs, Same H H' → H p = none → H' p = some (.lst vs) → DpAll K H' vs ((tails n).map nameD) → Q (.ref p) H'
theorem eqv_str (x y : Str) : PyData.eqv (.str x) (.str y) = decide (x = y) := by
  show (x == y) = decide (x = y)
  by_cases h : x = y
  · subst h
    simp
  · simp [h]
theorem eqv_strs : ∀ (a b : List Str), PyData.eqvAll (a.map PyData.str) (b.map PyData.str) = decide (a = b)
  | [], [] => rfl
  | [], _ :: _ => rfl
  | _ :: _, [] => rfl
  | x :: a, y :: b => by
    show (PyData.eqv (.str x) (.str y) && PyData.eqvAll (a.map PyData.str) (b.map PyData.str)) = _
    rw [eqv_str, eqv_strs a b]
    by_cases h : x = y
    · by_cases g : a = b <;> simp [h, g]
    · simp [h]
theorem eqv_name (a b : List Str) : PyData.eqv (nameD a) (nameD b) = decide (a = b) := eqv_strs a b
end LN
namespace LN
open PySem PySem.Spec PyProof.Rows L2
section
variable {K : PySem.W.Frag} {H H' : Hp}
/-! data without lists: what the change of a list does not touch -/
mutual
def noLst : PyData → Bool
  | .list _ => false
  | .tuple xs => noLsts xs
  | _ => true
def noLsts : List PyData → Bool
  | [] => true
  | d :: ds => noLst d && noLsts ds
end
mutual
theorem dp_put {D : Addr} {ys zs : List V} (e : H D = some (.lst ys)) : ∀ {d : PyData} {v : V}, Dp K H v d → noLst d = true → Dp K (upd H D (.lst zs)) v d
  | _, _, .non, _ => .non
  | _, _, .bl b, _ => .bl b
  | _, _, .int i, _ => .int i
  | _, _, .str x, _ => .str x
  | _, _, .lst q r, h => absurd h (by simp [noLst])
  | _, _, .tup q r, h => by
    refine .tup ?_ (dpa_put e r (by simpa [noLst] using h))
    rcases q with (q | ⟨o, q⟩) | q
    · exact .inl (.inl (by rw [upd_ne (ne_of q e (by intro z; cases z))]; exact q))
    · exact .inl (.inr ⟨o, by rw [upd_ne (ne_of q e (by intro z; cases z))]; exact q⟩)
    · exact .inr q
theorem dpa_put {D : Addr} {ys zs : List V} (e : H D = some (.lst ys)) : ∀ {ds : List PyData} {vs : List V}, DpAll K H vs ds → noLsts ds = true → DpAll K (upd H D (.lst zs)) vs ds
  | _, _, .nil, _ => .nil
  | _, _, .cons q r, h => by
    have h' : (noLst _ && noLsts _) = true := h
    rw [Bool.and_eq_true] at h'
    exact .cons (dp_put e q h'.1) (dpa_put e r h'.2)
end
theorem strs_noLst : ∀ l : List Str, noLsts (l.map PyData.str) = true
  | [] => rfl
  | x :: l => strs_noLst l
theorem names_noLst : ∀ ls : List (List Str), noLsts (ls.map nameD) = true
  | [] => rfl
  | l :: ls => by
    show (noLsts (l.map PyData.str) && noLsts (ls.map nameD)) = true
    rw [strs_noLst, names_noLst ls]
    rfl
end
end LN
namespace LN
open PySem PySem.Spec PyProof.Rows L2
theorem strOk_cat {x y : Str} (h : PyData.strOk x = true) (g : PyData.strOk y = true) : PyData.strOk (x ++ y) = true := by
  have h' : x.cps.all (· < 0x110000) = true := h
  have g' : y.cps.all (· < 0x110000) = true := g
  show (x.cps ++ y.cps).all (· < 0x110000) = true
  rw [Array.all_append, h', g']
  rfl
theorem mulOk0 (x : Str) : MulOk x 0 := ⟨by decide, fun h => absurd (by decide) h, fun h => absurd (by decide) h⟩
theorem mulOk1 (x : Str) : MulOk x 1 := ⟨by decide, fun _ h => absurd h (by simp), fun _ h => absurd h (by simp)⟩
theorem mul_0 (x : Str) : Txt.mul x 0 = Str.empty := rfl
theorem mul_1 (x : Str) : Txt.mul x 1 = x := rfl
theorem mul_few {x : Str} {k : Int} (h0 : 0 ≤ k) (h2 : k < 2) : MulOk x k ∧ (Txt.mul x k = Str.empty ∨ Txt.mul x k = x) := by
  have : k = 0 ∨ k = 1 := by omega
  rcases this with rfl | rfl
  · exact ⟨mulOk0 x, .inl rfl⟩
  · exact ⟨mulOk1 x, .inr rfl⟩
def stems : List Str := ["", "a", "zzzzzzz", "aaaaaaa"]
theorem stem_ok : ∀ x ∈ stems, PyData.strOk x = true ∧ x.length ≤ 7 := by decide +kernel
def letters : Str := "abcdefghijklmnopqrstuvwxyz"
theorem letters_at {i : Nat} (h : i < 26) : ∃ c, letters.cps[i]? = some c ∧ c < 0x110000 := by
  have all : ∀ j, j < 26 → ((letters.cps[j]?).elim false fun c => decide (c < 0x110000)) = true := by decide +kernel
  have := all i h
  cases e : letters.cps[i]? with
  | none => rw [e] at this; cases this
  | some c => rw [e] at this; exact ⟨c, rfl, of_decide_eq_true this⟩
theorem strOk_one {c : Nat} (h : c < 0x110000) : PyData.strOk ⟨#[c]⟩ = true := by
  show (#[c] : Array Nat).all (· < 0x110000) = true
  simp [h]
def spLabels : Sp := fun vs H Q _ => ∃ (b bc : Addr) (n : Nat), vs = [.ref b, .int n] ∧ Bag b bc H ∧ n ≤ 100 ∧
  ∀ H' p (ls : List Str), Drew b bc H H' → H p = none → H' p = some (.lst (ls.map V.str)) → Labs ls → (∀ x ∈ ls, x.length ≤ 10) → ls.length = n → Q (.ref p) H'
theorem bag_put {b bc D : Addr} {H : Hp} {o : HO} (h : Bag b bc H) (n : D ≠ b) (n2 : D ≠ bc) : Bag b bc (upd H D o) := by
  obtain ⟨x0, x1, x2, ns, h1, h2, h3, h4⟩ := h
  refine ⟨x0, x1, x2, ns, h1, by rw [upd_ne n.symm]; exact h2, by rw [upd_ne n2.symm]; exact h3, h4⟩
theorem Bag.there {b bc : Addr} {H : Hp} (h : Bag b bc H) : H b ≠ none ∧ H bc ≠ none := by
  obtain ⟨x0, x1, x2, ns, h1, h2, h3, h4⟩ := h
  rw [h2, h3]
  exact ⟨Option.some_ne_none _, Option.some_ne_none _⟩
theorem Bag.apart {b bc D : Addr} {H : Hp} (h : Bag b bc H) (e : H D = none) : D ≠ b ∧ D ≠ bc := ⟨fun z => h.there.1 (z ▸ e), fun z => h.there.2 (z ▸ e)⟩
/-- a list that was made behind H is changed -/
theorem Drew.put {b bc D : Addr} {H G : Hp} {o : HO} (d : Drew b bc H G) (h : Bag b bc H) (e : H D = none) : Drew b bc H (upd G D o) := by
  have n := h.apart e
  refine ⟨bag_put d.bag n.1 n.2, fun a u ne q => ?_, fun a q z => ?_⟩
  · rw [upd_ne (ne_of_none q e)]
    exact d.keep a u ne q
  · by_cases ea : a = D
    · rw [ea] at q
      exact q e
    · rw [upd_ne ea] at z
      exact d.held a q z
end LN
namespace LN
open PySem PySem.Spec PyProof.Rows L2
def spWord (K : PySem.W.Frag) : Sp := fun vs H Q _ => ∃ (b bc l : Addr) (ls : List Str) (lo hi : Nat), vs = [.ref b, .ref l, .int lo, .int hi] ∧ Bag b bc H ∧ l ≠ b ∧ SqL K H l (ls.map V.str) ∧ Labs ls ∧ 1 ≤ ls.length ∧ ls.length ≤ 1000 ∧ lo ≤ hi ∧ hi ≤ 90 ∧
  ∀ H' p nm, Drew b bc H H' → Nm K H' p nm → Labs nm → lo ≤ nm.length → nm.length ≤ hi → Q (.ref p) H'
def spMore (K : PySem.W.Frag) : Sp := fun vs H Q _ => ∃ (b bc l : Addr) (ls : List Str), vs = [.ref b, .ref l] ∧ Bag b bc H ∧ l ≠ b ∧ H l = some (.lst (ls.map V.str)) ∧ Labs ls ∧ (∀ x ∈ ls, x.length ≤ 10) ∧ 1 ≤ ls.length ∧ ls.length ≤ 100 ∧
  ∀ H' p ms, Drew b bc H H' → H p = none → H' p = some (.lst (ms.map V.str)) → Labs ms → 1 ≤ ms.length → ms.length ≤ 101 → Q (.ref p) H'
def spNear (K : PySem.W.Frag) : Sp := fun vs H Q _ => ∃ (b bc l a : Addr) (ls nm : List Str), vs = [.ref b, .ref l, .ref a] ∧ Bag b bc H ∧ l ≠ b ∧ SqL K H l (ls.map V.str) ∧ Labs ls ∧ 1 ≤ ls.length ∧ ls.length ≤ 1000 ∧ Nm K H a nm ∧ Labs nm ∧ nm.length ≤ 90 ∧
  ∀ H' p rs, Drew b bc H H' → Nm K H' p rs → Labs rs → rs.length ≤ nm.length + 1 → Q (.ref p) H'
def spRight (K : PySem.W.Frag) : Sp := fun vs H Q _ => ∃ (a c : Addr) (n t : List Str), vs = [.ref a, .ref c] ∧ Nm K H a n ∧ Nm K H c t ∧ Labs n ∧ Labs t ∧ n.length ≤ 49 ∧ t.length ≤ 49 ∧ ∀ H', Same H H' → Q (.bl true) H'
end LN
namespace LN
open PySem PySem.Spec PyProof.Rows L2
section
variable {X : Cx}
/-- t[lo:hi], the whole and any other part alike -/
def rSlD (K : PySem.W.Frag) : V → Option Int → Option Int → Hp → VK → Prop := fun x lo hi H Q => ∃ a xs, x = .ref a ∧ SqT K H a xs ∧ ∀ p H', Same H H' → SqT K H' p (cutV xs lo hi) → Q (.ref p) H'
theorem sl_tupD : SlR X (rSlD X.K) := by
  intro pins s σ H x v vl vu lo hi sl Q inv rx hs pl pu want
  obtain ⟨a, xs, rfl, hx, q⟩ := want
  refine sl_tupA pins s σ H _ v vl vu lo hi sl Q inv rx hs pl pu ⟨a, xs, rfl, hx, fun hw => q a H (Same.refl H) ?_, fun _ p np => q p _ (same_put np) (.inl (.inl upd_same))⟩
  have e : cutV xs lo hi = xs := by
    unfold cutV
    rw [hw.1, hw.2]
    simp
  rw [e]
  exact hx
/-- t + u, empty ones too -/
def rCatD (K : PySem.W.Frag) : R2 := fun x y H Q => ∃ a b xs ys, x = .ref a ∧ y = .ref b ∧ SqT K H a xs ∧ SqT K H b ys ∧ xs.length + ys.length ≤ sizeLine ∧ ∀ p H', Same H H' → SqT K H' p (xs ++ ys) → Q (.ref p) H'
theorem op_catD : OpR X (binaryOp .Add) (rCatD X.K) := by
  intro pins s σ H x y v u Q inv rx ry want
  obtain ⟨a, b, xs, ys, rfl, rfl, ha, hb, hz, q⟩ := want
  refine op_catA pins s σ H _ _ v u Q inv rx ry ⟨a, b, xs, ys, rfl, rfl, ha, hb, hz, fun e => q b H (Same.refl H) ?_, fun _ e => q a H (Same.refl H) ?_, fun _ _ p np => q p _ (same_put np) (.inl (.inl upd_same))⟩
  · rw [e]
    exact hb
  · rw [e, List.append_nil]
    exact ha
end
theorem cut_to {xs : List V} {k : Nat} : cutV xs none (some (k : Int)) = xs.take k := by
  unfold cutV
  rw [HT.sIx_none, HT.sIx_nat, List.drop_zero]
  by_cases h : k ≤ xs.length
  · rw [Nat.min_eq_left h, Nat.sub_zero]
  · rw [Nat.min_eq_right (by omega), Nat.sub_zero, List.take_length, List.take_of_length_le (by omega)]
theorem cut_from {xs : List V} {k : Nat} : cutV xs (some (k : Int)) none = xs.drop k := by
  unfold cutV
  rw [HT.sIx_none, HT.sIx_nat]
  by_cases h : k ≤ xs.length
  · rw [Nat.min_eq_left h]
    exact List.take_of_length_le (by simp)
  · rw [Nat.min_eq_right (by omega), List.drop_length, List.drop_of_length_le (by omega), List.take_nil]
end LN
namespace LN
open PySem PySem.Spec PyProof.Rows L2
section
variable {K : PySem.W.Frag} {H H' : Hp}
theorem dpa_strs : ∀ {l : List Str} {vs : List V}, DpAll K H vs (l.map PyData.str) → vs = l.map V.str
  | [], _, .nil => rfl
  | x :: l, _, .cons q r => by
    have e := dpa_strs (l := l) r
    cases q
    rw [e]
    rfl
theorem dp_nm {v : V} {l : List Str} (h : Dp K H v (nameD l)) : ∃ a, v = .ref a ∧ Nm K H a l := by
  have h' : Dp K H v (.tuple (l.map PyData.str)) := h
  cases h' with
  | tup q r =>
    have e := dpa_strs r
    rw [e] at q
    exact ⟨_, rfl, q⟩
theorem dpa_get : ∀ {vs : List V} {ds : List PyData} {i : Nat} {v : V}, DpAll K H vs ds → vs[i]? = some v → ∃ d, ds[i]? = some d ∧ Dp K H v d
  | _, _, _, _, .nil, e => by simp at e
  | _, _, 0, _, .cons q r, e => by
    have e' := Option.some.inj e
    exact ⟨_, rfl, e' ▸ q⟩
  | _, _, i + 1, _, .cons q r, e => by
    obtain ⟨d, h1, h2⟩ := dpa_get (i := i) r (by simpa using e)
    exact ⟨d, by simpa using h1, h2⟩
end
def heads (n : List Str) (i : Nat) : List (List Str) := (List.range i).map fun k => n.take k
def fits (n t : List Str) (i : Nat) : List (List Str) := (heads n i).filter fun h => decide (h ++ t = n)
theorem one_fit (n t h : List Str) : [h].filter (fun h => decide (h ++ t = n)) = if h ++ t = n then [h] else [] := by
  by_cases y : h ++ t = n
  · rw [if_pos y]
    simp [y]
  · rw [if_neg y]
    simp [y]
theorem range_only (c : Nat) : ∀ m, (List.range m).filter (fun k => decide (k = c)) = if c < m then [c] else []
  | 0 => rfl
  | m + 1 => by
    rw [List.range_succ, List.filter_append, range_only c m]
    by_cases h : c < m
    · rw [if_pos h, if_pos (by omega), List.filter_cons_of_neg (by simp; omega)]
      rfl
    · rw [if_neg h]
      by_cases e : m = c
      · subst e
        rw [if_pos (by omega), List.filter_cons_of_pos (by simp)]
        rfl
      · rw [if_neg (by omega), List.filter_cons_of_neg (by simp; exact e)]
        rfl
theorem take_fits {n t : List Str} {k : Nat} (h : k ≤ n.length) : n.take k ++ t = n ↔ t <:+ n ∧ k = n.length - t.length := by
  constructor
  · intro e
    have l := congrArg List.length e
    rw [List.length_append, List.length_take, Nat.min_eq_left h] at l
    exact ⟨⟨_, e⟩, by omega⟩
  · rintro ⟨⟨z, rfl⟩, rfl⟩
    have e : (z ++ t).length - t.length = z.length := by rw [List.length_append]; omega
    rw [e, List.take_left]
theorem fits_all {n t : List Str} : fits n t (n.length + 1) = if t <:+ n then [n.take (n.length - t.length)] else [] := by
  have e : fits n t (n.length + 1) = ((List.range (n.length + 1)).filter fun k => decide (t <:+ n ∧ k = n.length - t.length)).map fun k => n.take k := by
    unfold fits heads
    rw [List.filter_map]
    congr 1
    apply List.filter_congr
    intro k hk
    have := List.mem_range.mp hk
    exact decide_eq_decide.mpr (take_fits (by omega))
  rw [e]
  by_cases s : t <:+ n
  · rw [if_pos s]
    have e2 : (fun k => decide (t <:+ n ∧ k = n.length - t.length)) = fun k => decide (k = n.length - t.length) := by
      funext k
      exact decide_eq_decide.mpr ⟨fun z => z.2, fun z => ⟨s, z⟩⟩
    rw [e2, range_only, if_pos (by omega)]
    rfl
  · rw [if_neg s]
    have e2 : (fun k => decide (t <:+ n ∧ k = n.length - t.length)) = fun _ => false := by
      funext k
      exact decide_eq_false fun z => s z.1
    rw [e2, List.filter_eq_nil_iff.mpr (fun _ _ => Bool.false_ne_true)]
    rfl
end LN
namespace LN
open PySem PySem.Spec PyProof.Rows L2
/-- a tuple of two names -/
def Two (K : PySem.W.Frag) (H : Hp) (x : V) : Prop := ∃ (t u v : Addr) (n m : List Str), x = .ref t ∧ H t = some (.tup [.ref u, .ref v]) ∧ Nm K H u n ∧ Nm K H v m ∧ Labs n ∧ Labs m ∧ n.length ≤ 49 ∧ m.length ≤ 49
theorem Two.same {K : PySem.W.Frag} {H H' : Hp} {x : V} (h : Two K H x) (s : Same H H') : Two K H' x := by
  obtain ⟨t, u, v, n, m, e, h1, h2, h3, h4⟩ := h
  exact ⟨t, u, v, n, m, e, s _ _ h1, same_seqT s h2, same_seqT s h3, h4⟩
theorem good_tails {n : List Str} (h : Labs n) (k : n.length ≤ 90) : Good (.list ((tails n).map nameD)) 2 2100000 := by
  refine good_names (fun l hl => ?_) ?_
  · obtain ⟨i, _, rfl⟩ := List.mem_map.mp hl
    exact ⟨h.drop i, by rw [List.length_drop]; omega⟩
  · unfold tails
    rw [List.length_map, List.length_range]
    omega
end LN

namespace LN
open PySem PySem.Spec PyProof.Rows L2

/-! frozen data, by value -/
inductive D where
  | non | bl (b : Bool) | int (i : Int) | str (x : Str) | val (v : V)
  | tup (ds : List D) | lst (ds : List D)
  | wt (ds : List D) | ro (ds : List D)
  | dct (kvs : List (List L2.Key × D))
  | obj (C : Addr) (fs : List (Str × D))
  | raw (o : HO)
  | exc (a : Addr) (od : Option Addr) (C : Addr) (fs : List (Str × D))
def isDct : HO → Bool
  | .dK _ => true
  | .dT _ => true
  | _ => false
def lkd : HO → Bool
  | .frz _ u => isDct u
  | o => isDct o
/-- more is known; dicts may be locked or unlocked -/
structure Up (F F' : Hp) : Prop where
  keep : ∀ a o, F a = some o → lkd o = false → F' a = some o
  dct : ∀ a o, isDct o = true → Rd F a o → Rd F' a o
theorem Up.refl (F : Hp) : Up F F := ⟨fun _ _ e _ => e, fun _ _ _ e => e⟩
theorem Up.trans {F G H : Hp} (a : Up F G) (b : Up G H) : Up F H := ⟨fun x o e l => b.keep x o (a.keep x o e l) l, fun x o d r => b.dct x o d (a.dct x o d r)⟩
theorem Up.of {F F' : Hp} (s : Same F F') : Up F F' := ⟨fun a o e _ => s a o e, fun a o _ r => r.elim (fun e => .inl (s _ _ e)) fun ⟨u, e⟩ => .inr ⟨u, s _ _ e⟩⟩

mutual
inductive Rp (K : PySem.W.Frag) (F : Hp) : V → D → Prop
  | non : Rp K F .non .non
  | bl (b : Bool) : Rp K F (.bl b) (.bl b)
  | int (i : Int) : Rp K F (.int i) (.int i)
  | str (x : Str) : Rp K F (.str x) (.str x)
  | val (v : V) : Rp K F v (.val v)
  | tup {a : Addr} {xs : List V} {ds : List D} : F a = some (.tup xs) → RpAll K F xs ds → Rp K F (.ref a) (.tup ds)
  | lst {a : Addr} {xs : List V} {ds : List D} : F a = some (.lst xs) → RpAll K F xs ds → Rp K F (.ref a) (.lst ds)
  | wt {a : Addr} {xs : List V} {ds : List D} : SqT K F a xs → RpAll K F xs ds → Rp K F (.ref a) (.wt ds)
  | ro {a : Addr} {xs : List V} {ds : List D} : SqL K F a xs → RpAll K F xs ds → Rp K F (.ref a) (.ro ds)
  | dct {a : Addr} {kvs : List (List L2.Key × V)} {ds : List (List L2.Key × D)} : Rd F a (.dT kvs) → RpKv K F kvs ds → Rp K F (.ref a) (.dct ds)
  | obj {a C dx : Addr} {fs : List (Str × V)} {gs : List (Str × D)} : F a = some (.ins C dx fs) → RpFs K F fs gs → Rp K F (.ref a) (.obj C gs)
  | raw {a : Addr} {o : HO} : F a = some o → lkd o = false → Rp K F (.ref a) (.raw o)
  | exc0 {a C : Addr} : Rp K F (.ref a) (.exc a none C [])
  | exc1 {a C dd : Addr} {fs : List (Str × V)} {gs : List (Str × D)} : F dd = some (.xd fs) → RpFs K F fs gs → Rp K F (.ref a) (.exc a (some dd) C gs)
inductive RpAll (K : PySem.W.Frag) (F : Hp) : List V → List D → Prop
  | nil : RpAll K F [] []
  | cons {v : V} {vs : List V} {d : D} {ds : List D} : Rp K F v d → RpAll K F vs ds → RpAll K F (v :: vs) (d :: ds)
inductive RpKv (K : PySem.W.Frag) (F : Hp) : List (List L2.Key × V) → List (List L2.Key × D) → Prop
  | nil : RpKv K F [] []
  | cons {k : List L2.Key} {v : V} {kvs : List (List L2.Key × V)} {d : D} {ds : List (List L2.Key × D)} : Rp K F v d → RpKv K F kvs ds → RpKv K F ((k, v) :: kvs) ((k, d) :: ds)
inductive RpFs (K : PySem.W.Frag) (F : Hp) : List (Str × V) → List (Str × D) → Prop
  | nil : RpFs K F [] []
  | cons {f : Str} {v : V} {d : D} {fs : List (Str × V)} {gs : List (Str × D)} : Rp K F v d → RpFs K F fs gs → RpFs K F ((f, v) :: fs) ((f, d) :: gs)
end

section
variable {K : PySem.W.Frag} {F F' : Hp}
theorem nodct {o : HO} (l : lkd o = false) : isDct o = false := by
  cases o with
  | dK _ => cases l
  | dT _ => cases l
  | _ => rfl
theorem Up.rd {a : Addr} {o : HO} (s : Up F F') (h : Rd F a o) (l : lkd o = false) : Rd F' a o :=
  h.elim (fun h => .inl (s.keep _ _ h l)) fun ⟨u, h⟩ => .inr ⟨u, s.keep _ _ h (nodct l)⟩
theorem Up.t {a : Addr} {xs : List V} (s : Up F F') (h : SqT K F a xs) : SqT K F' a xs := h.elim (fun e => .inl (s.rd e rfl)) .inr
theorem Up.l {a : Addr} {xs : List V} (s : Up F F') (h : SqL K F a xs) : SqL K F' a xs := h.elim (fun e => .inl (s.rd e rfl)) .inr
mutual
theorem Rp.up (s : Up F F') : ∀ {v : V} {d : D}, Rp K F v d → Rp K F' v d
  | _, _, .non => .non
  | _, _, .bl b => .bl b
  | _, _, .int i => .int i
  | _, _, .str x => .str x
  | _, _, .val v => .val v
  | _, _, .tup h r => .tup (s.keep _ _ h rfl) (r.up s)
  | _, _, .lst h r => .lst (s.keep _ _ h rfl) (r.up s)
  | _, _, .wt h r => .wt (s.t h) (r.up s)
  | _, _, .ro h r => .ro (s.l h) (r.up s)
  | _, _, .dct h r => .dct (s.dct _ _ rfl h) (r.up s)
  | _, _, .obj h r => .obj (s.keep _ _ h rfl) (r.up s)
  | _, _, .raw h l => .raw (s.keep _ _ h l) l
  | _, _, .exc0 => .exc0
  | _, _, .exc1 h r => .exc1 (s.keep _ _ h rfl) (r.up s)
theorem RpAll.up (s : Up F F') : ∀ {vs : List V} {ds : List D}, RpAll K F vs ds → RpAll K F' vs ds
  | _, _, .nil => .nil
  | _, _, .cons h r => .cons (h.up s) (r.up s)
theorem RpKv.up (s : Up F F') : ∀ {vs : List (List L2.Key × V)} {ds : List (List L2.Key × D)}, RpKv K F vs ds → RpKv K F' vs ds
  | _, _, .nil => .nil
  | _, _, .cons h r => .cons (h.up s) (r.up s)
theorem RpFs.up (s : Up F F') : ∀ {vs : List (Str × V)} {ds : List (Str × D)}, RpFs K F vs ds → RpFs K F' vs ds
  | _, _, .nil => .nil
  | _, _, .cons h r => .cons (h.up s) (r.up s)
end
theorem RpAll.len : ∀ {vs : List V} {ds : List D}, RpAll K F vs ds → vs.length = ds.length
  | _, _, .nil => rfl
  | _, _, .cons _ r => congrArg (· + 1) r.len
theorem RpAll.at : ∀ {vs : List V} {ds : List D} {i : Nat} {d : D}, RpAll K F vs ds → ds[i]? = some d → ∃ v, vs[i]? = some v ∧ Rp K F v d
  | _, _, _, _, .nil, e => by simp at e
  | _, _, 0, _, .cons h _, e => by simp at e; subst e; exact ⟨_, rfl, h⟩
  | _, _, i + 1, _, .cons _ r, e => by
    obtain ⟨d, e', h⟩ := r.at (i := i) (by simpa using e)
    exact ⟨d, by simpa using e', h⟩
theorem RpAll.app : ∀ {vs ws : List V} {ds es : List D}, RpAll K F vs ds → RpAll K F ws es → RpAll K F (vs ++ ws) (ds ++ es)
  | _, _, _, _, .nil, h => h
  | _, _, _, _, .cons h r, g => .cons h (r.app g)
theorem RpAll.take : ∀ {vs : List V} {ds : List D} (n : Nat), RpAll K F vs ds → RpAll K F (vs.take n) (ds.take n)
  | _, _, 0, _ => .nil
  | _, _, _ + 1, .nil => .nil
  | _, _, n + 1, .cons h r => .cons h (r.take n)
theorem RpAll.drop : ∀ {vs : List V} {ds : List D} (n : Nat), RpAll K F vs ds → RpAll K F (vs.drop n) (ds.drop n)
  | _, _, 0, r => r
  | _, _, _ + 1, .nil => .nil
  | _, _, n + 1, .cons _ r => r.drop n
theorem RpFs.at : ∀ {fs : List (Str × V)} {gs : List (Str × D)} {f : Str} {d : D}, RpFs K F fs gs → gs.lookup f = some d → ∃ v, fs.lookup f = some v ∧ Rp K F v d
  | _, _, _, _, .nil, e => by simp at e
  | _, _, f, d, .cons (f := k) h r, e => by
    rw [List.lookup_cons] at e
    rw [List.lookup_cons]
    cases q : f == k with
    | true => rw [q] at e; cases e; exact ⟨_, rfl, h⟩
    | false => rw [q] at e; exact r.at e
theorem RpFs.none : ∀ {fs : List (Str × V)} {gs : List (Str × D)} {f : Str}, RpFs K F fs gs → gs.lookup f = none → fs.lookup f = none
  | _, _, _, .nil, _ => rfl
  | _, _, f, .cons (f := k) h r, e => by
    rw [List.lookup_cons] at e ⊢
    cases q : f == k with
    | true => rw [q] at e; cases e
    | false => rw [q] at e; exact r.none e

/-! what is shown and compared -/
mutual
def D.py : D → Option PyData
  | .non => some .none
  | .bl b => some (.bool b)
  | .int i => some (.int i)
  | .str x => some (.str x)
  | .tup ds => (D.pys ds).map .tuple
  | .lst ds => (D.pys ds).map .list
  | .wt ds => (D.pys ds).map .tuple
  | .ro ds => (D.pys ds).map .list
  | .val _ => none
  | .dct _ => none
  | .obj _ _ => none
  | .raw _ => none
  | .exc _ _ _ _ => none
def D.pys : List D → Option (List PyData)
  | [] => some []
  | d :: ds => match D.py d, D.pys ds with
    | some p, some ps => some (p :: ps)
    | _, _ => none
end
theorem mapS {α β : Type} {o : Option α} {f : α → β} {b : β} (e : o.map f = some b) : ∃ a, o = some a ∧ b = f a := by
  cases o with
  | none => cases e
  | some a => cases e; exact ⟨a, rfl, rfl⟩
mutual
theorem Rp.py : ∀ {v : V} {d : D} {p : PyData}, Rp K F v d → d.py = some p → Dp K F v p
  | _, _, _, .non, e => by cases (show some PyData.none = some _ from e); exact .non
  | _, _, _, .bl b, e => by cases (show some (PyData.bool b) = some _ from e); exact .bl b
  | _, _, _, .int i, e => by cases (show some (PyData.int i) = some _ from e); exact .int i
  | _, _, _, .str x, e => by cases (show some (PyData.str x) = some _ from e); exact .str x
  | _, _, _, .val v, e => by cases (show none = some _ from e)
  | _, _, p, .tup (ds := ds) h r, e => by
    obtain ⟨ps, q, rfl⟩ := mapS (show (D.pys ds).map PyData.tuple = some p by simpa only [D.py] using e)
    exact .tup (.inl (.inl h)) (r.py q)
  | _, _, p, .wt (ds := ds) h r, e => by
    obtain ⟨ps, q, rfl⟩ := mapS (show (D.pys ds).map PyData.tuple = some p by simpa only [D.py] using e)
    exact .tup h (r.py q)
  | _, _, p, .lst (ds := ds) h r, e => by
    obtain ⟨ps, q, rfl⟩ := mapS (show (D.pys ds).map PyData.list = some p by simpa only [D.py] using e)
    exact .lst (.inl (.inl h)) (r.py q)
  | _, _, p, .ro (ds := ds) h r, e => by
    obtain ⟨ps, q, rfl⟩ := mapS (show (D.pys ds).map PyData.list = some p by simpa only [D.py] using e)
    exact .lst h (r.py q)
  | _, _, _, .dct h r, e => by cases (show none = some _ by simpa only [D.py] using e)
  | _, _, _, .obj h r, e => by cases (show none = some _ by simpa only [D.py] using e)
  | _, _, _, .raw h l, e => by cases (show none = some _ by simpa only [D.py] using e)
  | _, _, _, .exc0, e => by cases (show none = some _ by simpa only [D.py] using e)
  | _, _, _, .exc1 h r, e => by cases (show none = some _ by simpa only [D.py] using e)
theorem RpAll.py : ∀ {vs : List V} {ds : List D} {ps : List PyData}, RpAll K F vs ds → D.pys ds = some ps → DpAll K F vs ps
  | _, _, _, .nil, e => by cases (show some [] = some _ by simpa only [D.pys] using e); exact .nil
  | _, _, _, .cons (d := d) (ds := ds) h r, e => by
    rw [D.pys] at e
    cases q : D.py d with
    | none => rw [q] at e; cases e
    | some p =>
      cases q2 : D.pys ds with
      | none => rw [q, q2] at e; cases e
      | some ps => rw [q, q2] at e; cases e; exact .cons (h.py q) (r.py q2)
end
end

/-! the ghost state: values that are frozen, or the address of an object that may still be changed -/
inductive G where
  | dat (d : D)
  | loc (a : Addr)
inductive O where
  | lst (gs : List G)
  | dct (kvs : List (List L2.Key × G))
  | dlk (od : Obj) (ks : List (List L2.Key × V)) (kvs : List (List L2.Key × G))
  | ins (C : Addr) (fs : List (Str × G))
  | bag
  | raw (o : HO)
abbrev Sto := Addr → Option O
def sup (S : Sto) (a : Addr) (o : O) : Sto := fun b => if b = a then some o else S b
theorem sup_same {S : Sto} {a : Addr} {o : O} : sup S a o a = some o := by unfold sup; rw [if_pos rfl]
theorem sup_ne {S : Sto} {a b : Addr} {o : O} (h : b ≠ a) : sup S a o b = S b := by unfold sup; rw [if_neg h]
theorem sup_sup {S : Sto} {a : Addr} {o u : O} : sup (sup S a o) a u = sup S a u := by
  funext b; unfold sup; split <;> rfl
theorem sup_own {S : Sto} {a : Addr} {o : O} (h : S a = some o) : sup S a o = S := by
  funext b
  unfold sup
  split
  · rename_i e; rw [e]; exact h.symm
  · rfl
def Sub (S' S : Sto) : Prop := ∀ a o, S' a = some o → S a = some o
theorem Sub.refl (S : Sto) : Sub S S := fun _ _ e => e
theorem Sub.trans {S1 S2 S3 : Sto} (a : Sub S1 S2) (b : Sub S2 S3) : Sub S1 S3 := fun x o e => b x o (a x o e)
theorem sub_new {S : Sto} {a : Addr} {o : O} (h : S a = none) : Sub S (sup S a o) := fun b u e => by
  rw [sup_ne (fun z => by rw [z, h] at e; cases e)]; exact e
def GV (K : PySem.W.Frag) (F : Hp) (v : V) : G → Prop
  | .dat d => Rp K F v d
  | .loc a => v = .ref a
abbrev GVs (K : PySem.W.Frag) (F : Hp) : List V → List G → Prop := Paired (GV K F)
def GFs (K : PySem.W.Frag) (F : Hp) : List (Str × V) → List (Str × G) → Prop := Paired fun p q => p.1 = q.1 ∧ GV K F p.2 q.2
def GKs (K : PySem.W.Frag) (F : Hp) : List (List L2.Key × V) → List (List L2.Key × G) → Prop := Paired fun p q => q.1 = p.1 ∧ GV K F p.2 q.2
/-- where numbers are drawn from -/
def BagH (F H : Hp) (b : Addr) : Prop := ∃ (c : Addr) (x0 x1 x2 : Int) (ns : List Int), c ≠ b ∧ H b = some (.lst [.int x0, .int x1, .int x2, .ref c]) ∧ F c = some (.lst (ns.map V.int)) ∧ 0 ≤ x1 ∧ x1 < 2147483647 ∧ 0 ≤ x2
def OR (K : PySem.W.Frag) (F : Hp) (H : Hp) (a : Addr) : O → Prop
  | .lst gs => ∃ vs, H a = some (.lst vs) ∧ GVs K F vs gs
  | .dct kvs => ∃ ks, H a = some (.dT ks) ∧ GKs K F ks kvs
  | .dlk od ks kvs => H a = some (.frz od (.dT ks)) ∧ GKs K F ks kvs
  | .ins C fs => ∃ dx vs, H a = some (.ins C dx vs) ∧ GFs K F vs fs
  | .bag => BagH F H a
  | .raw o => H a = some o ∧ ∀ xs, o ≠ .tup xs
structure GS (K : PySem.W.Frag) (R : Hp) (S : Sto) (F H : Hp) : Prop where
  sub : Same F H
  rem : ∀ a o, R a = some o → H a = some o ∧ F a = none ∧ S a = none
  obj : ∀ a o, S a = some o → F a = none ∧ OR K F H a o
  rtup : ∀ a xs, R a ≠ some (.tup xs)
/-- the slots -/
structure SL (K : PySem.W.Frag) (F : Hp) (Γ : List (Option G)) (σ : L2.St) : Prop where
  len : Γ.length = σ.length
  at_ : ∀ (i : Nat) (g : G), Γ[i]? = some (some g) → ∃ v, σ[i]? = some (some v) ∧ GV K F v g

section
variable {K : PySem.W.Frag} {R F F' H H' : Hp} {S S' : Sto} {Γ : List (Option G)} {σ : L2.St}
theorem GV.up {v : V} {g : G} (s : Up F F') (h : GV K F v g) : GV K F' v g := by
  cases g with
  | dat d => exact Rp.up s h
  | loc n => exact h
theorem GVs.up (s : Up F F') : ∀ {vs : List V} {gs : List G}, GVs K F vs gs → GVs K F' vs gs
  | _, _, .nil => .nil
  | _, _, .cons h r => .cons (h.up s) (GVs.up s r)
theorem OR.there {a : Addr} {o : O} (h : OR K F H a o) : ∃ u, H a = some u := by
  cases o with
  | lst gs => obtain ⟨vs, e, _⟩ := h; exact ⟨_, e⟩
  | dct gs => obtain ⟨vs, e, _⟩ := h; exact ⟨_, e⟩
  | dlk od ks gs => exact ⟨_, h.1⟩
  | ins C fs => obtain ⟨dx, vs, e, _⟩ := h; exact ⟨_, e⟩
  | bag => obtain ⟨c, x0, x1, x2, ns, _, e, _⟩ := h; exact ⟨_, e⟩
  | raw o => exact ⟨o, h.1⟩
theorem OR.notup {a : Addr} {o : O} (h : OR K F H a o) (xs : List V) (e : H a = some (.tup xs)) : False := by
  cases o with
  | lst gs => obtain ⟨vs, q, _⟩ := h; rw [e] at q; cases q
  | dct gs => obtain ⟨vs, q, _⟩ := h; rw [e] at q; cases q
  | dlk od ks gs => obtain ⟨q, _⟩ := h; rw [e] at q; cases q
  | ins C fs => obtain ⟨dx, vs, q, _⟩ := h; rw [e] at q; cases q
  | bag => obtain ⟨c, x0, x1, x2, ns, _, q, _⟩ := h; rw [e] at q; cases q
  | raw o => obtain ⟨q, n⟩ := h; rw [e] at q; cases q; exact n _ rfl
theorem rt_upd {p : Addr} {o : HO} (r : ∀ a xs, R a ≠ some (.tup xs)) (nt : ∀ xs, o ≠ .tup xs) : ∀ a xs, upd R p o a ≠ some (.tup xs) := fun a xs e => by
  by_cases n : a = p
  · subst n; rw [upd_same] at e; exact nt _ (Option.some.inj e)
  · rw [upd_ne n] at e; exact r a xs e
theorem OR.up {a : Addr} {o : O} (s : Up F F') (hH : H a = H' a) (h : OR K F H a o) : OR K F' H' a o := by
  cases o with
  | lst gs => obtain ⟨vs, e, r⟩ := h; exact ⟨vs, hH ▸ e, r.up s⟩
  | dct kvs => obtain ⟨ks, e, r⟩ := h; exact ⟨ks, hH ▸ e, Paired.mapP r fun _ _ q => ⟨q.1, q.2.up s⟩⟩
  | dlk od ks kvs => obtain ⟨e, r⟩ := h; exact ⟨hH ▸ e, Paired.mapP r fun _ _ q => ⟨q.1, q.2.up s⟩⟩
  | ins C fs => obtain ⟨dx, vs, e, r⟩ := h; exact ⟨dx, vs, hH ▸ e, Paired.mapP r fun _ _ q => ⟨q.1, q.2.up s⟩⟩
  | bag => obtain ⟨c, x0, x1, x2, ns, n, e, ec, r⟩ := h; exact ⟨c, x0, x1, x2, ns, n, hH ▸ e, s.keep _ _ ec rfl, r⟩
  | raw o => exact ⟨hH ▸ h.1, h.2⟩
theorem SL.up (s : Up F F') (h : SL K F Γ σ) : SL K F' Γ σ := ⟨h.len, fun i g e => let ⟨v, e', r⟩ := h.at_ i g e; ⟨v, e', r.up s⟩⟩
theorem SL.set {i : Nat} {v : V} {g : G} (h : SL K F Γ σ) (r : GV K F v g) : SL K F (Γ.set i (some g)) (σ.set i (some v)) := by
  refine ⟨by simp [h.len], fun j g' e => ?_⟩
  by_cases hj : i = j
  · subst hj
    have hl : i < Γ.length := by
      obtain ⟨hn, _⟩ := List.getElem?_eq_some_iff.mp e
      simpa using hn
    rw [List.getElem?_set_self hl] at e
    cases e
    exact ⟨v, by rw [List.getElem?_set_self (h.len ▸ hl)], r⟩
  · rw [List.getElem?_set_ne hj] at e
    obtain ⟨w, e', r'⟩ := h.at_ j g' e
    exact ⟨w, by rw [List.getElem?_set_ne hj]; exact e', r'⟩
theorem SL.forget {i : Nat} {x : Option V} (h : SL K F Γ σ) : SL K F (Γ.set i none) (σ.set i x) := by
  refine ⟨by simp [h.len], fun j g' e => ?_⟩
  by_cases hj : i = j
  · subst hj
    have hl : i < Γ.length := by
      obtain ⟨hn, _⟩ := List.getElem?_eq_some_iff.mp e
      simpa using hn
    rw [List.getElem?_set_self hl] at e
    cases e
  · rw [List.getElem?_set_ne hj] at e
    obtain ⟨w, e', r'⟩ := h.at_ j g' e
    exact ⟨w, by rw [List.getElem?_set_ne hj]; exact e', r'⟩
theorem same_new {p : Addr} {o : HO} (h : F p = none) : Same F (upd F p o) := fun b x e => by
  rw [upd_ne (ne_of_none e h)]
  exact e
theorem up_new {p : Addr} {o : HO} (h : F p = none) : Up F (upd F p o) := .of (same_new h)
/-- nothing that is spoken of stands there -/
theorem GS.fresh (g : GS K R S F H) {p : Addr} (h : H p = none) : F p = none ∧ S p = none ∧ R p = none := by
  refine ⟨?_, ?_, ?_⟩
  · cases q : F p with
    | none => rfl
    | some o => rw [g.sub _ _ q] at h; cases h
  · cases q : S p with
    | none => rfl
    | some o =>
      obtain ⟨u, e⟩ := (g.obj _ _ q).2.there
      rw [e] at h
      cases h
  · cases q : R p with
    | none => rfl
    | some o => rw [(g.rem _ _ q).1] at h; cases h
theorem ne_at {α : Type} {f : Addr → Option α} {a b : Addr} {x : α} (h : f a = some x) (h' : f b = none) : a ≠ b := fun e => by rw [e, h'] at h; cases h
/-- a new frozen object -/
theorem GS.lay (g : GS K R S F H) {p : Addr} (h : H p = none) (o : HO) : GS K R S (upd F p o) (upd H p o) := by
  obtain ⟨f, s, r⟩ := g.fresh h
  refine ⟨fun b x e => ?_, fun a u e => ?_, fun a u e => ?_, g.rtup⟩
  · by_cases hb : b = p
    · subst hb; rw [upd_same] at e ⊢; exact e
    · rw [upd_ne hb] at e ⊢; exact g.sub _ _ e
  · have n := ne_at e r
    rw [upd_ne n, upd_ne n]
    exact g.rem _ _ e
  · have n := ne_at e s
    rw [upd_ne n]
    exact ⟨(g.obj _ _ e).1, (g.obj _ _ e).2.up (up_new f) (upd_ne n).symm⟩
/-- an object is laid that nobody speaks of -/
theorem GS.pass (g : GS K R S F H) {p : Addr} (h : H p = none) (o : HO) : GS K R S F (upd H p o) := by
  obtain ⟨f, s, r⟩ := g.fresh h
  refine ⟨fun b x e => ?_, fun a u e => ?_, fun a u e => ?_, g.rtup⟩
  · rw [upd_ne (ne_of_none e f)]; exact g.sub _ _ e
  · rw [upd_ne (ne_at e r)]; exact g.rem _ _ e
  · have n := ne_at e s
    exact ⟨(g.obj _ _ e).1, (g.obj _ _ e).2.up (Up.refl _) (upd_ne n).symm⟩
/-- a new object that may be changed -/
theorem GS.alloc (g : GS K R S F H) {p : Addr} {o : HO} {u : O} (h : H p = none) (r : OR K F (upd H p o) p u) : GS K R (sup S p u) F (upd H p o) := by
  obtain ⟨f, s, rr⟩ := g.fresh h
  refine ⟨fun b x e => ?_, fun a v e => ?_, fun a v e => ?_, g.rtup⟩
  · rw [upd_ne (ne_of_none e f)]; exact g.sub _ _ e
  · rw [upd_ne (ne_at e rr), sup_ne (ne_at e rr)]; exact g.rem _ _ e
  · by_cases n : a = p
    · subst n; rw [sup_same] at e; cases e; exact ⟨f, r⟩
    · rw [sup_ne n] at e
      exact ⟨(g.obj _ _ e).1, (g.obj _ _ e).2.up (Up.refl _) (upd_ne n).symm⟩
/-- an object is changed -/
theorem GS.put (g : GS K R S F H) {p : Addr} {o : HO} {u v : O} (e : S p = some u) (r : OR K F (upd H p o) p v) : GS K R (sup S p v) F (upd H p o) := by
  have f := (g.obj _ _ e).1
  refine ⟨fun b x q => ?_, fun a y q => ?_, fun a y q => ?_, g.rtup⟩
  · rw [upd_ne (ne_of_none q f)]; exact g.sub _ _ q
  · have n : a ≠ p := fun z => by rw [z] at q; rw [(g.rem _ _ q).2.2] at e; cases e
    rw [upd_ne n, sup_ne n]
    exact g.rem _ _ q
  · by_cases n : a = p
    · subst n; rw [sup_same] at q; cases q; exact ⟨f, r⟩
    · rw [sup_ne n] at q
      exact ⟨(g.obj _ _ q).1, (g.obj _ _ q).2.up (Up.refl _) (upd_ne n).symm⟩
/-- less is known -/
theorem GS.weak (g : GS K R S F H) (s : Sub S' S) : GS K R S' F H := ⟨g.sub, fun a o e => ⟨(g.rem a o e).1, (g.rem a o e).2.1, by
  cases q : S' a with
  | none => rfl
  | some u => have z := s _ _ q; rw [(g.rem a o e).2.2] at z; cases z⟩, fun a o e => g.obj _ _ (s _ _ e), g.rtup⟩
/-- an object is changed no more -/
theorem GS.freeze (g : GS K R S F H) {p : Addr} {u : O} {o : HO} (e : S p = some u) (hp : H p = some o) (s : Sub S' S) (n : S' p = none) : GS K R S' (upd F p o) H ∧ Up F (upd F p o) := by
  have f := (g.obj _ _ e).1
  refine ⟨⟨fun b x q => ?_, fun a y q => ?_, fun a y q => ?_, g.rtup⟩, up_new f⟩
  · by_cases hb : b = p
    · subst hb; rw [upd_same] at q; rw [hp]; exact q
    · rw [upd_ne hb] at q; exact g.sub _ _ q
  · have ne : a ≠ p := fun z => by rw [z] at q; rw [(g.rem _ _ q).2.2] at e; cases e
    rw [upd_ne ne]
    exact ((g.weak s).rem _ _ q)
  · have ne := ne_at q n
    rw [upd_ne ne]
    exact ⟨(g.obj _ _ (s _ _ q)).1, (g.obj _ _ (s _ _ q)).2.up (up_new f) rfl⟩
/-! things that are kept aside -/
theorem GS.hide (g : GS K R S F H) {p : Addr} {o : HO} (h : H p = none) (nt : ∀ xs, o ≠ .tup xs) : GS K (upd R p o) S F (upd H p o) := by
  obtain ⟨f, s, _⟩ := g.fresh h
  have g2 := g.pass h o
  refine ⟨g2.sub, fun a u e => ?_, g2.obj, rt_upd g.rtup nt⟩
  by_cases n : a = p
  · subst n; rw [upd_same] at e; cases e; exact ⟨upd_same, f, s⟩
  · rw [upd_ne n] at e; exact g2.rem _ _ e
/-- what is kept aside is changed -/
theorem GS.turn {p : Addr} {o : HO} (g : GS K (upd R p o) S F H) (o' : HO) (nt : ∀ xs, o' ≠ .tup xs) : GS K (upd R p o') S F (upd H p o') := by
  obtain ⟨h1, f, s⟩ := g.rem p o upd_same
  refine ⟨fun b x e => ?_, fun a u e => ?_, fun a u e => ?_, fun a xs e => ?_⟩
  · rw [upd_ne (ne_of_none e f)]; exact g.sub _ _ e
  · by_cases n : a = p
    · subst n; rw [upd_same] at e; cases e; exact ⟨upd_same, f, s⟩
    · rw [upd_ne n] at e
      rw [upd_ne n]
      exact g.rem a u (by rw [upd_ne n]; exact e)
  · have n := ne_at e s
    exact ⟨(g.obj _ _ e).1, (g.obj _ _ e).2.up (Up.refl _) (upd_ne n).symm⟩
  · by_cases n : a = p
    · subst n; rw [upd_same] at e; exact nt _ (Option.some.inj e)
    · rw [upd_ne n] at e
      exact g.rtup a xs (by rw [upd_ne n]; exact e)
/-- .. and now frozen, or one that may be changed -/
theorem GS.showF {p : Addr} {o : HO} (g : GS K (upd R p o) S F H) (nR : R p = none) : GS K R S (upd F p o) H ∧ Up F (upd F p o) := by
  obtain ⟨h1, f, s⟩ := g.rem p o upd_same
  refine ⟨⟨fun b x e => ?_, fun a u e => ?_, fun a u e => ?_, fun a xs e => ?_⟩, up_new f⟩
  · by_cases hb : b = p
    · subst hb; rw [upd_same] at e; rw [h1]; exact e
    · rw [upd_ne hb] at e; exact g.sub _ _ e
  · have n := ne_at e nR
    rw [upd_ne n]
    exact g.rem a u (by rw [upd_ne n]; exact e)
  · have n := ne_at e s
    rw [upd_ne n]
    exact ⟨(g.obj _ _ e).1, (g.obj _ _ e).2.up (up_new f) rfl⟩
  · have n := ne_at e nR
    exact g.rtup a xs (by rw [upd_ne n]; exact e)
theorem GS.showO {p : Addr} {o : HO} (g : GS K (upd R p o) S F H) (nR : R p = none) {u : O} (r : OR K F H p u) : GS K R (sup S p u) F H := by
  obtain ⟨h1, f, s⟩ := g.rem p o upd_same
  refine ⟨g.sub, fun a v e => ?_, fun a v e => ?_, fun a xs e => ?_⟩
  · have n := ne_at e nR
    rw [sup_ne n]
    exact g.rem a v (by rw [upd_ne n]; exact e)
  · by_cases n : a = p
    · subst n; rw [sup_same] at e; cases e; exact ⟨f, r⟩
    · rw [sup_ne n] at e; exact g.obj _ _ e
  · have n := ne_at e nR
    exact g.rtup a xs (by rw [upd_ne n]; exact e)
/-- all tuples are known -/
theorem GS.tups (g : GS K R S F H) : ∃ F', GS K R S F' H ∧ Up F F' ∧ ∀ a xs, H a = some (.tup xs) → F' a = some (.tup xs) := by
  let F' : Hp := fun a => match H a with
    | some (.tup xs) => some (.tup xs)
    | _ => F a
  have at1 : ∀ a xs, H a = some (.tup xs) → F' a = some (.tup xs) := fun a xs e => by simp only [F', e]
  have at2 : ∀ a, (∀ xs, H a ≠ some (.tup xs)) → F' a = F a := fun a n => by
    cases q : H a with
    | none => simp only [F', q]
    | some o =>
      cases o with
      | tup xs => exact absurd q (n xs)
      | _ => simp only [F', q]
  have sm : Same F F' := fun a o e => by
    have h := g.sub _ _ e
    cases o with
    | tup xs => exact at1 _ _ h
    | _ => rw [at2 a (fun xs z => by rw [h] at z; cases z)]; exact e
  refine ⟨F', ⟨fun a o e => ?_, fun a o e => ⟨(g.rem a o e).1, ?_, (g.rem a o e).2.2⟩, fun a o e => ⟨?_, (g.obj a o e).2.up (.of sm) rfl⟩, g.rtup⟩, .of sm, at1⟩
  · by_cases q : ∃ xs, H a = some (.tup xs)
    · obtain ⟨xs, q⟩ := q
      rw [at1 a xs q] at e
      rw [q]; exact e
    · rw [at2 a fun xs z => q ⟨xs, z⟩] at e
      exact g.sub _ _ e
  · rw [at2 a fun xs z => by rw [(g.rem a o e).1] at z; cases z; exact g.rtup _ _ e]
    exact (g.rem a o e).2.1
  · exact (at2 a fun xs z => (g.obj a o e).2.notup xs z).trans (g.obj a o e).1
end
end LN

namespace LN
open PySem PySem.Spec PyProof.Rows L2

/-- what is wanted of an exception: its class, its fields -/
abbrev XP := Addr → List (Str × D) → Sto → Prop
abbrev GR := List (Option G) → Sto → (G → Sto → Prop) → XP → Prop
abbrev GRB := List (Option G) → Sto → (Bool → Sto → Prop) → XP → Prop
abbrev GRA := List (Option G) → Sto → (List G → Sto → Prop) → XP → Prop
def XF (K : PySem.W.Frag) (F : Hp) (od : Option Addr) (gs : List (Str × D)) : Prop := match od with
  | some dd => ∃ fs, F dd = some (.xd fs) ∧ RpFs K F fs gs
  | none => gs = []
def OnX (K : PySem.W.Frag) (R F : Hp) (W : WX) (σ : L2.St) (E : XP) : Prop :=
  ∀ (C : Addr) (od : Option Addr) (gs : List (Str × D)) (S' : Sto) (F' H' : Hp), GS K R S' F' H' → Up F F' → XF K F' od gs → E C gs S' → W (.ref C) od σ H'
/-- what comes behind: the state has gone on -/
def On (K : PySem.W.Frag) (R F : Hp) (P : G → Sto → Prop) (Q : VK) : Prop :=
  ∀ (v : V) (S' : Sto) (F' H' : Hp) (x : G), GS K R S' F' H' → Up F F' → GV K F' v x → P x S' → Q v H'
def OnB (K : PySem.W.Frag) (R F : Hp) (P : Bool → Sto → Prop) (Q : Bool → Hp → Prop) : Prop :=
  ∀ (b : Bool) (S' : Sto) (F' H' : Hp), GS K R S' F' H' → Up F F' → P b S' → Q b H'
def OnA (K : PySem.W.Frag) (R F : Hp) (P : List G → Sto → Prop) (Q : List V → Hp → Prop) : Prop :=
  ∀ (vs : List V) (S' : Sto) (F' H' : Hp) (xs : List G), GS K R S' F' H' → Up F F' → GVs K F' vs xs → P xs S' → Q vs H'
def tG (K : PySem.W.Frag) (W : WX) (g : GR) : TE := fun σ H Q => ∃ R Γ S F P E, GS K R S F H ∧ SL K F Γ σ ∧ g Γ S P E ∧ On K R F P Q ∧ OnX K R F W σ E
def tGB (K : PySem.W.Frag) (W : WX) (g : GRB) : TT := fun σ H Q => ∃ R Γ S F P E, GS K R S F H ∧ SL K F Γ σ ∧ g Γ S P E ∧ OnB K R F P Q ∧ OnX K R F W σ E
def tGA (K : PySem.W.Frag) (W : WX) (g : GRA) : TA := fun σ H Q => ∃ R Γ S F P E, GS K R S F H ∧ SL K F Γ σ ∧ g Γ S P E ∧ OnA K R F P Q ∧ OnX K R F W σ E
abbrev GE (X : Cx) (W : WX) (e : Expr) (g : GR) : Prop := PE X e (tG X.K W g)
abbrev GT (X : Cx) (W : WX) (e : Expr) (g : GRB) : Prop := PT X e (tGB X.K W g)
abbrev GW (X : Cx) (W : WX) (e : Expr) (g : GRB) : Prop := PW X e (tGB X.K W g)
abbrev GA (X : Cx) (W : WX) (es : List Expr) (g : GRA) : Prop := PA X es (tGA X.K W g)
section
variable {X : Cx} {W : WX} {K : PySem.W.Frag} {e : Expr} {es : List Expr} {t t' : TE}
theorem PE.imp (h : PE X e t) (w : ∀ σ H Q, t' σ H Q → t σ H Q) : PE X e t' := ⟨fun pins s σ H Q I q => h.run pins s σ H Q I (w _ _ _ q)⟩
theorem PT.imp {t t' : TT} (h : PT X e t) (w : ∀ σ H Q, t' σ H Q → t σ H Q) : PT X e t' := ⟨fun pins s σ H Q I q => h.run pins s σ H Q I (w _ _ _ q)⟩
theorem PW.imp {t t' : TT} (h : PW X e t) (w : ∀ σ H Q, t' σ H Q → t σ H Q) : PW X e t' := ⟨fun wh pins s σ H Q I q => h.run wh pins s σ H Q I (w _ _ _ q)⟩
theorem PA.imp {t t' : TA} (h : PA X es t) (w : ∀ σ H Q, t' σ H Q → t σ H Q) : PA X es t' := ⟨fun pos pins s σ H Q I q => h.run pos pins s σ H Q I (w _ _ _ q)⟩
variable {R F F' : Hp}
theorem On.go {P : G → Sto → Prop} {Q : VK} (h : On K R F P Q) (s : Up F F') : On K R F' P Q := fun v S G H x g s' => h v S G H x g (s.trans s')
theorem OnB.go {P : Bool → Sto → Prop} {Q : Bool → Hp → Prop} (h : OnB K R F P Q) (s : Up F F') : OnB K R F' P Q := fun v S G H g s' => h v S G H g (s.trans s')
theorem OnA.go {P : List G → Sto → Prop} {Q : List V → Hp → Prop} (h : OnA K R F P Q) (s : Up F F') : OnA K R F' P Q := fun v S G H x g s' => h v S G H x g (s.trans s')
theorem OnX.go {σ : L2.St} {E : XP} (h : OnX K R F W σ E) (s : Up F F') : OnX K R F' W σ E := fun C od gs S G H g s' => h C od gs S G H g (s.trans s')
/-- nothing happens: the value is there -/
theorem On.now {S : Sto} {H : Hp} {P : G → Sto → Prop} {Q : VK} {v : V} {x : G} (h : On K R F P Q) (g : GS K R S F H) (r : GV K F v x) (p : P x S) : Q v H := h v S F H x g (Up.refl _) r p

/-! names, constants -/
def nth : List (Option G) → Nat → Option G
  | [], _ => none
  | a :: _, 0 => a
  | _ :: l, n + 1 => nth l n
theorem nth_at : ∀ {Γ : List (Option G)} {i : Nat} {g : G}, nth Γ i = some g → Γ[i]? = some (some g)
  | [], _, _, e => nomatch (show none = some _ from e)
  | a :: _, 0, g, e => by
    have : a = some g := e
    simp [this]
  | _ :: l, n + 1, g, e => by
    have : nth l n = some g := e
    simpa using nth_at this
def gVar (i : Nat) : GR := fun Γ S P _ => match nth Γ i with
  | some g => P g S
  | none => False
theorem gvar (i : Nat) {x : Str} {pos : Pos} (hN : X.N[i]? = some x := by rfl) (hv : Vis X.env.scope x := by first | exact Or.inl rfl | exact Or.inr (Or.inl rfl) | exact Or.inr (Or.inr rfl)) (hd : (x == ("__debug__" : Str)) = false := by decide)
    (hcd : (x == ("__classdict__" : Str)) = false := by decide) : GE X W (.Name x pos) (gVar i) := by
  refine PE.imp (pe_var hN hv hd hcd) ?_
  rintro σ H Q ⟨R, Γ, S, F, P, E, g, sl, h, on, ox⟩
  unfold gVar at h
  cases e : nth Γ i with
  | none => rw [e] at h; exact h.elim
  | some x =>
    rw [e] at h
    obtain ⟨v, e', r⟩ := sl.at_ i x (nth_at e)
    exact ⟨v, e', on.now g r h⟩
def gC (d : D) : GR := fun _ S P _ => P (.dat d) S
theorem gconst {v : V} {d : D} (h : PE X e (tC v)) (r : ∀ F, Rp X.K F v d) : GE X W e (gC d) := by
  refine PE.imp h ?_
  rintro σ H Q ⟨R, Γ, S, F, P, E, g, sl, h, on, ox⟩
  exact on.now g (x := .dat d) (r F) h
theorem gint {i j pos} : GE X W (.Constant (.int i) j pos) (gC (.int i)) := gconst pe_int fun _ => .int _
theorem gbl {b j pos} : GE X W (.Constant (.bool b) j pos) (gC (.bl b)) := gconst pe_bl fun _ => .bl _
theorem gnon {j pos} : GE X W (.Constant .none j pos) (gC .non) := gconst pe_non fun _ => .non
theorem gstr {x j pos} : GE X W (.Constant (.str x) j pos) (gC (.str x)) := gconst pe_str fun _ => .str _
theorem gglob {x : Str} {i : Int} {t : Tok} {pos : Pos} (hm : X.mg x = some (.int i t)) (hg : Gl X x := by rfl) (hd : (x == ("__debug__" : Str)) = false := by decide) : GE X W (.Name x pos) (gC (.int i)) := gconst (pe_glob (v := .int i) hg hm ⟨_, rfl⟩ hd) fun _ => .int _

/-! operators by values -/
abbrev RO := G → G → Sto → (G → Sto → Prop) → Prop
abbrev RUn := G → Sto → (G → Sto → Prop) → Prop
abbrev RC := List G → Sto → (G → Sto → Prop) → Prop
def rG (K : PySem.W.Frag) (r : RO) : R2 := fun x y H Q => ∃ R S F P gx gy, GS K R S F H ∧ GV K F x gx ∧ GV K F y gy ∧ r gx gy S P ∧ On K R F P Q
def uG (K : PySem.W.Frag) (r : RUn) : V → Hp → VK → Prop := fun x H Q => ∃ R S F P gx, GS K R S F H ∧ GV K F x gx ∧ r gx S P ∧ On K R F P Q
def cG (K : PySem.W.Frag) (r : RC) : List V → Hp → VK → Prop := fun xs H Q => ∃ R S F P gs, GS K R S F H ∧ GVs K F xs gs ∧ r gs S P ∧ On K R F P Q
def gOp (r : RO) (a b : GR) : GR := fun Γ S P E => a Γ S (fun x S1 => b Γ S1 (fun y S2 => r x y S2 P) E) E
def gUn (r : RUn) (a : GR) : GR := fun Γ S P E => a Γ S (fun x S1 => r x S1 P) E
def gCB (r : RC) (a : GRA) : GR := fun Γ S P E => a Γ S (fun xs S1 => r xs S1 P) E
theorem tg_op {r : RO} {ga gb : GR} {σ : L2.St} {H : Hp} {Q : VK} (h : tG K W (gOp r ga gb) σ H Q) : tOp (rG K r) (tG K W ga) (tG K W gb) σ H Q := by
  obtain ⟨R, Γ, S, F, P, E, g, sl, h, on, ox⟩ := h
  refine ⟨R, Γ, S, F, _, E, g, sl, h, fun v S1 F1 H1 x g1 s1 r1 h1 => ?_, ox⟩
  refine ⟨R, Γ, S1, F1, _, E, g1, sl.up s1, h1, fun w S2 F2 H2 y g2 s2 r2 h2 => ?_, ox.go s1⟩
  exact ⟨R, S2, F2, P, x, y, g2, r1.up s2, r2, h2, on.go (s1.trans s2)⟩
theorem tg_un {r : RUn} {ga : GR} {σ : L2.St} {H : Hp} {Q : VK} (h : tG K W (gUn r ga) σ H Q) : tUn (uG K r) (tG K W ga) σ H Q := by
  obtain ⟨R, Γ, S, F, P, E, g, sl, h, on, ox⟩ := h
  exact ⟨R, Γ, S, F, _, E, g, sl, h, fun v S1 F1 H1 x g1 s1 r1 h1 => ⟨R, S1, F1, P, x, g1, r1, h1, on.go s1⟩, ox⟩
theorem tg_cb {r : RC} {ga : GRA} {σ : L2.St} {H : Hp} {Q : VK} (h : tG K W (gCB r ga) σ H Q) : tCB (cG K r) (tGA K W ga) σ H Q := by
  obtain ⟨R, Γ, S, F, P, E, g, sl, h, on, ox⟩ := h
  exact ⟨R, Γ, S, F, _, E, g, sl, h, fun v S1 F1 H1 x g1 s1 r1 h1 => ⟨R, S1, F1, P, x, g1, r1, h1, on.go s1⟩, ox⟩
variable {a b : Expr} {ga gb : GR} {pos : Pos}
theorem ge_op {op : Operator} {r : RO} (ho : OpR X (binaryOp op) (rG X.K r)) (ha : GE X W a ga) (hb : GE X W b gb) : GE X W (.BinOp a op b pos) (gOp r ga gb) := PE.imp (pe_op ho ha hb) fun _ _ _ => tg_op
theorem ge_cmp {op : CmpOp} {r : RO} (ho : OpR X (compareOp op) (rG X.K r)) (ha : GE X W a ga) (hb : GE X W b gb) (hm : behindInMarks op b = false) : GE X W (.Compare a [op] [b] pos) (gOp r ga gb) := PE.imp (pe_cmpR ho ha hb hm) fun _ _ _ => tg_op
theorem ge_un {op : UnaryOp} {r : RUn} (ho : UnR X (unaryOp op) (uG X.K r)) (ha : GE X W a ga) : GE X W (.UnaryOp op a pos) (gUn r ga) := PE.imp (pe_un ho ha) fun _ _ _ => tg_un
theorem ge_ix {r : RO} (ho : IxR X (rG X.K r)) (ha : GE X W a ga) (hb : GE X W b gb) (hs : PlainIx b) : GE X W (.Subscript a b pos) (gOp r ga gb) := PE.imp (pe_ix ho ha hb hs) fun _ _ _ => tg_op
/-! arguments -/
def gNil : GRA := fun _ S P _ => P [] S
def gCons (a : GR) (r : GRA) : GRA := fun Γ S P E => a Γ S (fun x S1 => r Γ S1 (fun xs S2 => P (x :: xs) S2) E) E
theorem ga_nil : GA X W [] LN.gNil := by
  refine PA.imp pa_nil ?_
  rintro σ H Q ⟨R, Γ, S, F, P, E, g, sl, h, on, ox⟩
  exact on [] S F H [] g (Up.refl _) .nil h
theorem ga_cons {gr : GRA} (ha : GE X W e ga) (hr : GA X W es gr) (hs : starEach (e :: es) X.env = (false, eval e X.env) :: starEach es X.env := by rfl) : GA X W (e :: es) (LN.gCons ga gr) := by
  refine PA.imp (pa_cons ha hr hs) ?_
  rintro σ H Q ⟨R, Γ, S, F, P, E, g, sl, h, on, ox⟩
  refine ⟨R, Γ, S, F, _, E, g, sl, h, fun v S1 F1 H1 x g1 s1 r1 h1 => ?_, ox⟩
  refine ⟨R, Γ, S1, F1, _, E, g1, sl.up s1, h1, fun ws S2 F2 H2 ys g2 s2 r2 h2 => ?_, ox.go s1⟩
  exact on _ S2 F2 H2 _ g2 (s1.trans s2) (.cons (r1.up s2) r2) h2
theorem ge_callB {x : Str} {id : String} {r : RC} {p : Pos} {ga : GRA} (hc : CallR X (.builtin id) (cG X.K r)) (hg : Gl X x) (hm : X.mg x = none) (hv : bootBuiltins x = some (.builtin id)) (ha : GA X W (e :: es) ga) (hn : x ≠ "__name__" := by decide) (hdb : (x == ("__debug__" : Str)) = false := by decide)
    (he : starEach (e :: es) X.env = (false, eval e X.env) :: starEach es X.env := by rfl) (hpl : (backTo pos (starEach es X.env)).any (·.1) = false := by rfl) : GE X W (.Call (.Name x p) (e :: es) [] pos) (gCB r ga) :=
  PE.imp (pe_callB hc hg hm hv ha hn hdb he hpl) fun _ _ _ => tg_cb
theorem ge_callTy {x : Str} {T : String} {r : RC} {p : Pos} {ga : GRA} (hc : CallR X (.type T) (cG X.K r)) (hg : Gl X x) (hm : X.mg x = none) (hv : bootBuiltins x = some (.type T)) (ha : GA X W (e :: es) ga) (hn : x ≠ "__name__" := by decide) (hdb : (x == ("__debug__" : Str)) = false := by decide)
    (he : starEach (e :: es) X.env = (false, eval e X.env) :: starEach es X.env := by rfl) (hpl : (backTo pos (starEach es X.env)).any (·.1) = false := by rfl) : GE X W (.Call (.Name x p) (e :: es) [] pos) (gCB r ga) :=
  PE.imp (pe_callTy hc hg hm hv ha hn hdb he hpl) fun _ _ _ => tg_cb
end
end LN

namespace LN
open PySem PySem.Spec PyProof.Rows L2

/-! lists and tuples, read -/
def allDat : List G → Option (List D)
  | [] => some []
  | .dat d :: gs => (allDat gs).map (d :: ·)
  | .loc _ :: _ => none
theorem allDat_map : ∀ ds : List D, allDat (ds.map G.dat) = some ds
  | [] => rfl
  | d :: ds => by
    show (allDat (ds.map G.dat)).map (d :: ·) = some (d :: ds)
    rw [allDat_map ds]
    rfl
theorem allDat_eq : ∀ {gs : List G} {ds : List D}, allDat gs = some ds → gs = ds.map G.dat
  | [], _, e => by cases (show some [] = some _ from e); rfl
  | .dat d :: gs, ds, e => by
    have e : (allDat gs).map (d :: ·) = some ds := e
    cases q : allDat gs with
    | none => rw [q] at e; cases e
    | some es => rw [q] at e; cases e; rw [allDat_eq q]; rfl
  | .loc _ :: _, _, e => nomatch (show none = some _ from e)
def lstOf (S : Sto) : G → Option (List G)
  | .dat (.lst ds) => some (ds.map .dat)
  | .loc n => match S n with
    | some (.lst gs) => some gs
    | _ => none
  | _ => none
def tupOf : G → Option (List D)
  | .dat (.tup ds) => some ds
  | .dat (.wt ds) => some ds
  | _ => none
def dlst (S : Sto) : G → Option (List D)
  | .dat (.lst ds) => some ds
  | .loc n => match S n with
    | some (.lst gs) => allDat gs
    | _ => none
  | _ => none
def seqOf (S : Sto) : G → Option (List G)
  | .dat (.lst ds) => some (ds.map .dat)
  | .dat (.tup ds) => some (ds.map .dat)
  | .dat (.wt ds) => some (ds.map .dat)
  | .dat (.ro ds) => some (ds.map .dat)
  | .loc n => match S n with
    | some (.lst gs) => some gs
    | _ => none
  | _ => none
/-- lists and tuples of data -/
def dseq (S : Sto) : G → Option (List D)
  | .dat (.lst ds) => some ds
  | .dat (.tup ds) => some ds
  | .dat (.wt ds) => some ds
  | .dat (.ro ds) => some ds
  | .loc n => match S n with
    | some (.lst gs) => allDat gs
    | _ => none
  | _ => none
def oall (f : G → Option PyData) : List G → Option (List PyData)
  | [] => some []
  | x :: xs => match f x, oall f xs with
    | some p, some ps => some (p :: ps)
    | _, _ => none
/-- a value's data, through lists that may be changed -/
def vwN : Nat → Sto → G → Option PyData
  | 0, _, .dat d => d.py
  | 0, _, .loc _ => none
  | _ + 1, _, .dat d => d.py
  | k + 1, S, .loc n => match S n with
    | some (.lst gs) => (oall (vwN k S) gs).map .list
    | _ => none
def vw (S : Sto) (x : G) : Option PyData := vwN 3 S x
theorem oall_dat {S : Sto} : ∀ (k : Nat) (ds : List D), oall (vwN k S) (ds.map .dat) = D.pys ds
  | _, [] => by rw [D.pys]; rfl
  | k, d :: ds => by
    have ih := oall_dat (S := S) k ds
    show (match vwN k S (.dat d), oall (vwN k S) (ds.map .dat) with
      | some p, some ps => some (p :: ps)
      | _, _ => none) = _
    rw [ih, show vwN k S (.dat d) = d.py by cases k <;> rfl, D.pys]
    all_goals rfl
section
variable {K : PySem.W.Frag} {R F H : Hp} {S : Sto}
theorem gvs_dat : ∀ {vs : List V} {ds : List D}, RpAll K F vs ds → GVs K F vs (ds.map .dat)
  | _, _, .nil => .nil
  | _, _, .cons h r => .cons h (gvs_dat r)
theorem dat_gvs : ∀ {ds : List D} {vs : List V}, GVs K F vs (ds.map .dat) → RpAll K F vs ds
  | [], _, .nil => .nil
  | _ :: _, _, .cons h r => .cons h (dat_gvs r)
theorem lst_of (g : GS K R S F H) {v : V} {x : G} {gs : List G} (r : GV K F v x) (e : lstOf S x = some gs) : ∃ a vs, v = .ref a ∧ H a = some (.lst vs) ∧ GVs K F vs gs := by
  cases x with
  | dat d =>
    cases d with
    | lst ds =>
      cases e
      cases (show Rp K F v (.lst ds) from r) with
      | lst h1 h2 => exact ⟨_, _, rfl, g.sub _ _ h1, gvs_dat h2⟩
    | _ => exact nomatch (show none = some _ from e)
  | loc n =>
    obtain rfl := (show v = .ref n from r)
    cases q : S n with
    | none => simp only [lstOf, q] at e; cases e
    | some o =>
      cases o with
      | lst gs' =>
        simp only [lstOf, q] at e
        cases e
        obtain ⟨_, vs, h1, h2⟩ := g.obj n _ q
        exact ⟨n, vs, rfl, h1, h2⟩
      | _ => simp only [lstOf, q] at e; cases e
theorem dlst_lst {x : G} {ds : List D} (e : dlst S x = some ds) : lstOf S x = some (ds.map .dat) := by
  cases x with
  | dat d =>
    cases d with
    | lst ds' => cases e; rfl
    | _ => exact nomatch (show none = some _ from e)
  | loc n =>
    cases q : S n with
    | none => simp only [dlst, q] at e; cases e
    | some o =>
      cases o with
      | lst gs' =>
        simp only [dlst, q] at e
        simp only [lstOf, q]
        rw [allDat_eq e]
      | _ => simp only [dlst, q] at e; cases e
theorem dlst_of (g : GS K R S F H) {v : V} {x : G} {ds : List D} (r : GV K F v x) (e : dlst S x = some ds) : ∃ a vs, v = .ref a ∧ H a = some (.lst vs) ∧ RpAll K F vs ds := by
  obtain ⟨a, vs, h1, h2, h3⟩ := lst_of g r (dlst_lst e)
  exact ⟨a, vs, h1, h2, dat_gvs h3⟩
theorem tup_of (g : GS K R S F H) {v : V} {x : G} {ds : List D} (r : GV K F v x) (e : tupOf x = some ds) : ∃ a vs, v = .ref a ∧ SqT K H a vs ∧ RpAll K F vs ds := by
  cases x with
  | loc n => exact nomatch (show none = some _ from e)
  | dat d =>
    cases d with
    | tup ds' =>
      cases e
      cases (show Rp K F v (.tup ds) from r) with
      | tup h1 h2 => exact ⟨_, _, rfl, .inl (.inl (g.sub _ _ h1)), h2⟩
    | wt ds' =>
      cases e
      cases (show Rp K F v (.wt ds) from r) with
      | wt h1 h2 => exact ⟨_, _, rfl, (Up.of g.sub).t h1, h2⟩
    | _ => exact nomatch (show none = some _ from e)
theorem seq_of (g : GS K R S F H) {v : V} {x : G} {gs : List G} (r : GV K F v x) (e : seqOf S x = some gs) : ∃ a vs, v = .ref a ∧ (SqL K H a vs ∨ SqT K H a vs) ∧ GVs K F vs gs := by
  cases x with
  | dat d =>
    cases d with
    | lst ds =>
      obtain ⟨a, vs, h1, h2, h3⟩ := lst_of g r (show lstOf S (.dat (.lst ds)) = some gs from e)
      exact ⟨a, vs, h1, .inl (.inl (.inl h2)), h3⟩
    | tup ds =>
      cases e
      obtain ⟨a, vs, h1, h2, h3⟩ := tup_of g r (show tupOf (.dat (.tup ds)) = some ds from rfl)
      exact ⟨a, vs, h1, .inr h2, gvs_dat h3⟩
    | wt ds =>
      cases e
      obtain ⟨a, vs, h1, h2, h3⟩ := tup_of g r (show tupOf (.dat (.wt ds)) = some ds from rfl)
      exact ⟨a, vs, h1, .inr h2, gvs_dat h3⟩
    | ro ds =>
      cases e
      cases (show Rp K F v (.ro ds) from r) with
      | ro h1 h2 => exact ⟨_, _, rfl, .inl ((Up.of g.sub).l h1), gvs_dat h2⟩
    | _ => exact nomatch (show none = some _ from e)
  | loc n =>
    obtain ⟨a, vs, h1, h2, h3⟩ := lst_of g r (show lstOf S (.loc n) = some gs from e)
    exact ⟨a, vs, h1, .inl (.inl (.inl h2)), h3⟩
theorem dseq_seq {x : G} {ds : List D} (e : dseq S x = some ds) : seqOf S x = some (ds.map .dat) := by
  cases x with
  | dat d =>
    cases d with
    | lst ds' => cases e; rfl
    | tup ds' => cases e; rfl
    | wt ds' => cases e; rfl
    | ro ds' => cases e; rfl
    | _ => exact nomatch (show none = some _ from e)
  | loc n => exact dlst_lst (show dlst S (.loc n) = some ds from e)
theorem vwN_of (g : GS K R S F H) : ∀ (k : Nat) {v : V} {x : G} {p : PyData}, GV K F v x → vwN k S x = some p → Dp K H v p
  | 0, v, .dat d, p, r, e => (Rp.up (Up.of g.sub) (show Rp K F v d from r)).py e
  | _ + 1, v, .dat d, p, r, e => (Rp.up (Up.of g.sub) (show Rp K F v d from r)).py e
  | 0, v, .loc n, p, r, e => nomatch (show none = some p from e)
  | k + 1, v, .loc n, p, r, e => by
    have ih := @vwN_of g k
    obtain rfl := (show v = .ref n from r)
    cases q : S n with
    | none => simp only [vwN, q] at e; cases e
    | some o =>
      cases o with
      | lst gs =>
        simp only [vwN, q] at e
        obtain ⟨ps, e1, rfl⟩ := mapS e
        obtain ⟨_, vs, h1, h2⟩ := g.obj n _ q
        refine .lst (.inl (.inl h1)) ?_
        clear e q h1
        induction h2 generalizing ps with
        | nil => cases (show some [] = some ps from e1); exact .nil
        | @cons v x vs xs hv hr ih2 =>
          have e1 : (match vwN k S x, oall (vwN k S) xs with
            | some p, some ps => some (p :: ps)
            | _, _ => none) = some ps := e1
          cases q1 : vwN k S x with
          | none => rw [q1] at e1; cases e1
          | some p =>
            cases q2 : oall (vwN k S) xs with
            | none => rw [q1, q2] at e1; cases e1
            | some ps' =>
              rw [q1, q2] at e1
              cases e1
              exact .cons (ih hv q1) (ih2 _ q2)
      | _ => simp only [vwN, q] at e; cases e
theorem vw_of (g : GS K R S F H) {v : V} {x : G} {p : PyData} (r : GV K F v x) (e : vw S x = some p) : Dp K H v p := vwN_of g 3 r e
theorem gvs_len : ∀ {vs : List V} {gs : List G}, GVs K F vs gs → vs.length = gs.length
  | _, _, h => Paired.length h
theorem gvs_at : ∀ {vs : List V} {gs : List G} {i : Nat} {x : G}, GVs K F vs gs → gs[i]? = some x → ∃ v, vs[i]? = some v ∧ GV K F v x
  | _, _, _, _, .nil, e => by simp at e
  | _, _, 0, _, .cons h _, e => by simp at e; subst e; exact ⟨_, rfl, h⟩
  | _, _, i + 1, _, .cons _ r, e => by
    obtain ⟨d, e', h⟩ := gvs_at (i := i) r (by simpa using e)
    exact ⟨d, by simpa using e', h⟩
theorem gvs_app : ∀ {vs ws : List V} {gs hs : List G}, GVs K F vs gs → GVs K F ws hs → GVs K F (vs ++ ws) (gs ++ hs)
  | _, _, _, _, .nil, h => h
  | _, _, _, _, .cons h r, g => .cons h (gvs_app r g)
theorem gvs_set : ∀ {vs : List V} {gs : List G} {i : Nat} {v : V} {x : G}, GVs K F vs gs → GV K F v x → GVs K F (vs.set i v) (gs.set i x)
  | _, _, _, _, _, .nil, _ => .nil
  | _, _, 0, _, _, .cons h r, g => .cons g r
  | _, _, i + 1, _, _, .cons h r, g => .cons h (gvs_set r g)
theorem atI_gvs {vs : List V} {gs : List G} {i : Int} {x : G} (r : GVs K F vs gs) (e : atI gs i = some x) : ∃ v, atI vs i = some v ∧ GV K F v x := by
  unfold atI at e ⊢
  rw [gvs_len r]
  cases q : ixN gs.length i with
  | none => rw [q] at e; cases e
  | some j =>
    rw [q] at e
    obtain ⟨v, e2, h⟩ := gvs_at r (show gs[j]? = some x from e)
    exact ⟨v, e2, h⟩
/-- what may be read at p is there for good -/
theorem on_tup {P : G → Sto → Prop} {Q : VK} {vs : List V} {ds : List D} (on : On K R F P Q) (g : GS K R S F H) (r : RpAll K F vs ds) (h : P (.dat (.tup ds)) S) :
    ∀ p, H p = none → Q (.ref p) (upd H p (.tup vs)) := fun p np =>
  on _ S _ _ (.dat (.tup ds)) (g.lay np _) (up_new (g.fresh np).1) (Rp.tup upd_same (r.up (up_new (g.fresh np).1))) h
theorem on_lst {P : G → Sto → Prop} {Q : VK} {vs : List V} {ds : List D} (on : On K R F P Q) (g : GS K R S F H) (r : RpAll K F vs ds) (h : P (.dat (.lst ds)) S) :
    ∀ p, H p = none → Q (.ref p) (upd H p (.lst vs)) := fun p np =>
  on _ S _ _ (.dat (.lst ds)) (g.lay np _) (up_new (g.fresh np).1) (Rp.lst upd_same (r.up (up_new (g.fresh np).1))) h
theorem on_own {P : G → Sto → Prop} {Q : VK} {vs : List V} {gs : List G} (on : On K R F P Q) (g : GS K R S F H) (r : GVs K F vs gs) (h : ∀ p, S p = none → P (.loc p) (sup S p (.lst gs))) :
    ∀ p, H p = none → Q (.ref p) (upd H p (.lst vs)) := fun p np =>
  on _ _ F _ (.loc p) (g.alloc (u := .lst gs) np ⟨vs, upd_same, r⟩) (Up.refl _) rfl (h p (g.fresh np).2.1)
end

mutual
theorem dp_plain {K : PySem.W.Frag} {H : Hp} : ∀ {v : V} {d : PyData}, Dp K H v d → d.plain = true
  | _, _, .non => rfl
  | _, _, .bl _ => rfl
  | _, _, .int _ => rfl
  | _, _, .str _ => rfl
  | _, _, .lst _ r => by simpa only [PyData.plain] using dps_plain r
  | _, _, .tup _ r => by simpa only [PyData.plain] using dps_plain r
theorem dps_plain {K : PySem.W.Frag} {H : Hp} : ∀ {vs : List V} {ds : List PyData}, DpAll K H vs ds → PyData.plainAll ds = true
  | _, _, .nil => rfl
  | _, _, .cons h r => by simp only [PyData.plainAll, dp_plain h, dps_plain r, Bool.and_self]
end
section
variable {X : Cx}
/-! + - * // % -/
def rAdd_ : RO := fun x y S P => match x, y with
  | .dat (.int i), .dat (.int j) => P (.dat (.int (i + j))) S
  | .dat (.str a), .dat (.str b) => a.length + b.length ≤ sizeLine ∧ P (.dat (.str (a ++ b))) S
  | .dat (.tup a), .dat (.tup b) => a.length + b.length ≤ sizeLine ∧ P (.dat (.tup (a ++ b))) S
  | x, y => match dlst S x, dlst S y with
    | some a, some b => a.length + b.length ≤ sizeLine ∧ P (.dat (.lst (a ++ b))) S
    | _, _ => False
theorem opg_add : OpR X (binaryOp .Add) (rG X.K rAdd_) := by
  rintro pins s σ H x y v u Q I rx ry ⟨R, S, F, P, gx, gy, g, hx, hy, h, on⟩
  unfold rAdd_ at h
  split at h
  · cases hx; cases hy
    exact op_add pins s σ H _ _ v u Q I rx ry ⟨_, _, rfl, rfl, on.now g (x := .dat _) (.int _) h⟩
  · cases hx; cases hy
    exact op_add_str pins s σ H _ _ v u Q I rx ry ⟨_, _, rfl, rfl, h.1, on.now g (x := .dat _) (.str _) h.2⟩
  · rename_i a b
    obtain ⟨h1, h2⟩ := h
    obtain ⟨p, xs, rfl, hp, rp⟩ := tup_of g hx (ds := a) rfl
    obtain ⟨q, ys, rfl, hq, rq⟩ := tup_of g hy (ds := b) rfl
    have r := rp.app rq
    refine op_catA pins s σ H _ _ v u Q I rx ry ⟨p, q, xs, ys, rfl, rfl, hp, hq, by rw [rp.len, rq.len]; exact h1, fun e => ?_, fun _ e => ?_, fun _ _ => on_tup on g r h2⟩
    · subst e
      cases rp
      exact on.now g hy h2
    · subst e
      cases rq
      rw [List.append_nil] at h2
      exact on.now g hx h2
  · split at h
    · rename_i a b e1 e2
      obtain ⟨h1, h2⟩ := h
      obtain ⟨p, xs, rfl, hp, rp⟩ := dlst_of g hx e1
      obtain ⟨q, ys, rfl, hq, rq⟩ := dlst_of g hy e2
      exact op_cat pins s σ H _ _ v u Q I rx ry ⟨p, q, xs, ys, rfl, rfl, hp, hq, by rw [rp.len, rq.len]; exact h1, on_lst on g (rp.app rq) h2⟩
    · exact h.elim
def rSub_ : RO := fun x y S P => match x, y with
  | .dat (.int i), .dat (.int j) => P (.dat (.int (i - j))) S
  | _, _ => False
theorem opg_sub : OpR X (binaryOp .Sub) (rG X.K rSub_) := by
  rintro pins s σ H x y v u Q I rx ry ⟨R, S, F, P, gx, gy, g, hx, hy, h, on⟩
  unfold rSub_ at h
  split at h
  · cases hx; cases hy
    exact op_sub pins s σ H _ _ v u Q I rx ry ⟨_, _, rfl, rfl, on.now g (x := .dat _) (.int _) h⟩
  · exact h.elim
def rMul_ : RO := fun x y S P => match x, y with
  | .dat (.int i), .dat (.int j) => CMul i j ∧ P (.dat (.int (i * j))) S
  | .dat (.str a), .dat (.int j) => MulOk a j ∧ P (.dat (.str (Txt.mul a j))) S
  | _, _ => False
theorem opg_mul : OpR X (binaryOp .Mult) (rG X.K rMul_) := by
  rintro pins s σ H x y v u Q I rx ry ⟨R, S, F, P, gx, gy, g, hx, hy, h, on⟩
  unfold rMul_ at h
  split at h
  · cases hx; cases hy
    exact op_mul pins s σ H _ _ v u Q I rx ry ⟨_, _, rfl, rfl, h.1, on.now g (x := .dat _) (.int _) h.2⟩
  · cases hx; cases hy
    exact op_mulStr pins s σ H _ _ v u Q I rx ry ⟨_, _, rfl, rfl, h.1, on.now g (x := .dat _) (.str _) h.2⟩
  · exact h.elim
def rMod_ : RO := fun x y S P => match x, y with
  | .dat (.int i), .dat (.int j) => 0 < j ∧ P (.dat (.int (i % j))) S
  | _, _ => False
theorem opg_mod : OpR X (binaryOp .Mod) (rG X.K rMod_) := by
  rintro pins s σ H x y v u Q I rx ry ⟨R, S, F, P, gx, gy, g, hx, hy, h, on⟩
  unfold rMod_ at h
  split at h
  · cases hx; cases hy
    exact op_mod pins s σ H _ _ v u Q I rx ry ⟨_, _, rfl, rfl, h.1, on.now g (x := .dat _) (.int _) h.2⟩
  · exact h.elim
def rFdv_ : RO := fun x y S P => match x, y with
  | .dat (.int i), .dat (.int j) => CDiv i j ∧ P (.dat (.int (i / j))) S
  | _, _ => False
theorem opg_fdv : OpR X (binaryOp .FloorDiv) (rG X.K rFdv_) := by
  rintro pins s σ H x y v u Q I rx ry ⟨R, S, F, P, gx, gy, g, hx, hy, h, on⟩
  unfold rFdv_ at h
  split at h
  · cases hx; cases hy
    exact op_fdiv pins s σ H _ _ v u Q I rx ry ⟨_, _, rfl, rfl, h.1, on.now g (x := .dat _) (.int _) h.2⟩
  · exact h.elim
/-! order -/
def rLt_ : RO := fun x y S P => match x, y with
  | .dat (.int i), .dat (.int j) => P (.dat (.bl (decide (i < j)))) S
  | .dat (.str a), .dat (.str b) => P (.dat (.bl (decide (a.cps.toList < b.cps.toList)))) S
  | _, _ => False
theorem opg_lt : OpR X (compareOp .Lt) (rG X.K rLt_) := by
  rintro pins s σ H x y v u Q I rx ry ⟨R, S, F, P, gx, gy, g, hx, hy, h, on⟩
  unfold rLt_ at h
  split at h
  · cases hx; cases hy
    exact op_lt pins s σ H _ _ v u Q I rx ry ⟨_, _, rfl, rfl, on.now g (x := .dat _) (.bl _) h⟩
  · cases hx; cases hy
    exact op_lt_str pins s σ H _ _ v u Q I rx ry ⟨_, _, rfl, rfl, on.now g (x := .dat _) (.bl _) h⟩
  · exact h.elim
def rLe_ : RO := fun x y S P => match x, y with
  | .dat (.int i), .dat (.int j) => P (.dat (.bl (decide (i ≤ j)))) S
  | .dat (.str a), .dat (.str b) => P (.dat (.bl (!decide (b.cps.toList < a.cps.toList)))) S
  | _, _ => False
theorem opg_le : OpR X (compareOp .LtE) (rG X.K rLe_) := by
  rintro pins s σ H x y v u Q I rx ry ⟨R, S, F, P, gx, gy, g, hx, hy, h, on⟩
  unfold rLe_ at h
  split at h
  · cases hx; cases hy
    exact op_le pins s σ H _ _ v u Q I rx ry ⟨_, _, rfl, rfl, on.now g (x := .dat _) (.bl _) h⟩
  · cases hx; cases hy
    exact op_le_str pins s σ H _ _ v u Q I rx ry ⟨_, _, rfl, rfl, on.now g (x := .dat _) (.bl _) h⟩
  · exact h.elim
def rGt_ : RO := fun x y S P => match x, y with
  | .dat (.int i), .dat (.int j) => P (.dat (.bl (decide (j < i)))) S
  | _, _ => False
theorem opg_gt : OpR X (compareOp .Gt) (rG X.K rGt_) := by
  rintro pins s σ H x y v u Q I rx ry ⟨R, S, F, P, gx, gy, g, hx, hy, h, on⟩
  unfold rGt_ at h
  split at h
  · cases hx; cases hy
    exact op_gt pins s σ H _ _ v u Q I rx ry ⟨_, _, rfl, rfl, on.now g (x := .dat _) (.bl _) h⟩
  · exact h.elim
def rGe_ : RO := fun x y S P => match x, y with
  | .dat (.int i), .dat (.int j) => P (.dat (.bl (decide (j ≤ i)))) S
  | _, _ => False
theorem opg_ge : OpR X (compareOp .GtE) (rG X.K rGe_) := by
  rintro pins s σ H x y v u Q I rx ry ⟨R, S, F, P, gx, gy, g, hx, hy, h, on⟩
  unfold rGe_ at h
  split at h
  · cases hx; cases hy
    exact op_ge pins s σ H _ _ v u Q I rx ry ⟨_, _, rfl, rfl, on.now g (x := .dat _) (.bl _) h⟩
  · exact h.elim
/-! ==, !=, in, not in, is -/
def rEq_ : RO := fun x y S P => match x, y with
  | .dat (.int i), .dat (.int j) => P (.dat (.bl (decide (i = j)))) S
  | .dat (.str a), .dat (.str b) => P (.dat (.bl (decide (a = b)))) S
  | .dat (.bl a), .dat (.bl b) => P (.dat (.bl (decide (a = b)))) S
  | x, y => match vw S x, vw S y with
    | some p, some q => p.depth ≤ 60 ∧ P (.dat (.bl (PyData.eqv p q))) S
    | _, _ => False
def rNe_ : RO := fun x y S P => match x, y with
  | .dat (.int i), .dat (.int j) => P (.dat (.bl (!decide (i = j)))) S
  | .dat (.str a), .dat (.str b) => P (.dat (.bl (!decide (a = b)))) S
  | .dat (.bl a), .dat (.bl b) => P (.dat (.bl (!decide (a = b)))) S
  | x, y => match vw S x, vw S y with
    | some p, some q => p.depth ≤ 60 ∧ P (.dat (.bl (!PyData.eqv p q))) S
    | _, _ => False
theorem dec_vint {i j : Int} : decide (V.int i = V.int j) = decide (i = j) := by
  by_cases h : i = j
  · rw [decide_eq_true h, decide_eq_true (congrArg V.int h)]
  · rw [decide_eq_false h, decide_eq_false fun z => h (V.int.inj z)]
theorem dec_vstr {i j : Str} : decide (V.str i = V.str j) = decide (i = j) := by
  by_cases h : i = j
  · rw [decide_eq_true h, decide_eq_true (congrArg V.str h)]
  · rw [decide_eq_false h, decide_eq_false fun z => h (V.str.inj z)]
theorem dec_vbl {i j : Bool} : decide (V.bl i = V.bl j) = decide (i = j) := by
  by_cases h : i = j
  · rw [decide_eq_true h, decide_eq_true (congrArg V.bl h)]
  · rw [decide_eq_false h, decide_eq_false fun z => h (V.bl.inj z)]
theorem opg_eq (hu : X.A.units + 64 < cLine) : OpR X (compareOp .Eq) (rG X.K rEq_) := by
  rintro pins s σ H x y v u Q I rx ry ⟨R, S, F, P, gx, gy, g, hx, hy, h, on⟩
  unfold rEq_ at h
  split at h
  · cases hx; cases hy
    exact op_eq pins s σ H _ _ v u Q I rx ry ⟨rfl, by rw [dec_vint]; exact on.now g (x := .dat _) (.bl _) h⟩
  · cases hx; cases hy
    exact op_eq pins s σ H _ _ v u Q I rx ry ⟨rfl, by rw [dec_vstr]; exact on.now g (x := .dat _) (.bl _) h⟩
  · cases hx; cases hy
    exact op_eq pins s σ H _ _ v u Q I rx ry ⟨rfl, by rw [dec_vbl]; exact on.now g (x := .dat _) (.bl _) h⟩
  · split at h
    · rename_i p q e1 e2
      have d1 := vw_of g hx e1
      have d2 := vw_of g hy e2
      obtain ⟨as, r1⟩ := Dp.reads I p x v d1 rx
      obtain ⟨bs, r2⟩ := Dp.reads I q y u d2 ry
      exact SeqAt.eq_plain r1 r2 (dp_plain d1) (dp_plain d2) (by have := Nat.min_le_left p.depth q.depth; have := h.1; omega) ⟨.bl _, H, I, rfl, on.now g (x := .dat _) (.bl _) h.2⟩
    · exact h.elim
theorem opg_ne (hu : X.A.units + 64 < cLine) : OpR X (compareOp .NotEq) (rG X.K rNe_) := by
  rintro pins s σ H x y v u Q I rx ry ⟨R, S, F, P, gx, gy, g, hx, hy, h, on⟩
  unfold rNe_ at h
  split at h
  · cases hx; cases hy
    exact op_ne pins s σ H _ _ v u Q I rx ry ⟨rfl, by rw [dec_vint]; exact on.now g (x := .dat _) (.bl _) h⟩
  · cases hx; cases hy
    exact op_ne pins s σ H _ _ v u Q I rx ry ⟨rfl, by rw [dec_vstr]; exact on.now g (x := .dat _) (.bl _) h⟩
  · cases hx; cases hy
    exact op_ne pins s σ H _ _ v u Q I rx ry ⟨rfl, by rw [dec_vbl]; exact on.now g (x := .dat _) (.bl _) h⟩
  · split at h
    · rename_i p q e1 e2
      have d1 := vw_of g hx e1
      have d2 := vw_of g hy e2
      obtain ⟨as, r1⟩ := Dp.reads I p x v d1 rx
      obtain ⟨bs, r2⟩ := Dp.reads I q y u d2 ry
      exact SeqAt.ne_plain r1 r2 (dp_plain d1) (dp_plain d2) (by have := Nat.min_le_left p.depth q.depth; have := h.1; omega) ⟨.bl _, H, I, rfl, on.now g (x := .dat _) (.bl _) h.2⟩
    · exact h.elim
/-- x in a list of data; one sign in a text -/
def rIn_ : RO := fun x y S P => match y with
  | .dat (.str z) => (match x with
    | .dat (.str a) => ∃ c, a = ⟨#[c]⟩ ∧ P (.dat (.bl (decide (c ∈ z.cps.toList)))) S
    | _ => False)
  | y => match vw S x, vw S y with
    | some d, some (.list ds) => d.depth ≤ 60 ∧ P (.dat (.bl (ds.any fun z => PyData.eqv z d))) S
    | some d, some (.tuple ds) => d.depth ≤ 60 ∧ P (.dat (.bl (ds.any fun z => PyData.eqv z d))) S
    | _, _ => False
def rNin_ : RO := fun x y S P => match y with
  | .dat (.str z) => (match x with
    | .dat (.str a) => ∃ c, a = ⟨#[c]⟩ ∧ P (.dat (.bl (!decide (c ∈ z.cps.toList)))) S
    | _ => False)
  | y => match vw S x, vw S y with
    | some d, some (.list ds) => d.depth ≤ 60 ∧ P (.dat (.bl (!ds.any fun z => PyData.eqv z d))) S
    | some d, some (.tuple ds) => d.depth ≤ 60 ∧ P (.dat (.bl (!ds.any fun z => PyData.eqv z d))) S
    | _, _ => False
theorem notin_sign : OpR X (compareOp .NotIn) (fun x y H Q => ∃ (c : Nat) (z : Str), x = .str ⟨#[c]⟩ ∧ y = .str z ∧ Q (.bl (!decide (c ∈ z.cps.toList))) H) := by
  rintro pins s σ H x y v u Q I rx ry ⟨c, z, rfl, rfl, h⟩
  refine op_notin_str pins s σ H _ _ v u Q I rx ry ⟨_, _, rfl, rfl, ?_⟩
  have e := StrLaws.found_one z c
  rw [show (!(Builtin.Str.occurrences z ⟨#[c]⟩ 0 z.length 1).isEmpty) = decide (c ∈ z.cps.toList) from e]
  exact h
theorem opg_in (hu : X.A.units + 65 < cLine) : OpR X (compareOp .In) (rG X.K rIn_) := by
  rintro pins s σ H x y v u Q I rx ry ⟨R, S, F, P, gx, gy, g, hx, hy, h, on⟩
  unfold rIn_ at h
  split at h
  · split at h
    · obtain ⟨c, rfl, h⟩ := h
      cases hx; cases hy
      exact op_in_sign pins s σ H _ _ v u Q I rx ry ⟨c, _, rfl, rfl, on.now g (x := .dat _) (.bl _) h⟩
    · exact h.elim
  · split at h
    · rename_i d ds e1 e2
      have d1 := vw_of g hx e1
      have d2 := vw_of g hy e2
      obtain ⟨as, r1⟩ := Dp.reads I d x v d1 rx
      obtain ⟨bs, r2⟩ := Dp.reads I (.list ds) y u d2 ry
      exact SeqAt.in_list_data r2 r1 (by simpa only [PyData.plain] using dp_plain d2) (dp_plain d1) (by have := Nat.min_le_right (PyData.depthAll ds) d.depth; have := h.1; omega) ⟨.bl _, H, I, rfl, on.now g (x := .dat _) (.bl _) h.2⟩
    · rename_i d ds e1 e2
      have d1 := vw_of g hx e1
      have d2 := vw_of g hy e2
      obtain ⟨as, r1⟩ := Dp.reads I d x v d1 rx
      obtain ⟨bs, r2⟩ := Dp.reads I (.tuple ds) y u d2 ry
      exact SeqAt.in_tuple_data r2 r1 (by simpa only [PyData.plain] using dp_plain d2) (dp_plain d1) (by have := Nat.min_le_right (PyData.depthAll ds) d.depth; have := h.1; omega) ⟨.bl _, H, I, rfl, on.now g (x := .dat _) (.bl _) h.2⟩
    · exact h.elim
theorem opg_nin (hu : X.A.units + 65 < cLine) : OpR X (compareOp .NotIn) (rG X.K rNin_) := by
  rintro pins s σ H x y v u Q I rx ry ⟨R, S, F, P, gx, gy, g, hx, hy, h, on⟩
  unfold rNin_ at h
  split at h
  · split at h
    · obtain ⟨c, rfl, h⟩ := h
      cases hx; cases hy
      exact notin_sign pins s σ H _ _ v u Q I rx ry ⟨c, _, rfl, rfl, on.now g (x := .dat _) (.bl _) h⟩
    · exact h.elim
  · split at h
    · rename_i d ds e1 e2
      have d1 := vw_of g hx e1
      have d2 := vw_of g hy e2
      obtain ⟨as, r1⟩ := Dp.reads I d x v d1 rx
      obtain ⟨bs, r2⟩ := Dp.reads I (.list ds) y u d2 ry
      exact SeqAt.notIn_list_data r2 r1 (by simpa only [PyData.plain] using dp_plain d2) (dp_plain d1) (by have := Nat.min_le_right (PyData.depthAll ds) d.depth; have := h.1; omega) ⟨.bl _, H, I, rfl, on.now g (x := .dat _) (.bl _) h.2⟩
    · rename_i d ds e1 e2
      have d1 := vw_of g hx e1
      have d2 := vw_of g hy e2
      obtain ⟨as, r1⟩ := Dp.reads I d x v d1 rx
      obtain ⟨bs, r2⟩ := Dp.reads I (.tuple ds) y u d2 ry
      exact SeqAt.notIn_tuple_data r2 r1 (by simpa only [PyData.plain] using dp_plain d2) (dp_plain d1) (by have := Nat.min_le_right (PyData.depthAll ds) d.depth; have := h.1; omega) ⟨.bl _, H, I, rfl, on.now g (x := .dat _) (.bl _) h.2⟩
    · exact h.elim
/-- x is None -/
def isNon : G → Option Bool
  | .dat .non => some true
  | .dat (.val _) => none
  | _ => some false
theorem isNon_of {K : PySem.W.Frag} {F : Hp} {v : V} {x : G} {b : Bool} (r : GV K F v x) (e : isNon x = some b) : decide (v = .non) = b := by
  cases x with
  | loc n => obtain rfl := (show v = .ref n from r); cases e; rfl
  | dat d => cases r <;> first | (cases e; rfl) | (exact nomatch (show none = some _ from e))
def rIs_ : RO := fun x y S P => match y with
  | .dat .non => (match isNon x with
    | some b => P (.dat (.bl b)) S
    | none => False)
  | _ => False
def rIsn_ : RO := fun x y S P => match y with
  | .dat .non => (match isNon x with
    | some b => P (.dat (.bl (!b))) S
    | none => False)
  | _ => False
theorem opg_is : OpR X (compareOp .Is) (rG X.K rIs_) := by
  rintro pins s σ H x y v u Q I rx ry ⟨R, S, F, P, gx, gy, g, hx, hy, h, on⟩
  unfold rIs_ at h
  split at h
  · split at h
    · rename_i b e
      cases hy
      exact op_isN pins s σ H _ _ v u Q I rx ry ⟨rfl, by rw [isNon_of hx e]; exact on.now g (x := .dat _) (.bl _) h⟩
    · exact h.elim
  · exact h.elim
theorem opg_isn : OpR X (compareOp .IsNot) (rG X.K rIsn_) := by
  rintro pins s σ H x y v u Q I rx ry ⟨R, S, F, P, gx, gy, g, hx, hy, h, on⟩
  unfold rIsn_ at h
  split at h
  · split at h
    · rename_i b e
      cases hy
      exact op_notN pins s σ H _ _ v u Q I rx ry ⟨rfl, by rw [isNon_of hx e]; exact on.now g (x := .dat _) (.bl _) h⟩
    · exact h.elim
  · exact h.elim
/-! xs[i], t[i], z[i] -/
def rIx_ : RO := fun x y S P => match x, y with
  | .dat (.str z), .dat (.int i) => z.length ≤ sizeLine ∧ ∃ c, atI z.cps.toList i = some c ∧ P (.dat (.str ⟨#[c]⟩)) S
  | x, .dat (.int i) => (match seqOf S x with
    | some gs => ∃ g, atI gs i = some g ∧ P g S
    | none => False)
  | _, _ => False
theorem ixg : IxR X (rG X.K rIx_) := by
  rintro value slice pins s σ H x y v u Q I rx ry ⟨R, S, F, P, gx, gy, g, hx, hy, h, on⟩ hs
  unfold rIx_ at h
  split at h
  · obtain ⟨h1, c, h2, h3⟩ := h
    cases hx; cases hy
    exact ix_str value slice pins s σ H _ _ v u Q I rx ry ⟨_, _, c, rfl, rfl, h1, h2, on.now g (x := .dat _) (.str _) h3⟩ hs
  · split at h
    · rename_i gs e
      obtain ⟨z, h1, h2⟩ := h
      obtain ⟨a, vs, rfl, hq, r⟩ := seq_of g hx e
      cases hy
      obtain ⟨w, hw, rw'⟩ := atI_gvs r h1
      rcases hq with hq | hq
      · exact ix_list value slice pins s σ H _ _ v u Q I rx ry ⟨a, vs, _, w, rfl, rfl, hq, hw, on.now g rw' h2⟩ hs
      · exact ix_tup value slice pins s σ H _ _ v u Q I rx ry ⟨a, vs, _, w, rfl, rfl, hq, hw, on.now g rw' h2⟩ hs
    · exact h.elim
  · exact h.elim
end
end LN

namespace LN
open PySem PySem.Spec PyProof.Rows L2
section
variable {X : Cx} {W : WX} {K : PySem.W.Frag} {e a b c : Expr} {ga gb gc : GR} {pos : Pos}
/-! truth -/
def tru (S : Sto) : G → Option Bool
  | .dat .non => some false
  | .dat (.bl b) => some b
  | .dat (.int i) => some (i != 0)
  | .dat (.tup ds) => some (!ds.isEmpty)
  | .dat (.lst ds) => some (!ds.isEmpty)
  | .loc n => match S n with
    | some (.lst gs) => some (!gs.isEmpty)
    | _ => none
  | _ => none
theorem empty_gvs {F : Hp} : ∀ {vs : List V} {gs : List G}, GVs K F vs gs → (!vs.isEmpty) = !gs.isEmpty
  | _, _, .nil => rfl
  | _, _, .cons _ _ => rfl
theorem empty_rp {F : Hp} : ∀ {vs : List V} {gs : List D}, RpAll K F vs gs → (!vs.isEmpty) = !gs.isEmpty
  | _, _, .nil => rfl
  | _, _, .cons _ _ => rfl
theorem tru_of {R F H : Hp} {S : Sto} {v : V} {x : G} {k : Bool} (g : GS K R S F H) (r : GV K F v x) (e : tru S x = some k) : TruV K v H k := by
  cases x with
  | loc n =>
    obtain rfl := (show v = .ref n from r)
    cases q : S n with
    | none => simp only [tru, q] at e; cases e
    | some o =>
      cases o with
      | lst gs =>
        simp only [tru, q] at e
        cases e
        obtain ⟨_, vs, h1, h2⟩ := g.obj n _ q
        exact .inl ⟨vs, .inl (.inl h1), (empty_gvs h2).symm⟩
      | _ => simp only [tru, q] at e; cases e
  | dat d =>
    cases d with
    | non => cases r; cases e; rfl
    | bl b => cases r; cases e; rfl
    | int i => cases r; cases e; rfl
    | tup ds =>
      cases e
      obtain ⟨p, vs, rfl, h1, h2⟩ := tup_of g r (ds := ds) rfl
      exact .inr (.inl ⟨vs, h1, (empty_rp h2).symm⟩)
    | lst ds =>
      cases e
      obtain ⟨p, vs, rfl, h1, h2⟩ := dlst_of g r (ds := ds) rfl
      exact .inl ⟨vs, .inl (.inl h1), (empty_rp h2).symm⟩
    | _ => exact nomatch (show none = some _ from e)
def gTruth (ga : GR) : GRB := fun Γ S P E => ga Γ S (fun x S1 => match tru S1 x with
  | some k => P k S1
  | none => False) E
theorem gt_truth (ha : GE X W a ga) (he : ∀ whole, isTrue a X.env whole = (do let v ← whole; standAt a.pos; holding [v] (truthy v)) := by intro _; rfl) : GT X W a (gTruth ga) := by
  refine PT.imp (pt_truth ha he) ?_
  rintro σ H Q ⟨R, Γ, S, F, P, E, g, sl, h, on, ox⟩
  refine ⟨R, Γ, S, F, _, E, g, sl, h, fun v S1 F1 H1 x g1 s1 r1 h1 => ?_, ox⟩
  cases q : tru S1 x with
  | none => simp only [q] at h1
  | some k =>
    simp only [q] at h1
    exact ⟨k, tru_of g1 r1 q, on k S1 F1 H1 g1 s1 h1⟩
def gTest (ga : GR) : GRB := fun Γ S P E => ga Γ S (fun x S1 => match x with
  | .dat (.bl k) => P k S1
  | _ => False) E
theorem tg_test {t : TE} {g : GR} {σ : L2.St} {H : Hp} {Q : Bool → Hp → Prop} (w : ∀ σ H Q, tG K W g σ H Q → t σ H Q) (h : tGB K W (gTest g) σ H Q) : tTest t σ H Q := by
  obtain ⟨R, Γ, S, F, P, E, g, sl, h, on, ox⟩ := h
  refine w _ _ _ ⟨R, Γ, S, F, _, E, g, sl, h, fun v S1 F1 H1 x g1 s1 r1 h1 => ?_, ox⟩
  dsimp only at h1
  split at h1
  · rename_i k
    cases (show Rp K F1 v (.bl k) from r1)
    exact ⟨k, rfl, on k S1 F1 H1 g1 s1 h1⟩
  · exact h1.elim
theorem gt_cmp {op : CmpOp} {r : RO} (ho : OpR X (compareOp op) (rG X.K r)) (ha : GE X W a ga) (hb : GE X W b gb) (hm : behindInMarks op b = false) : GT X W (.Compare a [op] [b] pos) (gTest (gOp r ga gb)) :=
  PT.imp (pt_cmpR ho ha hb hm) fun _ _ _ h => tg_test (fun _ _ _ => tg_op) h
/-- a op1 b op2 c -/
def gChain (r r' : RO) (ga gb gc : GR) : GR := fun Γ S P E => ga Γ S (fun x S1 => gb Γ S1 (fun y S2 => r x y S2 fun z S3 => match z with
  | .dat (.bl k) => if k = true then gc Γ S3 (fun w S4 => r' y w S4 P) E else P (.dat (.bl false)) S3
  | _ => False) E) E
theorem tg_chain {r r' : RO} {σ : L2.St} {H : Hp} {Q : VK} (h : tG K W (gChain r r' ga gb gc) σ H Q) : tChain (rG K r) (rG K r') (tG K W ga) (tG K W gb) (tG K W gc) σ H Q := by
  obtain ⟨R, Γ, S, F, P, E, g, sl, h, on, ox⟩ := h
  refine ⟨R, Γ, S, F, _, E, g, sl, h, fun v S1 F1 H1 x g1 s1 r1 h1 => ?_, ox⟩
  refine ⟨R, Γ, S1, F1, _, E, g1, sl.up s1, h1, fun w S2 F2 H2 y g2 s2 r2 h2 => ?_, ox.go s1⟩
  refine ⟨R, S2, F2, _, x, y, g2, r1.up s2, r2, h2, fun z S3 F3 H3 zz g3 s3 r3 h3 => ?_⟩
  split at h3
  · rename_i k
    cases (show Rp K F3 z (.bl k) from r3)
    refine ⟨k, rfl, ?_⟩
    cases k with
    | false => exact iteF (on.go ((s1.trans s2).trans s3) |>.now g3 (x := .dat (.bl false)) (.bl _) h3)
    | true =>
      refine iteT ⟨R, Γ, S3, F3, _, E, g3, sl.up ((s1.trans s2).trans s3), h3, fun u S4 F4 H4 uu g4 s4 r4 h4 => ?_, ox.go ((s1.trans s2).trans s3)⟩
      exact ⟨R, S4, F4, P, y, uu, g4, r2.up (s3.trans s4), r4, h4, on.go (((s1.trans s2).trans s3).trans s4)⟩
  · exact h3.elim
theorem ge_chain {op op' : CmpOp} {r r' : RO} (ho : OpR X (compareOp op) (rG X.K r)) (ho' : OpR X (compareOp op') (rG X.K r')) (ha : GE X W a ga) (hb : GE X W b gb) (hc : GE X W c gc)
    (hm : lastMarks [op, op'] [b, c] = false := by with_unfolding_all rfl) : GE X W (.Compare a [op, op'] [b, c] pos) (gChain r r' ga gb gc) := PE.imp (pe_chain ho ho' ha hb hc hm) fun _ _ _ => tg_chain
theorem gt_chain {op op' : CmpOp} {r r' : RO} (ho : OpR X (compareOp op) (rG X.K r)) (ho' : OpR X (compareOp op') (rG X.K r')) (ha : GE X W a ga) (hb : GE X W b gb) (hc : GE X W c gc)
    (hm : lastMarks [op, op'] [b, c] = false := by with_unfolding_all rfl) : GT X W (.Compare a [op, op'] [b, c] pos) (gTest (gChain r r' ga gb gc)) := PT.imp (pt_chain ho ho' ha hb hc hm) fun _ _ _ h => tg_test (fun _ _ _ => tg_chain) h
/-! and, or, not as tests -/
variable {gA gB : GRB} {rest : List Expr}
def gAnd (t u : GRB) : GRB := fun Γ S P E => t Γ S (fun k S1 => if k = true then u Γ S1 P E else P false S1) E
def gOr (t u : GRB) : GRB := fun Γ S P E => t Γ S (fun k S1 => if k = true then P true S1 else u Γ S1 P E) E
def gNot (t : GRB) : GRB := fun Γ S P E => t Γ S (fun k S1 => P (!k) S1) E
theorem gw_and1 (ha : GT X W a gA) : GW X W (.BoolOp .And [a] pos) gA := pw_and1 ha
theorem gw_or1 (ha : GT X W a gA) : GW X W (.BoolOp .Or [a] pos) gA := pw_or1 ha
theorem gw_and (ha : GT X W a gA) (hb : GW X W (.BoolOp .And (b :: rest) pos) gB) : GW X W (.BoolOp .And (a :: b :: rest) pos) (gAnd gA gB) := by
  refine PW.imp (pw_and ha hb) ?_
  rintro σ H Q ⟨R, Γ, S, F, P, E, g, sl, h, on, ox⟩
  refine ⟨R, Γ, S, F, _, E, g, sl, h, fun k S1 F1 H1 g1 s1 h1 => ?_, ox⟩
  cases k with
  | true => exact iteT ⟨R, Γ, S1, F1, P, E, g1, sl.up s1, h1, on.go s1, ox.go s1⟩
  | false => exact iteF (on false S1 F1 H1 g1 s1 h1)
theorem gw_or (ha : GT X W a gA) (hb : GW X W (.BoolOp .Or (b :: rest) pos) gB) : GW X W (.BoolOp .Or (a :: b :: rest) pos) (gOr gA gB) := by
  refine PW.imp (pw_or ha hb) ?_
  rintro σ H Q ⟨R, Γ, S, F, P, E, g, sl, h, on, ox⟩
  refine ⟨R, Γ, S, F, _, E, g, sl, h, fun k S1 F1 H1 g1 s1 h1 => ?_, ox⟩
  cases k with
  | false => exact iteF ⟨R, Γ, S1, F1, P, E, g1, sl.up s1, h1, on.go s1, ox.go s1⟩
  | true => exact iteT (on true S1 F1 H1 g1 s1 h1)
theorem gw_pt (h : GW X W a gA) : GT X W a gA := PW.pt h
theorem gt_not (ha : GT X W a gA) : GT X W (.UnaryOp .Not a pos) (gNot gA) := by
  refine PT.imp (pt_not ha) ?_
  rintro σ H Q ⟨R, Γ, S, F, P, E, g, sl, h, on, ox⟩
  exact ⟨R, Γ, S, F, _, E, g, sl, h, fun k S1 F1 H1 g1 s1 h1 => on (!k) S1 F1 H1 g1 s1 h1, ox⟩
/-! .. as values -/
def gAndV (ga gb : GR) : GR := fun Γ S P E => ga Γ S (fun x S1 => match tru S1 x with
  | some k => if k = true then gb Γ S1 P E else P x S1
  | none => False) E
def gOrV (ga gb : GR) : GR := fun Γ S P E => ga Γ S (fun x S1 => match tru S1 x with
  | some k => if k = true then P x S1 else gb Γ S1 P E
  | none => False) E
def gNotV (ga : GR) : GR := fun Γ S P E => ga Γ S (fun x S1 => match tru S1 x with
  | some k => P (.dat (.bl (!k))) S1
  | none => False) E
theorem ge_one {op} (h : GE X W a ga) : GE X W (.BoolOp op [a] pos) ga := pe_one h
theorem ge_and (ha : GE X W a ga) (hb : GE X W (.BoolOp .And (b :: rest) pos) gb) : GE X W (.BoolOp .And (a :: b :: rest) pos) (gAndV ga gb) := by
  refine PE.imp (pe_andT ha hb) ?_
  rintro σ H Q ⟨R, Γ, S, F, P, E, g, sl, h, on, ox⟩
  refine ⟨R, Γ, S, F, _, E, g, sl, h, fun v S1 F1 H1 x g1 s1 r1 h1 => ?_, ox⟩
  cases q : tru S1 x with
  | none => simp only [q] at h1
  | some k =>
    simp only [q] at h1
    refine ⟨k, tru_of g1 r1 q, ?_⟩
    cases k with
    | true => exact iteT ⟨R, Γ, S1, F1, P, E, g1, sl.up s1, h1, on.go s1, ox.go s1⟩
    | false => exact iteF (on v S1 F1 H1 x g1 s1 r1 h1)
theorem ge_or (ha : GE X W a ga) (hb : GE X W (.BoolOp .Or (b :: rest) pos) gb) : GE X W (.BoolOp .Or (a :: b :: rest) pos) (gOrV ga gb) := by
  refine PE.imp (pe_orT ha hb) ?_
  rintro σ H Q ⟨R, Γ, S, F, P, E, g, sl, h, on, ox⟩
  refine ⟨R, Γ, S, F, _, E, g, sl, h, fun v S1 F1 H1 x g1 s1 r1 h1 => ?_, ox⟩
  cases q : tru S1 x with
  | none => simp only [q] at h1
  | some k =>
    simp only [q] at h1
    refine ⟨k, tru_of g1 r1 q, ?_⟩
    cases k with
    | false => exact iteF ⟨R, Γ, S1, F1, P, E, g1, sl.up s1, h1, on.go s1, ox.go s1⟩
    | true => exact iteT (on v S1 F1 H1 x g1 s1 r1 h1)
theorem ge_not (ha : GE X W a ga) : GE X W (.UnaryOp .Not a pos) (gNotV ga) := by
  refine PE.imp (pe_notT ha) ?_
  rintro σ H Q ⟨R, Γ, S, F, P, E, g, sl, h, on, ox⟩
  refine ⟨R, Γ, S, F, _, E, g, sl, h, fun v S1 F1 H1 x g1 s1 r1 h1 => ?_, ox⟩
  cases q : tru S1 x with
  | none => simp only [q] at h1
  | some k =>
    simp only [q] at h1
    exact ⟨k, tru_of g1 r1 q, (on.go s1).now g1 (x := .dat (.bl (!k))) (.bl _) h1⟩
def gIf (t : GRB) (ga gb : GR) : GR := fun Γ S P E => t Γ S (fun k S1 => if k = true then ga Γ S1 P E else gb Γ S1 P E) E
theorem ge_ifx (hc : GT X W c gA) (ha : GE X W a ga) (hb : GE X W b gb) : GE X W (.IfExp c a b pos) (gIf gA ga gb) := by
  refine PE.imp (pe_ifExp hc ha hb) ?_
  rintro σ H Q ⟨R, Γ, S, F, P, E, g, sl, h, on, ox⟩
  refine ⟨R, Γ, S, F, _, E, g, sl, h, fun k S1 F1 H1 g1 s1 h1 => ?_, ox⟩
  cases k with
  | true => exact iteT ⟨R, Γ, S1, F1, P, E, g1, sl.up s1, h1, on.go s1, ox.go s1⟩
  | false => exact iteF ⟨R, Γ, S1, F1, P, E, g1, sl.up s1, h1, on.go s1, ox.go s1⟩
/-! displays -/
def gTuple (t : GRA) : GR := fun Γ S P E => t Γ S (fun gs S1 => match allDat gs with
  | some ds => ds.length ≤ sizeLine ∧ P (.dat (.tup ds)) S1
  | none => False) E
/-- a list that is never changed; one that may be -/
def gLst (t : GRA) : GR := fun Γ S P E => t Γ S (fun gs S1 => match allDat gs with
  | some ds => ds.length ≤ sizeLine ∧ P (.dat (.lst ds)) S1
  | none => False) E
def gOwn (t : GRA) : GR := fun Γ S P E => t Γ S (fun gs S1 => gs.length ≤ sizeLine ∧ ∀ p, S1 p = none → P (.loc p) (sup S1 p (.lst gs))) E
variable {es : List Expr} {gt : GRA}
theorem ge_tup {x1} (h : GA X W es gt) : GE X W (.Tuple es x1 pos) (gTuple gt) := by
  refine PE.imp (pe_tup h) ?_
  rintro σ H Q ⟨R, Γ, S, F, P, E, g, sl, h, on, ox⟩
  refine ⟨R, Γ, S, F, _, E, g, sl, h, fun vs S1 F1 H1 xs g1 s1 r1 h1 => ?_, ox⟩
  cases q : allDat xs with
  | none => simp only [q] at h1
  | some ds =>
    simp only [q] at h1
    rw [allDat_eq q] at r1
    exact ⟨by rw [(dat_gvs r1).len]; exact h1.1, on_tup (on.go s1) g1 (dat_gvs r1) h1.2⟩
theorem ge_lst (h : GA X W es gt) : GE X W (.List es pos) (LN.gLst gt) := by
  refine PE.imp (pe_lst h) ?_
  rintro σ H Q ⟨R, Γ, S, F, P, E, g, sl, h, on, ox⟩
  refine ⟨R, Γ, S, F, _, E, g, sl, h, fun vs S1 F1 H1 xs g1 s1 r1 h1 => ?_, ox⟩
  cases q : allDat xs with
  | none => simp only [q] at h1
  | some ds =>
    simp only [q] at h1
    rw [allDat_eq q] at r1
    exact ⟨by rw [(dat_gvs r1).len]; exact h1.1, on_lst (on.go s1) g1 (dat_gvs r1) h1.2⟩
theorem ge_own (h : GA X W es gt) : GE X W (.List es pos) (gOwn gt) := by
  refine PE.imp (pe_lst h) ?_
  rintro σ H Q ⟨R, Γ, S, F, P, E, g, sl, h, on, ox⟩
  refine ⟨R, Γ, S, F, _, E, g, sl, h, fun vs S1 F1 H1 xs g1 s1 r1 h1 => ?_, ox⟩
  exact ⟨by rw [gvs_len r1]; exact h1.1, on_own (on.go s1) g1 r1 h1.2⟩
/-! slices -/
abbrev GRO := List (Option G) → Sto → (Option Int → Sto → Prop) → XP → Prop
def oNo : GRO := fun _ S P _ => P none S
def oAt (g : GR) : GRO := fun Γ S P E => g Γ S (fun x S1 => match x with
  | .dat (.int i) => P (some i) S1
  | _ => False) E
def tGO (K : PySem.W.Frag) (W : WX) (g : GRO) : TO := fun σ H Q => ∃ R Γ S F P E, GS K R S F H ∧ SL K F Γ σ ∧ g Γ S P E ∧ (∀ o S' F' H', GS K R S' F' H' → Up F F' → P o S' → Q o H') ∧ OnX K R F W σ E
abbrev GO (X : Cx) (W : WX) (e : Option Expr) (g : GRO) : Prop := PO X e (tGO X.K W g)
theorem PO.imp {e : Option Expr} {t t' : TO} (h : PO X e t) (w : ∀ σ H Q, t' σ H Q → t σ H Q) : PO X e t' := ⟨fun pins s σ H Q I q => h.run pins s σ H Q I (w _ _ _ q)⟩
theorem go_none : GO X W none oNo := by
  refine PO.imp po_none ?_
  rintro σ H Q ⟨R, Γ, S, F, P, E, g, sl, h, on, ox⟩
  exact on none S F H g (Up.refl _) h
theorem go_some (ha : GE X W a ga) : GO X W (some a) (oAt ga) := by
  refine PO.imp (po_some ha) ?_
  rintro σ H Q ⟨R, Γ, S, F, P, E, g, sl, h, on, ox⟩
  refine ⟨R, Γ, S, F, _, E, g, sl, h, fun v S1 F1 H1 x g1 s1 r1 h1 => ?_, ox⟩
  dsimp only at h1
  split at h1
  · rename_i i
    cases (show Rp X.K F1 v (.int i) from r1)
    exact ⟨i, rfl, on _ S1 F1 H1 g1 s1 h1⟩
  · exact h1.elim
abbrev RS := G → Option Int → Option Int → Sto → (G → Sto → Prop) → Prop
def sG (K : PySem.W.Frag) (r : RS) : V → Option Int → Option Int → Hp → VK → Prop := fun x lo hi H Q => ∃ R S F P gx, GS K R S F H ∧ GV K F x gx ∧ r gx lo hi S P ∧ On K R F P Q
def gSl (r : RS) (ga : GR) (lo hi : GRO) : GR := fun Γ S P E => ga Γ S (fun x S1 => lo Γ S1 (fun l S2 => hi Γ S2 (fun u S3 => r x l u S3 P) E) E) E
theorem ge_slice {r : RS} {lo hi : Option Expr} {gl gh : GRO} {p2} (hr : SlR X (sG X.K r)) (he : GE X W e ga) (hl : GO X W lo gl) (hh : GO X W hi gh) : GE X W (.Subscript e (.Slice lo hi none p2) pos) (gSl r ga gl gh) := by
  refine PE.imp (pe_slice hr he hl hh) ?_
  rintro σ H Q ⟨R, Γ, S, F, P, E, g, sl, h, on, ox⟩
  refine ⟨R, Γ, S, F, _, E, g, sl, h, fun v S1 F1 H1 x g1 s1 r1 h1 => ?_, ox⟩
  refine ⟨R, Γ, S1, F1, _, E, g1, sl.up s1, h1, fun l S2 F2 H2 g2 s2 h2 => ?_, ox.go s1⟩
  refine ⟨R, Γ, S2, F2, _, E, g2, sl.up (s1.trans s2), h2, fun u S3 F3 H3 g3 s3 h3 => ?_, ox.go (s1.trans s2)⟩
  exact ⟨R, S3, F3, P, x, g3, r1.up (s2.trans s3), h3, on.go ((s1.trans s2).trans s3)⟩
def cutA {α : Type} (xs : List α) (lo hi : Option Int) : List α := (xs.drop (HT.sIx xs.length 0 lo)).take (HT.sIx xs.length xs.length hi - HT.sIx xs.length 0 lo)
theorem RpAll.cut {F : Hp} {vs : List V} {ds : List D} (r : RpAll K F vs ds) (lo hi : Option Int) : RpAll K F (cutV vs lo hi) (cutA ds lo hi) := by
  unfold cutV cutA
  rw [r.len]
  exact (r.drop _).take _
def rSl_ : RS := fun x lo hi S P => match x with
  | .dat (.tup ds) => P (.dat (.tup (cutA ds lo hi))) S
  | .dat (.str z) => z.length ≤ sizeLine ∧ P (.dat (.str (Txt.slice z lo hi))) S
  | .dat (.ro ds) => P (.dat (.lst (cutA ds lo hi))) S
  | x => match dlst S x with
    | some ds => P (.dat (.lst (cutA ds lo hi))) S
    | none => False
theorem slg : SlR X (sG X.K rSl_) := by
  rintro pins s σ H x v vl vu lo hi sl Q I rx hs pl pu ⟨R, S, F, P, gx, g, hx, h, on⟩
  unfold rSl_ at h
  split at h
  · rename_i ds
    obtain ⟨p, xs, rfl, hp, rp⟩ := tup_of g hx (ds := ds) rfl
    refine sl_tupA pins s σ H _ v vl vu lo hi sl Q I rx hs pl pu ⟨p, xs, rfl, hp, fun hw => ?_, fun _ => on_tup on g (rp.cut lo hi) h⟩
    have e : cutA ds lo hi = ds := by
      unfold cutA
      rw [← rp.len, hw.1, hw.2, rp.len]
      simp
    rw [e] at h
    exact on.now g hx h
  · rename_i z
    cases (show Rp X.K F x (.str z) from hx)
    exact C8.sl_txt pins s σ H _ v vl vu lo hi sl Q I rx hs pl pu ⟨z, rfl, h.1, on.now g (x := .dat _) (.str _) h.2⟩
  · rename_i ds
    cases (show Rp X.K F x (.ro ds) from hx) with
    | ro h1 h2 => exact sl_list pins s σ H _ v vl vu lo hi sl Q I rx hs pl pu ⟨_, _, rfl, (Up.of g.sub).l h1, on_lst on g (h2.cut lo hi) h⟩
  · split at h
    · rename_i ds e
      obtain ⟨p, xs, rfl, hp, rp⟩ := dlst_of g hx e
      exact sl_list pins s σ H _ v vl vu lo hi sl Q I rx hs pl pu ⟨p, xs, rfl, .inl (.inl hp), on_lst on g (rp.cut lo hi) h⟩
    · exact h.elim
/-! built-ins -/
def rLen_ : RC := fun gs S P => match gs with
  | [x] => (match x with
    | .dat (.str z) => z.length ≤ sizeLine ∧ P (.dat (.int z.length)) S
    | x => match seqOf S x with
      | some xs => P (.dat (.int xs.length)) S
      | none => False)
  | _ => False
theorem gvs1 {F : Hp} {vs : List V} {x : G} (h : GVs K F vs [x]) : ∃ v, vs = [v] ∧ GV K F v x := by
  cases h with
  | cons h r => cases r; exact ⟨_, rfl, h⟩
theorem gvs2 {F : Hp} {vs : List V} {x y : G} (h : GVs K F vs [x, y]) : ∃ v w, vs = [v, w] ∧ GV K F v x ∧ GV K F w y := by
  cases h with
  | cons h r => obtain ⟨w, rfl, h2⟩ := gvs1 r; exact ⟨_, w, rfl, h, h2⟩
theorem crg_len : CallR X (.builtin "len") (cG X.K rLen_) := by
  rintro pins s σ H vs us Q I r ⟨R, S, F, P, gs, g, hv, h, on⟩
  unfold rLen_ at h
  split at h
  · rename_i x
    obtain ⟨v, rfl, hx⟩ := gvs1 hv
    split at h
    · rename_i z
      cases (show Rp X.K F v (.str z) from hx)
      exact call_len_str pins s σ H _ us Q I r ⟨z, rfl, h.1, on.now g (x := .dat _) (.int _) h.2⟩
    · split at h
      · rename_i xs e
        obtain ⟨a, ws, rfl, hq, rr⟩ := seq_of g hx e
        exact call_len_seq pins s σ H _ us Q I r ⟨a, ws, rfl, hq, on.now g (x := .dat (.int _)) (by rw [gvs_len rr]; exact .int _) h⟩
      · exact h.elim
  · exact h.elim
def rAbs_ : RC := fun gs S P => match gs with
  | [.dat (.int i)] => P (.dat (.int (if i < 0 then -i else i))) S
  | _ => False
theorem crg_abs : CallR X (.builtin "abs") (cG X.K rAbs_) := by
  rintro pins s σ H vs us Q I r ⟨R, S, F, P, gs, g, hv, h, on⟩
  unfold rAbs_ at h
  split at h
  · rename_i i
    obtain ⟨v, rfl, hx⟩ := gvs1 hv
    cases (show Rp X.K F v (.int i) from hx)
    exact call_abs pins s σ H _ us Q I r ⟨i, rfl, on.now g (x := .dat (.int _)) (.int _) h⟩
  · exact h.elim
def rInt_ : RC := fun gs S P => match gs with
  | [.dat (.int i)] => P (.dat (.int i)) S
  | [.dat (.bl b)] => P (.dat (.int (if b then 1 else 0))) S
  | _ => False
theorem crg_int : CallR X (.type "int") (cG X.K rInt_) := by
  rintro pins s σ H vs us Q I r ⟨R, S, F, P, gs, g, hv, h, on⟩
  unfold rInt_ at h
  split at h
  · rename_i i
    obtain ⟨v, rfl, hx⟩ := gvs1 hv
    cases (show Rp X.K F v (.int i) from hx)
    exact call_int1 pins s σ H _ us Q I r (.inl ⟨i, rfl, on.now g (x := .dat (.int _)) (.int _) h⟩)
  · rename_i b
    obtain ⟨v, rfl, hx⟩ := gvs1 hv
    cases (show Rp X.K F v (.bl b) from hx)
    exact call_int1 pins s σ H _ us Q I r (.inr ⟨b, rfl, on.now g (x := .dat (.int _)) (.int _) h⟩)
  · exact h.elim
/-- tuple(list), tuple(tuple) -/
def rTuple_ : RC := fun gs S P => match gs with
  | [.dat (.tup ds)] => P (.dat (.tup ds)) S
  | [x] => (match dlst S x with
    | some ds => P (.dat (.tup ds)) S
    | none => False)
  | _ => False
theorem crg_tuple : CallR X (.type "tuple") (cG X.K rTuple_) := by
  rintro pins s σ H vs us Q I r ⟨R, S, F, P, gs, g, hv, h, on⟩
  unfold rTuple_ at h
  split at h
  · rename_i ds
    obtain ⟨v, rfl, hx⟩ := gvs1 hv
    obtain ⟨p, xs, rfl, hp, rp⟩ := tup_of g hx (ds := ds) rfl
    exact call_tuple_of pins s σ H _ us Q I r ⟨p, xs, rfl, .inr ⟨hp, on.now g hx h⟩⟩
  · obtain ⟨v, rfl, hx⟩ := gvs1 hv
    split at h
    · rename_i ds e
      obtain ⟨p, xs, rfl, hp, rp⟩ := dlst_of g hx e
      exact call_tuple_of pins s σ H _ us Q I r ⟨p, xs, rfl, .inl ⟨.inl (.inl hp), on_tup on g rp h⟩⟩
    · exact h.elim
  · exact h.elim
/-- list(..): a list that is never changed; one that may be -/
def rList_ : RC := fun gs S P => match gs with
  | [x] => (match dseq S x with
    | some ds => P (.dat (.lst ds)) S
    | none => False)
  | _ => False
def rListO_ : RC := fun gs S P => match gs with
  | [x] => (match seqOf S x with
    | some xs => ∀ p, S p = none → P (.loc p) (sup S p (.lst xs))
    | none => False)
  | _ => False
theorem crg_list : CallR X (.type "list") (cG X.K rList_) := by
  rintro pins s σ H vs us Q I r ⟨R, S, F, P, gs, g, hv, h, on⟩
  unfold rList_ at h
  split at h
  · obtain ⟨v, rfl, hx⟩ := gvs1 hv
    split at h
    · rename_i ds e
      obtain ⟨p, xs, rfl, hp, rp⟩ := seq_of g hx (dseq_seq e)
      exact call_list_of pins s σ H _ us Q I r ⟨p, xs, rfl, hp, on_lst on g (dat_gvs rp) h⟩
    · exact h.elim
  · exact h.elim
theorem crg_listO : CallR X (.type "list") (cG X.K rListO_) := by
  rintro pins s σ H vs us Q I r ⟨R, S, F, P, gs, g, hv, h, on⟩
  unfold rListO_ at h
  split at h
  · obtain ⟨v, rfl, hx⟩ := gvs1 hv
    split at h
    · rename_i ds e
      obtain ⟨p, xs, rfl, hp, rp⟩ := seq_of g hx e
      exact call_list_of pins s σ H _ us Q I r ⟨p, xs, rfl, hp, on_own on g rp h⟩
    · exact h.elim
  · exact h.elim
def allBl : List D → Option (List Bool)
  | [] => some []
  | .bl b :: ds => (allBl ds).map (b :: ·)
  | _ => none
theorem allBl_map : ∀ bs : List Bool, allBl (bs.map D.bl) = some bs
  | [] => rfl
  | b :: bs => by
    show (allBl (bs.map D.bl)).map (b :: ·) = _
    rw [allBl_map bs]
    rfl
theorem allBl_of {F : Hp} : ∀ {ds : List D} {bs : List Bool} {vs : List V}, allBl ds = some bs → RpAll K F vs ds → vs = bs.map V.bl
  | [], _, _, e, .nil => by cases (show some [] = some _ from e); rfl
  | d :: ds, bs, _, e, .cons h r => by
    cases d with
    | bl b =>
      have e : (allBl ds).map (b :: ·) = some bs := e
      cases q : allBl ds with
      | none => rw [q] at e; cases e
      | some cs => rw [q] at e; cases e; cases h; rw [allBl_of q r]; rfl
    | _ => exact nomatch (show none = some _ from e)
def rAll_ : RC := fun gs S P => match gs with
  | [x] => (match (dlst S x).bind allBl with
    | some bs => P (.dat (.bl (bs.all id))) S
    | none => False)
  | _ => False
def rAny_ : RC := fun gs S P => match gs with
  | [x] => (match (dlst S x).bind allBl with
    | some bs => P (.dat (.bl (bs.any id))) S
    | none => False)
  | _ => False
theorem crg_all (hc : X.calm = true) : CallR X (.builtin "all") (cG X.K rAll_) := by
  rintro pins s σ H vs us Q I r ⟨R, S, F, P, gs, g, hv, h, on⟩
  unfold rAll_ at h
  split at h
  · obtain ⟨v, rfl, hx⟩ := gvs1 hv
    split at h
    · rename_i bs e
      obtain ⟨ds, e1, e2⟩ := Option.bind_eq_some_iff.mp e
      obtain ⟨p, xs, rfl, hp, rp⟩ := dlst_of g hx e1
      have := allBl_of e2 rp
      subst this
      exact cr_all hc pins s σ H _ us Q I r ⟨p, bs, rfl, .inl (.inl hp), on.now g (x := .dat (.bl _)) (.bl _) h⟩
    · exact h.elim
  · exact h.elim
theorem crg_any (hc : X.calm = true) : CallR X (.builtin "any") (cG X.K rAny_) := by
  rintro pins s σ H vs us Q I r ⟨R, S, F, P, gs, g, hv, h, on⟩
  unfold rAny_ at h
  split at h
  · obtain ⟨v, rfl, hx⟩ := gvs1 hv
    split at h
    · rename_i bs e
      obtain ⟨ds, e1, e2⟩ := Option.bind_eq_some_iff.mp e
      obtain ⟨p, xs, rfl, hp, rp⟩ := dlst_of g hx e1
      have := allBl_of e2 rp
      subst this
      exact cr_any hc pins s σ H _ us Q I r ⟨p, bs, rfl, .inl (.inl hp), on.now g (x := .dat (.bl _)) (.bl _) h⟩
    · exact h.elim
  · exact h.elim
/-- repr of data -/
def rRepr_ : RC := fun gs S P => match gs with
  | [x] => (match vw S x with
    | some d => (d.showable = true ∧ d.hasDict = false ∧ d.depth ≤ 60 ∧ d.shown.length ≤ sizeLine) ∧ P (.dat (.str d.shown)) S
    | none => False)
  | _ => False
theorem crg_repr (quiet : Quiet X.A) (hu : X.A.units + 70 < cLine) : CallR X (.builtin "repr") (cG X.K rRepr_) := by
  rintro pins s σ H vs us Q I r ⟨R, S, F, P, gs, g, hv, h, on⟩
  unfold rRepr_ at h
  split at h
  · obtain ⟨v, rfl, hx⟩ := gvs1 hv
    split at h
    · rename_i d e
      obtain ⟨⟨h1, h2, h3, h4⟩, h5⟩ := h
      exact cr_repr quiet hu pins s σ H _ us Q I r ⟨v, d, rfl, vw_of g hx e, h1, h2, h3, h4, on.now g (x := .dat (.str _)) (.str _) h5⟩
    · exact h.elim
  · exact h.elim
end
end LN

namespace LN
open PySem PySem.Spec PyProof.Rows L2

/-! what is changed no more -/
def sdel (S : Sto) (a : Addr) : Sto := fun b => if b = a then none else S b
theorem sdel_same {S : Sto} {a : Addr} : sdel S a a = none := if_pos rfl
theorem sdel_ne {S : Sto} {a b : Addr} (h : b ≠ a) : sdel S a b = S b := if_neg h
theorem sub_del (S : Sto) (a : Addr) : Sub (sdel S a) S := fun b o e => by
  by_cases h : b = a
  · rw [h, sdel_same] at e; cases e
  · rw [sdel_ne h] at e; exact e
theorem sdel_sup {S : Sto} {a : Addr} {o : O} (h : S a = none) : sdel (sup S a o) a = S := by
  funext b
  by_cases hb : b = a
  · rw [hb, sdel_same, h]
  · rw [sdel_ne hb, sup_ne hb]
mutual
inductive FZ : Sto → G → D → Sto → Prop
  | dat {S : Sto} {d : D} : FZ S (.dat d) d S
  | lst {S S' : Sto} {a : Addr} {gs : List G} {ds : List D} : S a = some (.lst gs) → FZs (sdel S a) gs ds S' → FZ S (.loc a) (.lst ds) S'
  | dct {S S' : Sto} {a : Addr} {gs : List (List L2.Key × G)} {ds : List (List L2.Key × D)} : S a = some (.dct gs) → FZk (sdel S a) gs ds S' → FZ S (.loc a) (.dct ds) S'
  | ins {S S' : Sto} {a C : Addr} {gs : List (Str × G)} {ds : List (Str × D)} : S a = some (.ins C gs) → FZf (sdel S a) gs ds S' → FZ S (.loc a) (.obj C ds) S'
inductive FZs : Sto → List G → List D → Sto → Prop
  | nil {S : Sto} : FZs S [] [] S
  | cons {S S1 S2 : Sto} {g : G} {d : D} {gs : List G} {ds : List D} : FZ S g d S1 → FZs S1 gs ds S2 → FZs S (g :: gs) (d :: ds) S2
inductive FZk : Sto → List (List L2.Key × G) → List (List L2.Key × D) → Sto → Prop
  | nil {S : Sto} : FZk S [] [] S
  | cons {S S1 S2 : Sto} {k : List L2.Key} {g : G} {d : D} {gs : List (List L2.Key × G)} {ds : List (List L2.Key × D)} : FZ S g d S1 → FZk S1 gs ds S2 → FZk S ((k, g) :: gs) ((k, d) :: ds) S2
inductive FZf : Sto → List (Str × G) → List (Str × D) → Sto → Prop
  | nil {S : Sto} : FZf S [] [] S
  | cons {S S1 S2 : Sto} {k : Str} {g : G} {d : D} {gs : List (Str × G)} {ds : List (Str × D)} : FZ S g d S1 → FZf S1 gs ds S2 → FZf S ((k, g) :: gs) ((k, d) :: ds) S2
end
theorem FZs.all {S : Sto} : ∀ {gs : List G} {ds : List D}, allDat gs = some ds → FZs S gs ds S
  | [], _, e => by cases (show some [] = some _ from e); exact .nil
  | .dat d :: gs, ds, e => by
    have e : (allDat gs).map (d :: ·) = some ds := e
    cases q : allDat gs with
    | none => rw [q] at e; cases e
    | some es => rw [q] at e; cases e; exact .cons .dat (FZs.all q)
  | .loc _ :: _, _, e => nomatch (show none = some _ from e)
theorem FZs.dats {S : Sto} (ds : List D) : FZs S (ds.map .dat) ds S := FZs.all (allDat_map ds)
/-- a list of data, changed no more -/
theorem FZ.l {S : Sto} {a : Addr} {gs : List G} {ds : List D} (e : S a = some (.lst gs)) (q : allDat gs = some ds) : FZ S (.loc a) (.lst ds) (sdel S a) := .lst e (FZs.all q)

section
variable {K : PySem.W.Frag} {R F F' H H' : Hp} {S S' : Sto}
/-- an object is kept aside -/
theorem GS.tuck (g : GS K R S F H) {a : Addr} {u : O} {o : HO} (e : S a = some u) (h : H a = some o) : GS K (upd R a o) (sdel S a) F H ∧ R a = none := by
  have f := (g.obj _ _ e).1
  have r : R a = none := by
    cases q : R a with
    | none => rfl
    | some y => rw [(g.rem _ _ q).2.2] at e; cases e
  refine ⟨⟨g.sub, fun b y q => ?_, fun b y q => (g.obj _ _ (sub_del _ _ _ _ q)), rt_upd g.rtup (fun xs z => (g.obj _ _ e).2.notup xs (z ▸ h))⟩, r⟩
  by_cases n : b = a
  · subst n; rw [upd_same] at q; cases q; exact ⟨h, f, sdel_same⟩
  · rw [upd_ne n] at q
    rw [sdel_ne n]
    exact g.rem _ _ q
mutual
theorem FZ.run {K : PySem.W.Frag} {H : Hp} : ∀ {S S' : Sto} {x : G} {d : D}, FZ S x d S' → ∀ {R F : Hp}, GS K R S F H → ∃ F', GS K R S' F' H ∧ Up F F' ∧ ∀ v, GV K F v x → Rp K F' v d
  | _, _, _, _, .dat, _, _, g => ⟨_, g, Up.refl _, fun _ r => r⟩
  | _, _, _, _, .lst e q, _, _, g => by
    obtain ⟨f, vs, h, r⟩ := g.obj _ _ e
    obtain ⟨g1, nR⟩ := g.tuck e h
    obtain ⟨F1, g2, s1, w⟩ := q.run g1
    obtain ⟨g3, s2⟩ := g2.showF nR
    refine ⟨_, g3, s1.trans s2, fun v rv => ?_⟩
    obtain rfl := rv
    exact .lst upd_same ((w _ r).up s2)
  | _, _, _, _, .dct e q, _, _, g => by
    obtain ⟨f, vs, h, r⟩ := g.obj _ _ e
    obtain ⟨g1, nR⟩ := g.tuck e h
    obtain ⟨F1, g2, s1, w⟩ := q.run g1
    obtain ⟨g3, s2⟩ := g2.showF nR
    refine ⟨_, g3, s1.trans s2, fun v rv => ?_⟩
    obtain rfl := rv
    exact .dct (.inl upd_same) ((w _ r).up s2)
  | _, _, _, _, .ins e q, _, _, g => by
    obtain ⟨f, dx, vs, h, r⟩ := g.obj _ _ e
    obtain ⟨g1, nR⟩ := g.tuck e h
    obtain ⟨F1, g2, s1, w⟩ := q.run g1
    obtain ⟨g3, s2⟩ := g2.showF nR
    refine ⟨_, g3, s1.trans s2, fun v rv => ?_⟩
    obtain rfl := rv
    exact .obj upd_same ((w _ r).up s2)
theorem FZs.run {K : PySem.W.Frag} {H : Hp} : ∀ {S S' : Sto} {xs : List G} {ds : List D}, FZs S xs ds S' → ∀ {R F : Hp}, GS K R S F H → ∃ F', GS K R S' F' H ∧ Up F F' ∧ ∀ vs, GVs K F vs xs → RpAll K F' vs ds
  | _, _, _, _, .nil, _, _, g => ⟨_, g, Up.refl _, fun _ r => by cases r; exact .nil⟩
  | _, _, _, _, .cons p q, _, _, g => by
    obtain ⟨F1, g1, s1, w1⟩ := p.run g
    obtain ⟨F2, g2, s2, w2⟩ := q.run g1
    refine ⟨F2, g2, s1.trans s2, fun vs r => ?_⟩
    cases r with
    | cons h t => exact .cons ((w1 _ h).up s2) (w2 _ (GVs.up s1 t))
theorem FZk.run {K : PySem.W.Frag} {H : Hp} : ∀ {S S' : Sto} {xs : List (List L2.Key × G)} {ds : List (List L2.Key × D)}, FZk S xs ds S' → ∀ {R F : Hp}, GS K R S F H → ∃ F', GS K R S' F' H ∧ Up F F' ∧ ∀ vs, GKs K F vs xs → RpKv K F' vs ds
  | _, _, _, _, .nil, _, _, g => ⟨_, g, Up.refl _, fun _ r => by cases r; exact .nil⟩
  | _, _, _, _, .cons p q, _, _, g => by
    obtain ⟨F1, g1, s1, w1⟩ := p.run g
    obtain ⟨F2, g2, s2, w2⟩ := q.run g1
    refine ⟨F2, g2, s1.trans s2, fun vs r => ?_⟩
    cases r with
    | @cons k _ _ _ h t =>
      obtain ⟨k', v⟩ := k
      obtain ⟨h1, h2⟩ := h
      simp only at h1 h2
      subst h1
      exact .cons ((w1 _ h2).up s2) (w2 _ (Paired.mapP t fun _ _ z => ⟨z.1, z.2.up s1⟩))
theorem FZf.run {K : PySem.W.Frag} {H : Hp} : ∀ {S S' : Sto} {xs : List (Str × G)} {ds : List (Str × D)}, FZf S xs ds S' → ∀ {R F : Hp}, GS K R S F H → ∃ F', GS K R S' F' H ∧ Up F F' ∧ ∀ vs, GFs K F vs xs → RpFs K F' vs ds
  | _, _, _, _, .nil, _, _, g => ⟨_, g, Up.refl _, fun _ r => by cases r; exact .nil⟩
  | _, _, _, _, .cons p q, _, _, g => by
    obtain ⟨F1, g1, s1, w1⟩ := p.run g
    obtain ⟨F2, g2, s2, w2⟩ := q.run g1
    refine ⟨F2, g2, s1.trans s2, fun vs r => ?_⟩
    cases r with
    | @cons k _ _ _ h t =>
      obtain ⟨k', v⟩ := k
      obtain ⟨h1, h2⟩ := h
      simp only at h1 h2
      subst h1
      exact .cons ((w1 _ h2).up s2) (w2 _ (Paired.mapP t fun _ _ z => ⟨z.1, z.2.up s1⟩))
end
end

/-! what comes behind a statement -/
structure GEnds where
  nx : List (Option G) → Sto → Prop
  rt : G → Sto → Prop
  bk : List (Option G) → Sto → Prop := fun _ _ => False
  ct : List (Option G) → Sto → Prop := fun _ _ => False
  xr : Addr → List (Str × D) → List (Option G) → Sto → Prop := fun _ _ _ _ => False
abbrev GRS := GEnds → List (Option G) → Sto → Prop
def OnS (K : PySem.W.Frag) (R F : Hp) (P : List (Option G) → Sto → Prop) (Q : L2.St → Hp → Prop) : Prop :=
  ∀ (Γ' : List (Option G)) (S' : Sto) (F' H' : Hp) (σ' : L2.St), GS K R S' F' H' → SL K F' Γ' σ' → Up F F' → P Γ' S' → Q σ' H'
def OnXS (K : PySem.W.Frag) (R F : Hp) (P : Addr → List (Str × D) → List (Option G) → Sto → Prop) (W : WX) : Prop :=
  ∀ (C : Addr) (od : Option Addr) (gs : List (Str × D)) (Γ' : List (Option G)) (S' : Sto) (F' H' : Hp) (σ' : L2.St), GS K R S' F' H' → SL K F' Γ' σ' → Up F F' → XF K F' od gs → P C gs Γ' S' → W (.ref C) od σ' H'
structure OnE (K : PySem.W.Frag) (W : WX) (R F : Hp) (d : GEnds) (D : Ends) : Prop where
  nx : OnS K R F d.nx D.nx
  rt : On K R F d.rt D.rt
  bk : OnS K R F d.bk D.bk
  ct : OnS K R F d.ct D.ct
  xr : OnXS K R F d.xr W
def tGS (K : PySem.W.Frag) (W : WX) (t : GRS) : TS := fun D σ H => ∃ R Γ S F d, GS K R S F H ∧ SL K F Γ σ ∧ t d Γ S ∧ OnE K W R F d D
abbrev GSt (X : Cx) (W : WX) (st : Stmt) (t : GRS) : Prop := PS X st (tGS X.K W t)
abbrev GSs (X : Cx) (W : WX) (st : List Stmt) (t : GRS) : Prop := PSs X st (tGS X.K W t)
/-- what an expression that raises leads to -/
abbrev GEnds.ex (d : GEnds) (Γ : List (Option G)) : XP := fun C gs S => d.xr C gs Γ S
section
variable {X : Cx} {K : PySem.W.Frag} {W : WX} {st : Stmt} {sts rest : List Stmt} {t u : GRS} {e : Expr} {ga : GR} {pos : Pos} {R F F' : Hp}
theorem PS.imp {t t' : TS} (h : PS X st t) (w : ∀ D σ H, t' D σ H → t D σ H) : PS X st t' := ⟨fun pins s σ H D I q => h.run pins s σ H D I (w _ _ _ q)⟩
theorem PSs.imp {t t' : TS} (h : PSs X sts t) (w : ∀ D σ H, t' D σ H → t D σ H) : PSs X sts t' := ⟨fun pins s σ H D I q => h.run pins s σ H D I (w _ _ _ q)⟩
theorem OnS.go {P : List (Option G) → Sto → Prop} {Q : L2.St → Hp → Prop} (h : OnS K R F P Q) (s : Up F F') : OnS K R F' P Q := fun Γ S G H σ g sl s' => h Γ S G H σ g sl (s.trans s')
theorem OnXS.go {P : Addr → List (Str × D) → List (Option G) → Sto → Prop} (h : OnXS K R F P W) (s : Up F F') : OnXS K R F' P W := fun C od gs Γ S G H σ g sl s' => h C od gs Γ S G H σ g sl (s.trans s')
theorem OnE.go {d : GEnds} {D : Ends} (on : OnE K W R F d D) (s : Up F F') : OnE K W R F' d D := ⟨on.nx.go s, on.rt.go s, on.bk.go s, on.ct.go s, on.xr.go s⟩
theorem OnE.next {d : GEnds} {D : Ends} {p : List (Option G) → Sto → Prop} {q : L2.St → Hp → Prop} (on : OnE K W R F d D) (h : OnS K R F p q) : OnE K W R F { d with nx := p } { D with nx := q } := ⟨h, on.rt, on.bk, on.ct, on.xr⟩
theorem OnE.ex {d : GEnds} {D : Ends} (on : OnE K W R F d D) {Γ : List (Option G)} {σ : L2.St} (sl : SL K F Γ σ) : OnX K R F W σ (d.ex Γ) := fun C od gs S' F' H' g' s' x' h' => on.xr C od gs Γ S' F' H' σ g' (sl.up s') s' x' h'

/-! ghost steps: what is known is put otherwise, nothing happens -/
inductive Gh : List (Option G) → Sto → List (Option G) → Sto → Prop
  | refl {Γ S} : Gh Γ S Γ S
  | weak {Γ : List (Option G)} {S S' : Sto} : Sub S' S → Gh Γ S Γ S'
  | frz {Γ : List (Option G)} {S S' : Sto} {i : Nat} {x : G} {d : D} : nth Γ i = some x → FZ S x d S' → Gh Γ S (Γ.set i (some (.dat d))) S'
  | forget {Γ : List (Option G)} {S : Sto} {i : Nat} : Gh Γ S (Γ.set i none) S
  | trans {Γ Γ1 Γ2 S S1 S2} : Gh Γ S Γ1 S1 → Gh Γ1 S1 Γ2 S2 → Gh Γ S Γ2 S2
theorem set_id {α : Type} {σ : List α} {i : Nat} {x : α} (e : σ[i]? = some x) : σ.set i x = σ := by
  apply List.ext_getElem?
  intro j
  by_cases hj : i = j
  · subst hj
    obtain ⟨hi, _⟩ := List.getElem?_eq_some_iff.mp e
    rw [List.getElem?_set_self hi, e]
  · rw [List.getElem?_set_ne hj]
theorem Gh.run {Γ Γ' : List (Option G)} {S S' : Sto} (h : Gh Γ S Γ' S') : ∀ {R F H : Hp} {σ : L2.St}, GS K R S F H → SL K F Γ σ → ∃ F', GS K R S' F' H ∧ SL K F' Γ' σ ∧ Up F F' := by
  induction h with
  | refl => exact fun g sl => ⟨_, g, sl, Up.refl _⟩
  | weak s => exact fun g sl => ⟨_, g.weak s, sl, Up.refl _⟩
  | @frz Γ S S' i x d h0 h1 =>
    intro R F H σ g sl
    obtain ⟨v, e1, r⟩ := sl.at_ i _ (nth_at h0)
    obtain ⟨F', g', s', w'⟩ := h1.run g
    refine ⟨F', g', ?_, s'⟩
    have := (sl.up s').set (i := i) (v := v) (g := .dat d) (w' _ r)
    rw [set_id e1] at this
    exact this
  | @forget Γ S i =>
    intro R F H σ g sl
    refine ⟨F, g, ⟨by rw [List.length_set]; exact sl.len, fun j x e => ?_⟩, Up.refl _⟩
    by_cases hj : i = j
    · subst hj
      have hi : i < Γ.length := by
        obtain ⟨hi, _⟩ := List.getElem?_eq_some_iff.mp e
        simpa using hi
      rw [List.getElem?_set_self hi] at e
      cases e
    · rw [List.getElem?_set_ne hj] at e
      exact sl.at_ j x e
  | trans _ _ i1 i2 =>
    intro R F H σ g sl
    obtain ⟨F1, g1, sl1, s1⟩ := i1 g sl
    obtain ⟨F2, g2, sl2, s2⟩ := i2 g1 sl1
    exact ⟨F2, g2, sl2, s1.trans s2⟩

/-! blocks -/
/-- the rest, not yet opened -/
def Later (u : GRS) : GRS := u
theorem Later.go {d : GEnds} {Γ : List (Option G)} {S : Sto} (h : u d Γ S) : Later u d Γ S := h
def gNext : GRS := fun d Γ S => d.nx Γ S
def gSeq (t u : GRS) : GRS := fun d Γ S => t { d with nx := fun Γ' S' => Later u d Γ' S' } Γ S
/-- a ghost step ahead of a block -/
def gGh (u : GRS) : GRS := fun d Γ S => ∃ Γ' S', Gh Γ S Γ' S' ∧ u d Γ' S'
theorem gss_nil : GSs X W [] gNext := by
  refine PSs.imp pss_nil ?_
  rintro D σ H ⟨R, Γ, S, F, d, g, sl, h, on⟩
  exact on.nx Γ S F H σ g sl (Up.refl _) h
theorem gss_cons (h1 : GSt X W st t) (h2 : GSs X W rest u) : GSs X W (st :: rest) (gSeq t u) := by
  refine PSs.imp (pss_cons h1 h2) ?_
  rintro D σ H ⟨R, Γ, S, F, d, g, sl, h, on⟩
  exact ⟨R, Γ, S, F, _, g, sl, h, on.next fun Γ' S' F' H' σ' g' sl' s' h' => ⟨R, Γ', S', F', d, g', sl', h', on.go s'⟩⟩
theorem gss_gh (h : GSs X W sts u) : GSs X W sts (gGh u) := by
  refine PSs.imp h ?_
  rintro D σ H ⟨R, Γ, S, F, d, g, sl, ⟨Γ', S', gh, h⟩, on⟩
  obtain ⟨F', g', sl', s'⟩ := gh.run g sl
  exact ⟨R, Γ', S', F', d, g', sl', h, on.go s'⟩
theorem gss_one (h1 : GSt X W st t) : GSs X W [st] t := pss_one h1
/-- a cut: what holds behind the first statement -/
def gCut (t u : GRS) : GRS := fun d Γ S => ∃ Mid : List (Option G) → Sto → Prop, t { d with nx := fun Γ' S' => ∃ Γ2 S2, Gh Γ' S' Γ2 S2 ∧ Mid Γ2 S2 } Γ S ∧ ∀ Γ' S', Mid Γ' S' → Later u d Γ' S'
theorem gss_cut (h1 : GSt X W st t) (h2 : GSs X W rest u) : GSs X W (st :: rest) (gCut t u) := by
  refine PSs.imp (pss_cons h1 h2) ?_
  rintro D σ H ⟨R, Γ, S, F, d, g, sl, ⟨M, h, hm⟩, on⟩
  refine ⟨R, Γ, S, F, _, g, sl, h, on.next fun Γ' S' F' H' σ' g' sl' s' h' => ?_⟩
  obtain ⟨Γ2, S2, gh, h2⟩ := h'
  obtain ⟨F2, g2, sl2, s2⟩ := gh.run g' sl'
  exact ⟨R, Γ2, S2, F2, d, g2, sl2, hm _ _ h2, on.go (s'.trans s2)⟩
theorem cut_thru {d : GEnds} {Γ : List (Option G)} {S : Sto} (h : t { d with nx := fun Γ' S' => ∃ Γ2 S2, Gh Γ' S' Γ2 S2 ∧ Later u d Γ2 S2 } Γ S) : gCut t u d Γ S := ⟨_, h, fun _ _ q => q⟩
/-! small statements -/
def gPass : GRS := gNext
theorem gs_pass : GSt X W (.Pass pos) gPass := by
  refine PS.imp ps_pass ?_
  rintro D σ H ⟨R, Γ, S, F, d, g, sl, h, on⟩
  exact on.nx Γ S F H σ g sl (Up.refl _) h
def gBreak : GRS := fun d Γ S => d.bk Γ S
def gCont : GRS := fun d Γ S => d.ct Γ S
theorem gs_break : GSt X W (.Break pos) gBreak := by
  refine PS.imp ps_break ?_
  rintro D σ H ⟨R, Γ, S, F, d, g, sl, h, on⟩
  exact on.bk Γ S F H σ g sl (Up.refl _) h
theorem gs_cont : GSt X W (.Continue pos) gCont := by
  refine PS.imp ps_continue ?_
  rintro D σ H ⟨R, Γ, S, F, d, g, sl, h, on⟩
  exact on.ct Γ S F H σ g sl (Up.refl _) h
def gDrop (ga : GR) : GRS := fun d Γ S => ga Γ S (fun _ S1 => d.nx Γ S1) (d.ex Γ)
theorem gs_expr (he : GE X W e ga) (hs : swapsWith e none pos.line X.env = pure false := by rfl) : GSt X W (.Expr e pos) (gDrop ga) := by
  refine PS.imp (ps_expr he hs) ?_
  rintro D σ H ⟨R, Γ, S, F, d, g, sl, h, on⟩
  exact ⟨R, Γ, S, F, _, _, g, sl, h, fun v S1 F1 H1 x g1 s1 r1 h1 => on.nx Γ S1 F1 H1 σ g1 (sl.up s1) s1 h1, on.ex sl⟩
def gRet (ga : GR) : GRS := fun d Γ S => ga Γ S d.rt (d.ex Γ)
theorem gs_ret (he : GE X W e ga) : GSt X W (.Return (some e) pos) (gRet ga) := by
  refine PS.imp (ps_ret he) ?_
  rintro D σ H ⟨R, Γ, S, F, d, g, sl, h, on⟩
  exact ⟨R, Γ, S, F, _, _, g, sl, h, on.rt, on.ex sl⟩
def gRetN : GRS := fun d _ S => d.rt (.dat .non) S
theorem gs_retN : GSt X W (.Return none pos) gRetN := by
  refine PS.imp ps_retN ?_
  rintro D σ H ⟨R, Γ, S, F, d, g, sl, h, on⟩
  exact on.rt.now g (x := .dat .non) .non h
def gIfS (c : GRB) (t u : GRS) : GRS := fun d Γ S => c Γ S (fun b S1 => if b = true then t d Γ S1 else u d Γ S1) (d.ex Γ)
theorem gs_if {c : Expr} {a b : List Stmt} {gc : GRB} (hc : GT X W c gc) (ha : GSs X W a t) (hb : GSs X W b u) : GSt X W (.If c a b pos) (gIfS gc t u) := by
  refine PS.imp (ps_if hc ha hb) ?_
  rintro D σ H ⟨R, Γ, S, F, d, g, sl, h, on⟩
  refine ⟨R, Γ, S, F, _, _, g, sl, h, fun k S1 F1 H1 g1 s1 h1 => ?_, on.ex sl⟩
  cases k with
  | true => exact iteT ⟨R, Γ, S1, F1, d, g1, sl.up s1, h1, on.go s1⟩
  | false => exact iteF ⟨R, Γ, S1, F1, d, g1, sl.up s1, h1, on.go s1⟩
def gNever : GRS := fun _ _ _ => False
theorem gs_never : GSt X W st gNever := by
  refine PS.imp (t := tNever) ps_never ?_
  rintro D σ H ⟨R, Γ, S, F, d, g, sl, h, on⟩
  exact h
theorem gss_never : GSs X W sts gNever := by
  refine PSs.imp (t := tNever) pss_never ?_
  rintro D σ H ⟨R, Γ, S, F, d, g, sl, h, on⟩
  exact h
/-! targets -/
abbrev GRT := G → List (Option G) → Sto → (List (Option G) → Sto → Prop) → Prop
def tGG (K : PySem.W.Frag) (t : GRT) : TG := fun v σ H Q => ∃ R Γ S F P x, GS K R S F H ∧ SL K F Γ σ ∧ GV K F v x ∧ t x Γ S P ∧ OnS K R F P Q
abbrev GG (X : Cx) (tg : Expr) (t : GRT) : Prop := PG X tg (tGG X.K t)
theorem PG.imp {tg : Expr} {t t' : TG} (h : PG X tg t) (w : ∀ v σ H Q, t' v σ H Q → t v σ H Q) : PG X tg t' := ⟨fun pins s σ H v u Q I r q => h.run pins s σ H v u Q I r (w _ _ _ _ q)⟩
def gNm (i : Nat) : GRT := fun x Γ S P => P (Γ.set i (some x)) S
theorem gg_name {i : Nat} {x : Str} (hN : X.N.Nodup) (hi : X.N[i]? = some x) (hx : Loc X.env.scope x) (hf : X.fn x = true ∨ X.env.scope.names.lookup x = some .local := by first | exact .inl rfl | exact .inr rfl | assumption) : GG X (.Name x pos) (gNm i) := by
  refine PG.imp (pg_name hN hi hx hf) ?_
  rintro v σ H Q ⟨R, Γ, S, F, P, x, g, sl, r, h, on⟩
  exact on _ S F H _ g (sl.set r) (Up.refl _) h
/-- the names of a tuple target, by their slots -/
def setAll : List Nat → List G → List (Option G) → List (Option G)
  | i :: is, x :: xs, Γ => setAll is xs (Γ.set i (some x))
  | _, _, Γ => Γ
def gTs (is : List Nat) : GRT := fun x Γ S P => match tupOf x with
  | some ds => ds.length = is.length ∧ P (setAll is (ds.map .dat) Γ) S
  | none => False
def gNms : List Nat → TGs
  | [] => L2.gNil
  | i :: is => L2.gCons (gName i) (gNms is)
theorem nms_run {S : Sto} {H : Hp} {P : List (Option G) → Sto → Prop} {Q : L2.St → Hp → Prop} (g : GS K R S F H) (on : OnS K R F P Q) : ∀ {is : List Nat} {vs : List V} {ds : List D} {Γ : List (Option G)} {σ : L2.St}, SL K F Γ σ → RpAll K F vs ds → ds.length = is.length → P (setAll is (ds.map .dat) Γ) S → gNms is vs σ H Q
  | [], _, _, Γ, σ, sl, .nil, _, h => ⟨rfl, on Γ S F H σ g sl (Up.refl _) h⟩
  | i :: is, _, _, Γ, σ, sl, .cons (d := d) r rs, hl, h => ⟨_, _, rfl, nms_run g on (sl.set (g := .dat d) r) rs (by simpa using hl) h⟩
theorem gg_tup {es : List Expr} {k : Nat} {is : List Nat} (hc : X.calm = true) (h : PGs X es (gNms is)) (hn : (assignEach es X.env).length = is.length := by rfl) (hst : (assignEach es X.env).findIdx? (·.1) = none := by rfl) : GG X (.Tuple es k pos) (gTs is) := by
  refine PG.imp (pg_tup hc h hn hst) ?_
  rintro v σ H Q ⟨R, Γ, S, F, P, x, g, sl, r, h, on⟩
  unfold gTs at h
  split at h
  · rename_i ds q
    obtain ⟨a, vs, rfl, h1, h2⟩ := tup_of g r q
    exact ⟨a, vs, rfl, h1, by rw [h2.len]; exact h.1, nms_run g on sl h2 h.1 h.2⟩
  · exact h.elim
/-! stores -/
def gAsg (ga : GR) (t : GRT) : GRS := fun d Γ S => ga Γ S (fun x S1 => t x Γ S1 d.nx) (d.ex Γ)
theorem tgs_asg {ga : GR} {t : GRT} {D : Ends} {σ : L2.St} {H : Hp} (h : tGS K W (gAsg ga t) D σ H) : tAsg (tG K W ga) (tGG K t) D σ H := by
  obtain ⟨R, Γ, S, F, d, g, sl, h, on⟩ := h
  refine ⟨R, Γ, S, F, _, _, g, sl, h, fun v S1 F1 H1 x g1 s1 r1 h1 => ?_, on.ex sl⟩
  exact ⟨R, Γ, S1, F1, _, x, g1, sl.up s1, r1, h1, on.nx.go s1⟩
theorem gs_set {i : Nat} {x : Str} {pos' : Pos} (hN : X.N.Nodup) (hi : X.N[i]? = some x) (hx : Loc X.env.scope x) (he : GE X W e ga) (hs : swapsWith e (some (.Name x pos')) pos.line X.env = pure false := by rfl) (hf : X.fn x = true ∨ X.env.scope.names.lookup x = some .local := by first | exact .inl rfl | exact .inr rfl | assumption) :
    GSt X W (.Assign [.Name x pos'] e pos) (gAsg ga (gNm i)) := by
  refine PS.imp (ps_set hN hi hx he hs hf) ?_
  rintro D σ H ⟨R, Γ, S, F, d, g, sl, h, on⟩
  refine ⟨R, Γ, S, F, _, _, g, sl, h, fun v S1 F1 H1 x g1 s1 r1 h1 => ?_, on.ex sl⟩
  exact on.nx _ S1 F1 H1 _ g1 ((sl.up s1).set r1) s1 h1
theorem gs_asg {tg : Expr} {t : GRT} (he : GE X W e ga) (hg : GG X tg t) (hs : swapsWithSole [tg] e pos.line X.env = pure false := by rfl) (hw : swappedStores [tg] e X.env = pure none := by rfl)
    (h1 : (assignEach [tg] X.env).map (·.2) = [assign tg X.env] := by rfl) : GSt X W (.Assign [tg] e pos) (gAsg ga t) := PS.imp (ps_asg he hg hs hw h1) fun _ _ _ => tgs_asg
/-- a, b = x, y -/
def gPar (i j : Nat) (ga : GRA) : GRS := fun d Γ S => ga Γ S (fun gs S1 => match gs with
  | [x, y] => d.nx ((Γ.set i (some x)).set j (some y)) S1
  | _ => False) (d.ex Γ)
theorem gs_par {i j : Nat} {x y : Str} {a b : Expr} {ga : GRA} {px py pt : Pos} {kt k2 pt2} (hc : X.calm = true) (hN : X.N.Nodup) (hi : X.N[i]? = some x) (hj : X.N[j]? = some y) (hij : i ≠ j)
    (hx : X.env.scope.names.lookup x = some .local) (hy : X.env.scope.names.lookup y = some .local) (ha : GA X W [a, b] ga)
    (hw : swappedStores [.Tuple [.Name x px, .Name y py] kt pt] (.Tuple [a, b] k2 pt2) X.env = pure (some [x, y]))
    (hs : swapsWithSole [.Tuple [.Name x px, .Name y py] kt pt] (.Tuple [a, b] k2 pt2) pos.line X.env = pure false := by rfl) :
    GSt X W (.Assign [.Tuple [.Name x px, .Name y py] kt pt] (.Tuple [a, b] k2 pt2) pos) (gPar i j ga) := by
  refine PS.imp (ps_par hc hN hi hj hij hx hy ha hw hs) ?_
  rintro D σ H ⟨R, Γ, S, F, d, g, sl, h, on⟩
  refine ⟨R, Γ, S, F, _, _, g, sl, h, fun vs S1 F1 H1 xs g1 s1 r1 h1 => ?_, on.ex sl⟩
  dsimp only at h1
  split at h1
  · rename_i a b
    obtain ⟨v, w, rfl, rv, rw'⟩ := gvs2 r1
    exact ⟨v, w, rfl, on.nx _ S1 F1 H1 _ g1 (((sl.up s1).set rv).set rw') s1 h1⟩
  · exact h1.elim
end
end LN

namespace LN
open PySem PySem.Spec PyProof.Rows L2
section
variable {X : Cx} {K : PySem.W.Frag} {W : WX} {st : Stmt} {sts rest : List Stmt} {t u : GRS} {e : Expr} {ga : GR} {pos : Pos} {R F F' : Hp}
/-! walked things: the items; what the store must keep meanwhile -/
structure WalkG (K : PySem.W.Frag) (J : It) (xs : List G) (stands : Sto → Prop) (F : Hp) : Prop where
  go : ∀ (i : Nat) (x : G) (R : Hp) (S2 : Sto) (F2 H2 : Hp), xs[i]? = some x → Up F F2 → GS K R S2 F2 H2 → stands S2 → J.go i H2 ∧ ∀ v H3, J.yld i H2 v H3 → ∃ F3, Up F2 F3 ∧ GS K R S2 F3 H3 ∧ GV K F3 v x
  stop : ∀ (R : Hp) (S2 : Sto) (F2 H2 : Hp), Up F F2 → GS K R S2 F2 H2 → stands S2 → J.stop xs.length H2
abbrev GRI := List (Option G) → Sto → (List G → (Sto → Prop) → Sto → Prop) → XP → Prop
def tGI (K : PySem.W.Frag) (W : WX) (gi : GRI) : TI := fun σ H T => ∃ R Γ S F P E, GS K R S F H ∧ SL K F Γ σ ∧ gi Γ S P E ∧ (∀ S' F' H' J xs stands, GS K R S' F' H' → Up F F' → WalkG K J xs stands F' → P xs stands S' → T J H') ∧ OnX K R F W σ E
abbrev GI (X : Cx) (W : WX) (tg iter : Expr) (gi : GRI) : Prop := PI X tg iter (tGI X.K W gi)
theorem PI.imp {tg iter : Expr} {t t' : TI} (h : PI X tg iter t) (w : ∀ σ H Q, t' σ H Q → t σ H Q) : PI X tg iter t' := ⟨fun pins s σ H Q I q => h.run pins s σ H Q I (w _ _ _ q)⟩
def always : Sto → Prop := fun _ => True
theorem walkg_list {a : Addr} {vs : List V} {gs : List G} (h : SqL K F a vs) (r : GVs K F vs gs) : WalkG K (Itl K a) gs always F := by
  refine ⟨fun i x R S2 F2 H2 e s g _ => ?_, fun R S2 F2 H2 s g _ => ?_⟩
  · obtain ⟨v, e2, rv⟩ := gvs_at r e
    have sq := (s.trans (.of g.sub)).l h
    refine ⟨⟨vs, v, sq, e2⟩, fun w H3 y => ?_⟩
    obtain ⟨rfl, y⟩ := y
    have := y vs sq
    rw [e2] at this
    cases this
    exact ⟨F2, Up.refl _, g, rv.up s⟩
  · exact ⟨vs, (s.trans (.of g.sub)).l h, by rw [gvs_len r]; exact Nat.le_refl _⟩
theorem walkg_tup {a : Addr} {vs : List V} {gs : List G} (h : SqT K F a vs) (r : GVs K F vs gs) : WalkG K (Itt K a) gs always F := by
  refine ⟨fun i x R S2 F2 H2 e s g _ => ?_, fun R S2 F2 H2 s g _ => ?_⟩
  · obtain ⟨v, e2, rv⟩ := gvs_at r e
    have sq := (s.trans (.of g.sub)).t h
    refine ⟨⟨vs, v, sq, e2⟩, fun w H3 y => ?_⟩
    obtain ⟨rfl, y⟩ := y
    have := y vs sq
    rw [e2] at this
    cases this
    exact ⟨F2, Up.refl _, g, rv.up s⟩
  · exact ⟨vs, (s.trans (.of g.sub)).t h, by rw [gvs_len r]; exact Nat.le_refl _⟩
/-- a list that may be changed, but isn't meanwhile -/
theorem walkg_loc {a : Addr} {gs : List G} : WalkG K (Itl K a) gs (fun S => S a = some (.lst gs)) F := by
  refine ⟨fun i x R S2 F2 H2 ex s g st => ?_, fun R S2 F2 H2 s g st => ?_⟩
  · obtain ⟨_, vs, h1, r⟩ := g.obj a _ st
    obtain ⟨v, e2, rv⟩ := gvs_at r ex
    have sq : SqL K H2 a vs := .inl (.inl h1)
    refine ⟨⟨vs, v, sq, e2⟩, fun w H3 y => ?_⟩
    obtain ⟨rfl, y⟩ := y
    have := y vs sq
    rw [e2] at this
    cases this
    exact ⟨F2, Up.refl _, g, rv⟩
  · obtain ⟨_, vs, h1, r⟩ := g.obj a _ st
    exact ⟨vs, .inl (.inl h1), by rw [gvs_len r]; exact Nat.le_refl _⟩
def rngG (lo : Int) (n : Nat) : List G := (List.range n).map fun i => .dat (.int (lo + (i : Nat)))
theorem walkg_rng {lo : Int} {n : Nat} : WalkG K (Itr lo n) (rngG lo n) always F := by
  refine ⟨fun i x R S2 F2 H2 e s g _ => ?_, fun R S2 F2 H2 s g _ => ?_⟩
  · unfold rngG at e
    rw [List.getElem?_map] at e
    cases q : (List.range n)[i]? with
    | none => rw [q] at e; cases e
    | some j =>
      rw [q] at e
      obtain ⟨hi, hj⟩ := List.getElem?_eq_some_iff.mp q
      rw [List.getElem_range] at hj
      subst hj
      cases e
      refine ⟨show i < n by simpa using hi, fun w H3 y => ?_⟩
      obtain ⟨rfl, rfl⟩ := y
      exact ⟨F2, Up.refl _, g, Rp.int _⟩
  · show n ≤ (rngG lo n).length
    unfold rngG
    rw [List.length_map, List.length_range]
    exact Nat.le_refl _
def iRng (ga : GRA) : GRI := fun Γ S P E => ga Γ S (fun gs S1 => match gs with
  | [.dat (.int j)] => (-(2 ^ 62) ≤ j ∧ j < 2 ^ 62) ∧ P (rngG 0 j.toNat) always S1
  | _ => False) E
theorem gi_rng {tg a : Expr} {ga : GRA} {p : Pos} (hg : Gl X "range") (hm : X.mg "range" = none) (ha : GA X W [a] ga) (na : starEach [a] X.env = (false, eval a X.env) :: starEach [] X.env := by rfl) : GI X W tg (.Call (.Name "range" p) [a] [] pos) (iRng ga) := by
  refine PI.imp (pi_range1 hg hm ha na) ?_
  rintro σ H T ⟨R, Γ, S, F, P, E, g, sl, h, on, ox⟩
  refine ⟨R, Γ, S, F, _, E, g, sl, h, fun vs S1 F1 H1 xs g1 s1 r1 h1 => ?_, ox⟩
  dsimp only at h1
  split at h1
  · rename_i j
    obtain ⟨v, rfl, rv⟩ := gvs1 r1
    cases (show Rp X.K F1 v (.int j) from rv)
    exact ⟨j, rfl, h1.1.1, h1.1.2, on S1 F1 H1 _ _ _ g1 s1 walkg_rng h1.2⟩
  · exact h1.elim
def iRng2 (ga : GRA) : GRI := fun Γ S P E => ga Γ S (fun gs S1 => match gs with
  | [.dat (.int i), .dat (.int j)] => (-(2 ^ 62) ≤ i ∧ i < 2 ^ 62 ∧ -(2 ^ 62) ≤ j ∧ j < 2 ^ 62) ∧ P (rngG i (j - i).toNat) always S1
  | _ => False) E
theorem gi_rng2 {tg a b : Expr} {ga : GRA} {p : Pos} (hg : Gl X "range") (hm : X.mg "range" = none) (ha : GA X W [a, b] ga) (h1 : starEach [a, b] X.env = [(false, eval a X.env), (false, eval b X.env)] := by rfl) (h2 : starEach [b] X.env = [(false, eval b X.env)] := by rfl) : GI X W tg (.Call (.Name "range" p) [a, b] [] pos) (iRng2 ga) := by
  refine PI.imp (pi_range2 hg hm ha h1 h2) ?_
  rintro σ H T ⟨R, Γ, S, F, P, E, g, sl, h, on, ox⟩
  refine ⟨R, Γ, S, F, _, E, g, sl, h, fun vs S1 F1 H1 xs g1 s1 r1 h1 => ?_, ox⟩
  dsimp only at h1
  split at h1
  · rename_i i j
    obtain ⟨v, w, rfl, rv, rw'⟩ := gvs2 r1
    cases (show Rp X.K F1 v (.int i) from rv)
    cases (show Rp X.K F1 w (.int j) from rw')
    exact ⟨i, j, rfl, h1.1, on S1 F1 H1 _ _ _ g1 s1 walkg_rng h1.2⟩
  · exact h1.elim
/-! what is walked: a list, a tuple or a text, as it comes -/
def iAny (K : PySem.W.Frag) (t : TE) : TI := fun σ H R => t σ H fun x H1 =>
  (∃ a, x = .ref a ∧ (∃ xs, SqL K H1 a xs) ∧ R (Itl K a) H1) ∨ (∃ a, x = .ref a ∧ (∃ xs, SqT K H1 a xs) ∧ R (Itt K a) H1) ∨ ∃ z, x = .str z ∧ R (Its z) H1
theorem pi_any {tg : Expr} {t : TE} (he : PE X e t) : PI X tg e (iAny X.K t) := by
  constructor
  intro pins s σ H R inv want
  refine thn (he.run pins s σ H _ inv want) ?_
  rintro v s1 ⟨x, H1, I1, r1, got⟩
  have fresh : FpOk X pins H1 s1.heap.objs.size := I1.fpOk (Nat.le_refl _) (I1.hok.fresh (Nat.le_refl _))
  have only : ∀ b ∈ [s1.heap.objs.size], FpOk X pins H1 b := fun b hb => by
    rw [List.mem_singleton.mp hb]
    exact fresh
  rcases got with ⟨a, rfl, ⟨xs, at_⟩, q⟩ | ⟨a, rfl, ⟨xs, at_⟩, q⟩ | ⟨z, rfl, q⟩
  · obtain rfl : v = Value.ref a := r1
    obtain ⟨its, rv, isl, _⟩ := I1.list at_
    apply wpAny_pyIter_list isl.isList
    exact ⟨_, [s1.heap.objs.size], _, _, H1, rfl, I1.kept (t' := s1.toks) fun b o q => Heap.get?_push_of_some _ q, turn_list a _, ⟨_, Heap.get?_push_size _ rfl, rfl, rfl⟩, only, q⟩
  · obtain rfl : v = Value.ref a := r1
    obtain ⟨its, rv, ist, _⟩ := I1.tuple at_
    apply wpAny_pyIter_tuple (show s1.heap.IsTuple a its.toArray from ist)
    exact ⟨_, [s1.heap.objs.size], _, _, H1, rfl, I1.kept (t' := s1.toks) fun b o q => Heap.get?_push_of_some _ q, turn_tuple a _, ⟨_, Heap.get?_push_size _ rfl, rfl, rfl⟩, only, q⟩
  · obtain ⟨tk, rfl⟩ := r1
    cases wide : z.cps.all (· < 128) with
    | false => exact wpAny_pyIter_wide wide (pi_one (tk := s1.toks) I1 _ (turn_str _ z tk "str_iterator" (.inr rfl)) ⟨_, Heap.get?_push_size _ rfl, rfl, rfl⟩ q)
    | true => exact wpAny_pyIter_ascii wide (pi_one (tk := s1.toks) I1 _ (turn_str _ z tk "str_ascii_iterator" (.inl rfl)) ⟨_, Heap.get?_push_size _ rfl, rfl, rfl⟩ q)
def signs (z : Str) : List G := z.cps.toList.map fun c => .dat (.str ⟨#[c]⟩)
theorem walkg_str {z : Str} : WalkG K (Its z) (signs z) always F := by
  have wk := walk_str (z := z)
  have hl : (signs z).length = z.cps.size := by simp [signs]
  refine ⟨fun i x R S2 F2 H2 ex s g _ => ?_, fun R S2 F2 H2 s g _ => by rw [hl]; exact wk.stops H2 trivial⟩
  obtain ⟨hi, _⟩ := List.getElem?_eq_some_iff.mp ex
  rw [hl] at hi
  refine ⟨wk.goes i H2 hi trivial, fun v H3 y => ?_⟩
  obtain ⟨rfl, c, hc, rfl⟩ := wk.yields i H2 v H3 hi trivial y
  unfold signs at ex
  rw [List.getElem?_map, Array.getElem?_toList, hc] at ex
  cases ex
  exact ⟨F2, Up.refl _, g, Rp.str _⟩
def iSeq (ga : GR) : GRI := fun Γ S P E => ga Γ S (fun x S1 => match x with
  | .dat (.lst ds) => P (ds.map .dat) always S1
  | .dat (.tup ds) => P (ds.map .dat) always S1
  | .dat (.wt ds) => P (ds.map .dat) always S1
  | .dat (.ro ds) => P (ds.map .dat) always S1
  | .dat (.str z) => P (signs z) always S1
  | .loc n => (match S1 n with
    | some (.lst gs) => P gs (fun S => S n = some (.lst gs)) S1
    | _ => False)
  | _ => False) E
theorem gi_seq {tg : Expr} (he : GE X W e ga) : GI X W tg e (iSeq ga) := by
  refine PI.imp (pi_any he) ?_
  rintro σ H T ⟨R, Γ, S, F, P, E, g, sl, h, on, ox⟩
  refine ⟨R, Γ, S, F, _, E, g, sl, h, fun v S1 F1 H1 x g1 s1 r1 h1 => ?_, ox⟩
  dsimp only at h1
  split at h1
  · rename_i ds
    cases (show Rp X.K F1 v (.lst ds) from r1) with
    | lst h2 h3 => exact .inl ⟨_, rfl, ⟨_, .inl (.inl (g1.sub _ _ h2))⟩, on S1 F1 H1 _ _ _ g1 s1 (walkg_list (.inl (.inl h2)) (gvs_dat h3)) h1⟩
  · rename_i ds
    cases (show Rp X.K F1 v (.tup ds) from r1) with
    | tup h2 h3 => exact .inr (.inl ⟨_, rfl, ⟨_, .inl (.inl (g1.sub _ _ h2))⟩, on S1 F1 H1 _ _ _ g1 s1 (walkg_tup (.inl (.inl h2)) (gvs_dat h3)) h1⟩)
  · rename_i ds
    cases (show Rp X.K F1 v (.wt ds) from r1) with
    | wt h2 h3 => exact .inr (.inl ⟨_, rfl, ⟨_, (Up.of g1.sub).t h2⟩, on S1 F1 H1 _ _ _ g1 s1 (walkg_tup h2 (gvs_dat h3)) h1⟩)
  · rename_i ds
    cases (show Rp X.K F1 v (.ro ds) from r1) with
    | ro h2 h3 => exact .inl ⟨_, rfl, ⟨_, (Up.of g1.sub).l h2⟩, on S1 F1 H1 _ _ _ g1 s1 (walkg_list h2 (gvs_dat h3)) h1⟩
  · rename_i z
    cases (show Rp X.K F1 v (.str z) from r1)
    exact .inr (.inr ⟨z, rfl, on S1 F1 H1 _ _ _ g1 s1 walkg_str h1⟩)
  · rename_i n
    split at h1
    · rename_i gs q
      obtain rfl := (show v = .ref n from r1)
      obtain ⟨_, vs, h2, _⟩ := g1.obj n _ q
      exact .inl ⟨n, rfl, ⟨vs, .inl (.inl h2)⟩, on S1 F1 H1 _ _ _ g1 s1 walkg_loc h1⟩
    · exact h1.elim
  · exact h1.elim
/-! for -/
/-- the turns that are left -/
def FR (t : GRT) (tb : GRS) (d : GEnds) (st : Sto → Prop) : List G → List (Option G) → Sto → Prop
  | [], Γ, S => st S ∧ d.nx Γ S
  | x :: xs, Γ, S => st S ∧ t x Γ S fun Γ2 S2 => tb { d with
      nx := fun Γ3 S3 => ∃ Γ4 S4, Gh Γ3 S3 Γ4 S4 ∧ FR t tb d st xs Γ4 S4
      ct := fun Γ3 S3 => ∃ Γ4 S4, Gh Γ3 S3 Γ4 S4 ∧ FR t tb d st xs Γ4 S4
      bk := d.nx } Γ2 S2
theorem FR.stood {t : GRT} {tb : GRS} {d : GEnds} {st : Sto → Prop} {xs : List G} {Γ : List (Option G)} {S : Sto} (h : FR t tb d st xs Γ S) : st S := by
  cases xs with
  | nil => exact h.1
  | cons x xs => exact h.1
def gFor (gi : GRI) (t : GRT) (tb : GRS) : GRS := fun d Γ S => gi Γ S (fun xs st S1 => FR t tb d st xs Γ S1) (d.ex Γ)
theorem drop_at {α : Type} {xs : List α} {i : Nat} (h : i < xs.length) : xs.drop i = xs[i] :: xs.drop (i + 1) := List.drop_eq_getElem_cons h
theorem gs_for {tg iter : Expr} {body : List Stmt} {gi : GRI} {t : GRT} {tb : GRS} (hp : PassesOwn (model X.prog X.w) X.A X.env X.xe) (hc : X.calm = true) (hi : GI X W tg iter gi) (hg : GG X tg t) (hb : GSs X W body tb)
    (hs : ∀ x, foldedSetIterable iter X.env x = pure x := by intro _; rfl) : GSt X W (.For tg iter body [] pos) (gFor gi t tb) := by
  refine PS.imp (ps_for hp hc hi hg hb hs) ?_
  rintro D σ H ⟨R, Γ, S, F, d, g, sl, h, on⟩
  refine ⟨R, Γ, S, F, _, _, g, sl, h, fun S1 F1 H1 J xs stands g1 s1 wk h1 => ?_, on.ex sl⟩
  let Pv : Nat → L2.St → Hp → Prop := fun i σ' H' => ∃ Γ' S' F', GS X.K R S' F' H' ∧ SL X.K F' Γ' σ' ∧ Up F1 F' ∧ FR t tb d stands (xs.drop i) Γ' S'
  refine ⟨fun i m σ' H' => m = xs.length - i ∧ i ≤ xs.length ∧ Pv i σ' H', ⟨xs.length, by simp, Nat.zero_le _, Γ, S1, F1, g1, sl.up s1, Up.refl _, h1⟩, ?_⟩
  rintro i m σ' H' ⟨rfl, hi', Γ2, S2, F2, g2, sl2, s2, iv⟩
  have st := iv.stood
  by_cases hlt : i < xs.length
  · have ex : xs[i]? = some xs[i] := List.getElem?_eq_getElem hlt
    obtain ⟨go, yl⟩ := wk.go i _ R S2 F2 H' ex s2 g2 st
    refine .inr ⟨go, Pv (i + 1), fun σ'' H'' p' => ⟨xs.length - (i + 1), by omega, rfl, hlt, p'⟩, fun v H3 y => ?_⟩
    obtain ⟨F3, s3, g3, r3⟩ := yl v H3 y
    rw [drop_at hlt] at iv
    refine ⟨R, Γ2, S2, F3, _, xs[i], g3, sl2.up s3, r3, iv.2, fun Γ4 S4 F4 H4 σ4 g4 sl4 s4 h4 => ?_⟩
    have back : OnS X.K R F1 (fun Γ5 S5 => ∃ Γ6 S6, Gh Γ5 S5 Γ6 S6 ∧ FR t tb d stands (xs.drop (i + 1)) Γ6 S6) (Pv (i + 1)) := by
      rintro Γ5 S5 F5 H5 σ5 g5 sl5 s5 ⟨Γ6, S6, gh, iv6⟩
      obtain ⟨F6, g6, sl6, s6⟩ := gh.run g5 sl5
      exact ⟨Γ6, S6, F6, g6, sl6, s5.trans s6, iv6⟩
    have s14 := (s2.trans s3).trans s4
    exact ⟨R, Γ4, S4, F4, _, g4, sl4, h4, ⟨back.go s14, on.rt.go (s1.trans s14), on.nx.go (s1.trans s14), back.go s14, on.xr.go (s1.trans s14)⟩⟩
  · have e : i = xs.length := by omega
    subst e
    rw [List.drop_length] at iv
    exact .inl ⟨wk.stop R S2 F2 H' s2 g2 st, on.nx Γ2 S2 F2 H' σ' g2 sl2 (s1.trans s2) iv.2⟩
/-- a loop by its invariant -/
theorem FR.inv {t : GRT} {tb : GRS} {d : GEnds} {st : Sto → Prop} {xs : List G} {Γ : List (Option G)} {S : Sto} (Inv : Nat → List (Option G) → Sto → Prop) (h0 : Inv 0 Γ S) (hst : ∀ i Γ' S', i ≤ xs.length → Inv i Γ' S' → st S')
    (turn : ∀ i x Γ' S', xs[i]? = some x → Inv i Γ' S' → t x Γ' S' fun Γ2 S2 => ∀ k : List (Option G) → Sto → Prop, (∀ Γ4 S4, Inv (i + 1) Γ4 S4 → k Γ4 S4) → tb { d with
      nx := fun Γ3 S3 => ∃ Γ4 S4, Gh Γ3 S3 Γ4 S4 ∧ k Γ4 S4
      ct := fun Γ3 S3 => ∃ Γ4 S4, Gh Γ3 S3 Γ4 S4 ∧ k Γ4 S4
      bk := d.nx } Γ2 S2)
    (mono : ∀ x Γ S (P Q : List (Option G) → Sto → Prop), (∀ Γ S, P Γ S → Q Γ S) → t x Γ S P → t x Γ S Q)
    (hd : ∀ Γ' S', Inv xs.length Γ' S' → d.nx Γ' S') : FR t tb d st xs Γ S := by
  have main : ∀ (n i : Nat), xs.length - i = n → i ≤ xs.length → ∀ Γ' S', Inv i Γ' S' → FR t tb d st (xs.drop i) Γ' S' := by
    intro n
    induction n with
    | zero =>
      intro i hn hi Γ' S' iv
      have e : i = xs.length := by omega
      subst e
      rw [List.drop_length]
      exact ⟨hst _ _ _ (Nat.le_refl _) iv, hd _ _ iv⟩
    | succ n ih =>
      intro i hn hi Γ' S' iv
      have hlt : i < xs.length := by omega
      rw [drop_at hlt]
      exact ⟨hst _ _ _ hi iv, mono _ _ _ _ _ (fun Γ2 S2 q => q _ fun Γ4 S4 iv4 => ih (i + 1) (by omega) hlt Γ4 S4 iv4) (turn i _ _ _ (List.getElem?_eq_getElem hlt) iv)⟩
  have := main xs.length 0 (by simp) (Nat.zero_le _) Γ S h0
  simpa using this
theorem nm_mono {i : Nat} (x : G) (Γ : List (Option G)) (S : Sto) (P Q : List (Option G) → Sto → Prop) (h : ∀ Γ S, P Γ S → Q Γ S) (p : gNm i x Γ S P) : gNm i x Γ S Q := h _ _ p
theorem ts_mono {is : List Nat} (x : G) (Γ : List (Option G)) (S : Sto) (P Q : List (Option G) → Sto → Prop) (h : ∀ Γ S, P Γ S → Q Γ S) (p : gTs is x Γ S P) : gTs is x Γ S Q := by
  unfold gTs at p ⊢
  split at p
  · exact ⟨p.1, h _ _ p.2⟩
  · exact p
end
end LN

namespace LN
open PySem PySem.Spec PyProof.Rows L2
section
variable {X : Cx} {K : PySem.W.Frag} {W : WX} {e : Expr} {ga : GR} {pos : Pos} {R F F' : Hp}
/-! [e for x in xs if t] -/
def gwipe (Γ : List (Option G)) : List Nat → List (Option G)
  | [] => Γ
  | v :: vs => (gwipe Γ vs).set v none
theorem SL.wipe {Γ : List (Option G)} {σ : L2.St} (h : SL K F Γ σ) : ∀ vs : List Nat, SL K F (gwipe Γ vs) (wipe σ vs)
  | [] => h
  | _ :: vs => (h.wipe vs).forget
theorem wipe_at (σ : L2.St) (j : Nat) : ∀ vs : List Nat, (wipe σ vs)[j]? = if j ∈ vs ∧ j < σ.length then some none else σ[j]?
  | [] => by simp [L2.wipe]
  | v :: vs => by
    have ih := wipe_at σ j vs
    have hl := wipe_length σ vs
    show ((L2.wipe σ vs).set v none)[j]? = _
    by_cases hv : v = j
    · subst hv
      by_cases hj : v < σ.length
      · rw [List.getElem?_set_self (by rw [hl]; exact hj), if_pos ⟨List.mem_cons_self, hj⟩]
      · rw [if_neg (fun z => hj z.2), List.getElem?_eq_none (by rw [List.length_set, hl]; omega), List.getElem?_eq_none (by omega)]
    · rw [List.getElem?_set_ne hv, ih]
      by_cases hm : j ∈ vs
      · by_cases hj : j < σ.length
        · rw [if_pos ⟨hm, hj⟩, if_pos ⟨List.mem_cons_of_mem _ hm, hj⟩]
        · rw [if_neg (fun z => hj z.2), if_neg (fun z => hj z.2)]
      · rw [if_neg (fun z => hm z.1), if_neg (fun z => (List.mem_cons.mp z.1).elim (fun e => hv e.symm) hm)]
theorem wipe_set {σ : L2.St} {vs : List Nat} {i : Nat} {x : Option V} (h : i ∈ vs) : wipe (σ.set i x) vs = wipe σ vs := by
  apply List.ext_getElem?
  intro j
  rw [wipe_at, wipe_at, List.length_set]
  by_cases hj : i = j
  · subst hj
    by_cases hl : i < σ.length
    · rw [if_pos ⟨h, hl⟩, if_pos ⟨h, hl⟩]
    · rw [if_neg (fun z => hl z.2), if_neg (fun z => hl z.2), List.getElem?_eq_none (by rw [List.length_set]; omega), List.getElem?_eq_none (by omega)]
  · rw [List.getElem?_set_ne hj]
theorem wipe_wipe (σ : L2.St) (vs : List Nat) : wipe (wipe σ vs) vs = wipe σ vs := by
  apply List.ext_getElem?
  intro j
  rw [wipe_at, wipe_at, wipe_length]
  by_cases h : j ∈ vs ∧ j < σ.length
  · rw [if_pos h, if_pos h]
  · rw [if_neg h, if_neg h]
/-- a target of names alone -/
inductive Tgt where
  | one (i : Nat)
  | many (is : List Nat)
def Tgt.slots : Tgt → List Nat
  | .one i => [i]
  | .many is => is
def Tgt.raw (K : PySem.W.Frag) : Tgt → TG
  | .one i => gName i
  | .many is => L2.gTup K is.length (gNms is)
/-- the slots behind it, where the item fits -/
def Tgt.put (x : G) (Γ : List (Option G)) (P : List (Option G) → Prop) : Tgt → Prop
  | .one i => P (Γ.set i (some x))
  | .many is => match tupOf x with
    | some ds => ds.length = is.length ∧ P (setAll is (ds.map .dat) Γ)
    | none => False
def setV : List Nat → List V → L2.St → L2.St
  | i :: is, v :: vs, σ => setV is vs (σ.set i (some v))
  | _, _, σ => σ
theorem wipe_setV {ws : List Nat} : ∀ {is : List Nat} {vs : List V} {σ : L2.St}, (∀ i ∈ is, i ∈ ws) → wipe (setV is vs σ) ws = wipe σ ws
  | [], _, _, _ => by simp [setV]
  | _ :: _, [], _, _ => by simp [setV]
  | i :: is, v :: vs, σ, h => by
    show wipe (setV is vs (σ.set i (some v))) ws = _
    rw [wipe_setV (fun j hj => h j (List.mem_cons_of_mem _ hj)), wipe_set (h i List.mem_cons_self)]
theorem nms_put {H : Hp} {Q : L2.St → Hp → Prop} : ∀ {is : List Nat} {vs : List V} {ds : List D} {Γ : List (Option G)} {σ : L2.St}, SL K F Γ σ → RpAll K F vs ds → ds.length = is.length → (SL K F (setAll is (ds.map .dat) Γ) (setV is vs σ) → Q (setV is vs σ) H) → gNms is vs σ H Q
  | [], _, _, Γ, σ, sl, .nil, _, h => ⟨rfl, h sl⟩
  | i :: is, _, _, Γ, σ, sl, .cons (d := d) r rs, hl, h => ⟨_, _, rfl, nms_put (sl.set (g := .dat d) r) rs (by simpa using hl) h⟩
theorem Tgt.run {T : Tgt} {ws : List Nat} {x : G} {v : V} {S : Sto} {H : Hp} {Γ : List (Option G)} {σ : L2.St} {P : List (Option G) → Prop} {Q : L2.St → Hp → Prop} (hw : ∀ i ∈ T.slots, i ∈ ws) (g : GS K R S F H) (sl : SL K F Γ (wipe σ ws)) (r : GV K F v x) (h : T.put x Γ P)
    (go : ∀ Γ2 σ2, SL K F Γ2 σ2 → wipe σ2 ws = wipe σ ws → P Γ2 → Q σ2 H) : T.raw K v (wipe σ ws) H Q := by
  cases T with
  | one i => exact go _ _ (sl.set r) (by rw [wipe_set (hw i List.mem_cons_self), wipe_wipe]) h
  | many is =>
    unfold Tgt.put at h
    dsimp only at h
    split at h
    · rename_i ds q
      obtain ⟨a, vs, rfl, h1, h2⟩ := tup_of g r q
      exact ⟨a, vs, rfl, h1, by rw [h2.len]; exact h.1, nms_put sl h2 h.1 fun sl2 => go _ _ sl2 (by rw [wipe_setV (is := is) hw, wipe_wipe]) h.2⟩
    · exact h.elim
def never : XP := fun _ _ _ => False
abbrev W0 : WX := fun _ _ _ _ => False
theorem ox0 {σ : L2.St} : OnX K R F W0 σ never := fun _ _ _ _ _ _ _ _ _ z => z
abbrev Fin_ := List G → Sto → (G → Sto → Prop) → Prop
/-- the items that are left -/
def LR (T : Tgt) (gt : GRB) (ge : GR) (Γw : List (Option G)) (st : Sto → Prop) (fin : Fin_) (P : G → Sto → Prop) : List G → List G → Sto → Prop
  | [], acc, S => st S ∧ fin acc S P
  | x :: xs, acc, S => st S ∧ T.put x Γw fun Γ2 => gt Γ2 S (fun b S3 =>
      if b = true then ge Γ2 S3 (fun y S4 => acc.length < 100000 ∧ LR T gt ge Γw st fin P xs (acc ++ [y]) S4) never else LR T gt ge Γw st fin P xs acc S3) never
theorem LR.stood {T : Tgt} {gt : GRB} {ge : GR} {Γw : List (Option G)} {st : Sto → Prop} {fin : Fin_} {P : G → Sto → Prop} {xs acc : List G} {S : Sto} (h : LR T gt ge Γw st fin P xs acc S) : st S := by
  cases xs with
  | nil => exact h.1
  | cons x xs => exact h.1
def gLc (gi : GRI) (T : Tgt) (gt : GRB) (ge : GR) (vs : List Nat) (fin : Fin_) : GR := fun Γ S P E => gi Γ S (fun xs st S1 => LR T gt ge (gwipe Γ vs) st fin P xs [] S1) E
/-- the list is changed no more; it may be -/
def finF : Fin_ := fun acc S P => match allDat acc with
  | some ds => P (.dat (.lst ds)) S
  | none => False
def finO : Fin_ := fun acc S P => ∀ p, S p = none → P (.loc p) (sup S p (.lst acc))
def FinOk (K : PySem.W.Frag) (fin : Fin_) : Prop := ∀ (R : Hp) (S : Sto) (F H : Hp) (D : Addr) (acc : List G) (vs : List V) (P : G → Sto → Prop) (Q : VK) (F₁ : Hp), GS K (upd R D (.lst vs)) S F H → R D = none → GVs K F vs acc → Up F₁ F → On K R F₁ P Q → fin acc S P → Q (.ref D) H
theorem finO_ok : FinOk K finO := by
  intro R S F H D acc vs P Q F₁ g nR r s on h
  obtain ⟨h1, f, n⟩ := g.rem D _ upd_same
  exact on (.ref D) _ F H (.loc D) (g.showO nR (u := .lst acc) ⟨vs, h1, r⟩) s rfl (h D n)
theorem finF_ok : FinOk K finF := by
  intro R S F H D acc vs P Q F₁ g nR r s on h
  unfold finF at h
  split at h
  · rename_i ds q
    obtain ⟨g2, s2⟩ := g.showF nR
    have r2 : RpAll K F vs ds := dat_gvs (allDat_eq q ▸ r)
    exact on (.ref D) S _ H (.dat (.lst ds)) g2 (s.trans s2) (Rp.lst upd_same (r2.up s2)) h
  · exact h.elim
theorem nlst {vs : List V} : ∀ xs, HO.lst vs ≠ .tup xs := fun _ z => by cases z
theorem tg_lc {gi : GRI} {T : Tgt} {gt : GRB} {ge : GR} {vs : List Nat} {fin : Fin_} (hf : FinOk K fin) (hw : ∀ i ∈ T.slots, i ∈ vs) {σ : L2.St} {H : Hp} {Q : VK} (h : tG K W (gLc gi T gt ge vs fin) σ H Q) :
    tLc (tGI K W gi) (T.raw K) (tGB K W0 gt) (tG K W0 ge) vs σ H Q := by
  obtain ⟨R, Γ, S, F, P, E, g, sl, h, on, ox⟩ := h
  refine ⟨R, Γ, S, F, _, E, g, sl, h, fun S1 F1 H1 J xs stands g1 s1 wk h1 => ?_, ox⟩
  intro D nD
  have slw := (sl.up s1).wipe vs
  have nR := (g1.fresh nD).2.2
  let Pv : Nat → Hp → Prop := fun i H' => ∃ S' F' acc ws, GS K (upd R D (.lst ws)) S' F' H' ∧ Up F1 F' ∧ GVs K F' ws acc ∧ LR T gt ge (gwipe Γ vs) stands fin P (xs.drop i) acc S'
  refine ⟨fun i m H' => m = xs.length - i ∧ i ≤ xs.length ∧ Pv i H', ⟨xs.length, by simp, Nat.zero_le _, S1, F1, [], [], g1.hide nD nlst, Up.refl _, .nil, h1⟩, ?_⟩
  rintro i m H' ⟨rfl, hi', S2, F2, acc, ws, g2, s2, ra, iv⟩
  have st := iv.stood
  by_cases hlt : i < xs.length
  · have ex : xs[i]? = some xs[i] := List.getElem?_eq_getElem hlt
    obtain ⟨go, yl⟩ := wk.go i _ _ S2 F2 H' ex s2 g2 st
    refine .inr ⟨go, Pv (i + 1), fun H'' p' => ⟨xs.length - (i + 1), by omega, rfl, hlt, p'⟩, fun v H3 y => ?_⟩
    obtain ⟨F3, s3, g3, r3⟩ := yl v H3 y
    rw [drop_at hlt] at iv
    refine Tgt.run hw g3 (slw.up (s2.trans s3)) r3 iv.2 fun Γ2 σ2 sl2 we h2 => ⟨we, ?_⟩
    refine ⟨_, Γ2, S2, F3, _, _, g3, sl2, h2, fun b S4 F4 H4 g4 s4 h4 => ?_, ox0⟩
    cases b with
    | true =>
      refine iteT ⟨_, Γ2, S4, F4, _, _, g4, sl2.up s4, h4, fun w S5 F5 H5 yy g5 s5 r5 h5 => ?_, ox0⟩
      obtain ⟨hsz, iv6⟩ := h5
      have at_ : H5 D = some (.lst ws) := (g5.rem D _ upd_same).1
      have ra5 := GVs.up ((s3.trans s4).trans s5) ra
      refine ⟨ws, at_, by rw [gvs_len ra]; exact Nat.lt_of_lt_of_le hsz (by decide), S5, F5, acc ++ [yy], ws ++ [w], ?_, ((s2.trans s3).trans s4).trans s5, gvs_app ra5 (.cons r5 .nil), iv6⟩
      exact g5.turn _ nlst
    | false =>
      refine iteF ⟨S4, F4, acc, ws, g4, (s2.trans s3).trans s4, GVs.up (s3.trans s4) ra, h4⟩
  · have e : i = xs.length := by omega
    subst e
    rw [List.drop_length] at iv
    exact .inl ⟨wk.stop _ S2 F2 H' s2 g2 st, hf R S2 F2 H' D acc ws P Q F1 g2 nR ra s2 (on.go s1) iv.2⟩

/-! the rules: as a value; name = [..] -/
variable {elt tg iter : Expr} {ifs : List Expr} {scope : Scope} {own : List (Str × Nat)} {gi : GRI} {T : Tgt} {gt : GRB} {ge : GR} {fin : Fin_}
abbrev GTs (X : Cx) (W : WX) (es : List Expr) (g : GRB) : Prop := PTs X es (tGB X.K W g)
def gYes : GRB := fun _ S P _ => P true S
theorem PTs.imp {es : List Expr} {t t' : TT} (h : PTs X es t) (w : ∀ σ H Q, t' σ H Q → t σ H Q) : PTs X es t' := ⟨fun pins s σ H Q I q => h.run pins s σ H Q I (w _ _ _ q)⟩
theorem gts_nil : GTs X W [] gYes := by
  refine PTs.imp pts_nil ?_
  rintro σ H Q ⟨R, Γ, S, F, P, E, g, sl, h, on, ox⟩
  exact on true S F H g (Up.refl _) h
theorem gts_one {c : Expr} {g : GRB} (h : GT X W c g) : GTs X W [c] g := pts_one h
theorem ge_lc (hf : FinOk X.K fin) (hw : ∀ i ∈ T.slots, i ∈ own.map (·.2)) (hc : X.calm = true) (hN : X.N.Nodup) (hi : GI X W tg iter gi) (ok : BlkOk X.N X.env.scope scope own)
    (hg : ∀ (s : Shared) (H : Hp) (C : Addr) (cl : List (Str × Addr)) (fp : List Addr), PG (X.blk s H scope (compEnvC scope cl C X.env) fp) tg (T.raw X.K)) (ht : ∀ (s : Shared) (H : Hp) (C : Addr) (cl : List (Str × Addr)) (fp : List Addr), GTs (X.blk s H scope (compEnvC scope cl C X.env) fp) W0 ifs gt)
    (he : ∀ (s : Shared) (H : Hp) (C : Addr) (cl : List (Str × Addr)) (fp : List Addr), GE (X.blk s H scope (compEnvC scope cl C X.env) fp) W0 elt ge) (hs : ∀ x, foldedSetIterable iter X.env x = pure x := by intro _; rfl) :
    GE X W (.ListComp elt [⟨tg, iter, ifs, 0⟩] scope pos) (gLc gi T gt ge (own.map (·.2)) fin) :=
  PE.imp (pe_lc (tt := tGB X.K W0 gt) (te := tG X.K W0 ge) hc hN hi ok hg ht he hs) fun _ _ _ => tg_lc hf hw
theorem gs_setLc {i : Nat} {y : Str} {py spos : Pos} (hf : FinOk X.K fin) (hw : ∀ i ∈ T.slots, i ∈ own.map (·.2)) (hc : X.calm = true) (hN : X.N.Nodup) (hy : X.N[i]? = some y) (hyl : X.env.scope.names.lookup y = some .local)
    (hsw : swapsWith (.ListComp elt [⟨tg, iter, ifs, 0⟩] scope pos) (some (.Name y py)) spos.line X.env = pure true) (hi : GI X W tg iter gi) (ok : BlkOk X.N X.env.scope scope own)
    (hg : ∀ (s : Shared) (H : Hp) (C : Addr) (cl : List (Str × Addr)) (fp : List Addr), PG (X.blk s H scope (compEnvC scope cl C X.env) fp) tg (T.raw X.K)) (ht : ∀ (s : Shared) (H : Hp) (C : Addr) (cl : List (Str × Addr)) (fp : List Addr), GTs (X.blk s H scope (compEnvC scope cl C X.env) fp) W0 ifs gt)
    (he : ∀ (s : Shared) (H : Hp) (C : Addr) (cl : List (Str × Addr)) (fp : List Addr), GE (X.blk s H scope (compEnvC scope cl C X.env) fp) W0 elt ge) (hs : ∀ x, foldedSetIterable iter X.env x = pure x := by intro _; rfl) :
    GSt X W (.Assign [.Name y py] (.ListComp elt [⟨tg, iter, ifs, 0⟩] scope pos) spos) (gAsg (gLc gi T gt ge (own.map (·.2)) fin) (gNm i)) := by
  refine PS.imp (ps_setLc (tt := tGB X.K W0 gt) (te := tG X.K W0 ge) hc hN hy hyl hsw hi ok hg ht he hs) ?_
  rintro D σ H ⟨R, Γ, S, F, d, g, sl, h, on⟩
  refine tg_lc (W := W) hf hw ⟨R, Γ, S, F, _, _, g, sl, h, fun v S1 F1 H1 x g1 s1 r1 h1 => ?_, on.ex sl⟩
  exact on.nx _ S1 F1 H1 _ g1 ((sl.up s1).set r1) s1 h1
/-- the target's rule in a block -/
theorem gb_one {i : Nat} {x : Str} (hN : X.N.Nodup) (hi : X.N[i]? = some x) (hx : Loc X.env.scope x) (hf : X.fn x = true ∨ X.env.scope.names.lookup x = some .local := by first | exact .inl rfl | exact .inr rfl | assumption) : PG X (.Name x pos) (Tgt.raw K (.one i)) := pg_name hN hi hx hf
/-! a comprehension's items, one by one -/
section
variable {α : Type} {Γw : List (Option G)} {st : Sto → Prop} {P : G → Sto → Prop} {S : Sto}
theorem LR.sel (hs : st S) (enc : α → G) (p : α → Bool) (f : α → G) : ∀ (as : List α) (acc : List G), acc.length + as.length ≤ 100000 →
    (∀ a ∈ as, ∀ (k1 : G → Sto → Prop) (k2 : Sto → Prop), (p a = true → k1 (f a) S) → (p a = false → k2 S) → T.put (enc a) Γw fun Γ2 => gt Γ2 S (fun b S3 => if b = true then ge Γ2 S3 k1 never else k2 S3) never) →
    fin (acc ++ (as.filter p).map f) S P → LR T gt ge Γw st fin P (as.map enc) acc S
  | [], acc, _, _, q => ⟨hs, by simpa using q⟩
  | a :: as, acc, hl, turn, q => by
    rw [List.length_cons] at hl
    refine ⟨hs, turn a List.mem_cons_self _ _ (fun pa => ⟨by omega, ?_⟩) (fun pa => ?_)⟩
    · refine LR.sel hs enc p f as (acc ++ [f a]) (by rw [List.length_append, List.length_singleton]; omega) (fun b hb => turn b (List.mem_cons_of_mem _ hb)) ?_
      rw [List.append_assoc]
      rw [List.filter_cons, if_pos pa, List.map_cons] at q
      exact q
    · refine LR.sel hs enc p f as acc (by omega) (fun b hb => turn b (List.mem_cons_of_mem _ hb)) ?_
      rw [List.filter_cons, if_neg (by rw [pa]; decide)] at q
      exact q
theorem allDat_mapf {f : α → D} : ∀ as : List α, allDat (as.map fun a => .dat (f a)) = some (as.map f)
  | [] => rfl
  | a :: as => by
    show (allDat (as.map fun a => .dat (f a))).map (f a :: ·) = _
    rw [allDat_mapf as]
    rfl
/-- .. handed on as data -/
theorem LR.selF (as : List α) (enc : α → G) (p : α → Bool) (f : α → D) (hs : st S) (hl : as.length ≤ 100000)
    (turn : ∀ a ∈ as, ∀ (k1 : G → Sto → Prop) (k2 : Sto → Prop), (p a = true → k1 (.dat (f a)) S) → (p a = false → k2 S) → T.put (enc a) Γw fun Γ2 => gt Γ2 S (fun b S3 => if b = true then ge Γ2 S3 k1 never else k2 S3) never)
    (q : P (.dat (.lst ((as.filter p).map f))) S) : LR T gt ge Γw st finF P (as.map enc) [] S := by
  refine LR.sel hs enc p (fun a => .dat (f a)) as [] (by simpa using hl) turn ?_
  unfold finF
  rw [List.nil_append, allDat_mapf]
  exact q
theorem LR.mapF (as : List α) (enc : α → G) (f : α → D) (hs : st S) (hl : as.length ≤ 100000)
    (turn : ∀ a ∈ as, ∀ (k1 : G → Sto → Prop), k1 (.dat (f a)) S → T.put (enc a) Γw fun Γ2 => ge Γ2 S k1 never)
    (q : P (.dat (.lst (as.map f))) S) : LR T gYes ge Γw st finF P (as.map enc) [] S := by
  refine LR.selF as enc (fun _ => true) f hs hl (fun a ha k1 k2 h1 _ => ?_) (by rw [List.filter_eq_self.mpr (fun _ _ => rfl)]; exact q)
  have := turn a ha k1 (h1 rfl)
  unfold gYes
  simp only [if_true]
  exact this
/-- what is drawn for each item -/
theorem LR.all (hs : st S) (enc : α → G) (Φ : α → G → Prop) : ∀ (as : List α) (acc : List G), acc.length + as.length ≤ 100000 →
    (∀ a ∈ as, ∀ (k1 : G → Sto → Prop), (∀ y, Φ a y → k1 y S) → T.put (enc a) Γw fun Γ2 => ge Γ2 S k1 never) →
    (∀ ys, Paired Φ as ys → fin (acc ++ ys) S P) → LR T gYes ge Γw st fin P (as.map enc) acc S
  | [], acc, _, _, q => ⟨hs, by simpa using q [] .nil⟩
  | a :: as, acc, hl, turn, q => by
    rw [List.length_cons] at hl
    have := turn a List.mem_cons_self (fun y S4 => acc.length < 100000 ∧ LR T gYes ge Γw st fin P (as.map enc) (acc ++ [y]) S4) fun y hy => ⟨by omega, ?_⟩
    · refine ⟨hs, ?_⟩
      unfold gYes
      simp only [if_true]
      exact this
    · refine LR.all hs enc Φ as (acc ++ [y]) (by rw [List.length_append, List.length_singleton]; omega) (fun b hb => turn b (List.mem_cons_of_mem _ hb)) fun ys hys => ?_
      rw [List.append_assoc]
      exact q (y :: ys) (.cons hy hys)
theorem forall₂_enc {β : Type} {f : β → D} {Ψ : α → β → Prop} : ∀ {as : List α} {ys : List G}, Paired (fun a y => ∃ b, y = .dat (f b) ∧ Ψ a b) as ys → ∃ bs, ys = bs.map (fun b => .dat (f b)) ∧ Paired Ψ as bs
  | [], _, h => by cases h; exact ⟨[], rfl, .nil⟩
  | a :: as, _, h => by
    cases h with
    | cons h t =>
      obtain ⟨b, rfl, hb⟩ := h
      obtain ⟨bs, rfl, hbs⟩ := forall₂_enc t
      exact ⟨b :: bs, rfl, .cons hb hbs⟩
theorem LR.allF {β : Type} (as : List α) (enc : α → G) (f : β → D) (Ψ : α → β → Prop) (hs : st S) (hl : as.length ≤ 100000)
    (turn : ∀ a ∈ as, ∀ (k1 : G → Sto → Prop), (∀ b, Ψ a b → k1 (.dat (f b)) S) → T.put (enc a) Γw fun Γ2 => ge Γ2 S k1 never)
    (q : ∀ bs : List β, Paired Ψ as bs → P (.dat (.lst (bs.map f))) S) : LR T gYes ge Γw st finF P (as.map enc) [] S := by
  refine LR.all hs enc (fun a y => ∃ b, y = .dat (f b) ∧ Ψ a b) as [] (by simpa using hl) (fun a ha k1 h => turn a ha k1 fun b hb => h _ ⟨b, rfl, hb⟩) fun ys hys => ?_
  obtain ⟨bs, rfl, h⟩ := forall₂_enc hys
  unfold finF
  rw [List.nil_append, allDat_mapf]
  exact q bs h
theorem LR.allO {β : Type} (as : List α) (enc : α → G) (f : β → D) (Ψ : α → β → Prop) (hs : st S) (hl : as.length ≤ 100000)
    (turn : ∀ a ∈ as, ∀ (k1 : G → Sto → Prop), (∀ b, Ψ a b → k1 (.dat (f b)) S) → T.put (enc a) Γw fun Γ2 => ge Γ2 S k1 never)
    (q : ∀ bs : List β, Paired Ψ as bs → ∀ p, S p = none → P (.loc p) (sup S p (.lst (bs.map fun b => .dat (f b))))) : LR T gYes ge Γw st finO P (as.map enc) [] S := by
  refine LR.all hs enc (fun a y => ∃ b, y = .dat (f b) ∧ Ψ a b) as [] (by simpa using hl) (fun a ha k1 h => turn a ha k1 fun b hb => h _ ⟨b, rfl, hb⟩) fun ys hys => ?_
  obtain ⟨bs, rfl, h⟩ := forall₂_enc hys
  rw [List.nil_append]
  exact q bs h
end
end
end LN

namespace LN
open PySem PySem.Spec PyProof.Rows L2

/-! defs -/
/-- a def's promise: the arguments, the objects; what it hands back, what it raises -/
abbrev GSp := List G → Sto → (G → Sto → Prop) → XP → Prop
def OnXK (K : PySem.W.Frag) (R F : Hp) (X : XP) (E : XK) : Prop :=
  ∀ (C : Addr) (od : Option Addr) (gs : List (Str × D)) (S' : Sto) (F' H' : Hp), GS K R S' F' H' → Up F F' → XF K F' od gs → X C gs S' → E (.ref C) od H'
def spG (K : PySem.W.Frag) (sp : GSp) : Sp := fun vs H Q E => ∃ R S F gs P X, GS K R S F H ∧ GVs K F vs gs ∧ sp gs S P X ∧ On K R F P Q ∧ OnXK K R F X E
structure FnG (P : Program) (w : World) (K : PySem.W.Frag) (mg : Str → Option Value) (base : Heap) (k : Nat) (f : Addr) (fd : FuncData) (ps : List Str) (sp : Sp) : Prop where
  size : ∀ vs H Q E, sp vs H Q E → vs.length = ps.length
  go : ∀ (A : Around) (outer : List Env) (s : Shared) (H : Hp) (args : Args) (us : List Value) (vs : List V) (Q : VK) (E : XK), Quiet A → Room k A → Env0 P w K mg base A outer s H →
    BindsTo s fd args (ps.zip us) → Vals vs us → sp vs H Q E → codeAny (model P w) A (.call (.ref f) args) (CR (L2.CX P w) outer P w H s Q E) s
theorem FnG.mono {P : Program} {w : World} {K : PySem.W.Frag} {mg : Str → Option Value} {base : Heap} {j k : Nat} {f : Addr} {fd : FuncData} {ps : List Str} {sp : Sp} (F : FnG P w K mg base j f fd ps sp) (h : j ≤ k) : FnG P w K mg base k f fd ps sp :=
  ⟨F.size, fun A outer s H args us vs Q E q hr => F.go A outer s H args us vs Q E q (hr.mono h)⟩
/-- a def that shows nothing may be called where nothing is shown -/
theorem FnG.of {P : Program} {w : World} {K : PySem.W.Frag} {mg : Str → Option Value} {base : Heap} {k : Nat} {f : Addr} {fd : FuncData} {ps : List Str} {sp : Sp} (F : FnOk P w K mg base (L2.CX P w) k f fd ps sp) : FnG P w K mg base k f fd ps sp :=
  ⟨F.len, fun A outer s H args us vs Q E _ hr e b r h => F.run A outer s H args us vs Q E hr e b r h⟩
/-- what may be forgotten, or changed no more, where a def ends -/
inductive Rg : G → Sto → G → Sto → Prop
  | refl {g S} : Rg g S g S
  | weak {g S S'} : Sub S' S → Rg g S g S'
  | frz {g S d S'} : FZ S g d S' → Rg g S (.dat d) S'
  | trans {g g1 g2 S S1 S2} : Rg g S g1 S1 → Rg g1 S1 g2 S2 → Rg g S g2 S2
theorem Rg.run {K : PySem.W.Frag} {x y : G} {S S' : Sto} (h : Rg x S y S') : ∀ {R F H : Hp}, GS K R S F H → ∃ F', GS K R S' F' H ∧ Up F F' ∧ ∀ v, GV K F v x → GV K F' v y := by
  induction h with
  | refl => exact fun g => ⟨_, g, Up.refl _, fun _ r => r⟩
  | weak s => exact fun g => ⟨_, g.weak s, Up.refl _, fun _ r => r⟩
  | frz f => exact fun g => f.run g
  | trans _ _ i1 i2 =>
    intro R F H g
    obtain ⟨F1, g1, s1, w1⟩ := i1 g
    obtain ⟨F2, g2, s2, w2⟩ := i2 g1
    exact ⟨F2, g2, s1.trans s2, fun v r => w2 v (w1 v r)⟩
/-- what a body is to reach -/
def endG (P : G → Sto → Prop) (X : XP) : GEnds where
  nx := fun _ S => ∃ g' S', Rg (.dat .non) S g' S' ∧ P g' S'
  rt := fun g S => ∃ g' S', Rg g S g' S' ∧ P g' S'
  xr := fun C gs _ S => ∃ S', Sub S' S ∧ X C gs S'
theorem rt_now {P : G → Sto → Prop} {X : XP} {g : G} {S : Sto} (h : P g S) : (endG P X).rt g S := ⟨g, S, .refl, h⟩
theorem rt_sub {P : G → Sto → Prop} {X : XP} {g : G} {S S' : Sto} (s : Sub S' S) (h : P g S') : (endG P X).rt g S := ⟨g, S', .weak s, h⟩
theorem rt_frz {P : G → Sto → Prop} {X : XP} {g : G} {d : D} {S S' : Sto} (f : FZ S g d S') (h : P (.dat d) S') : (endG P X).rt g S := ⟨_, S', .frz f, h⟩
/-- an own list of data is handed back, changed no more -/
theorem rt_lst {P : G → Sto → Prop} {X : XP} {a : Addr} {gs : List G} {ds : List D} {S : Sto} (n : S a = none) (q : allDat gs = some ds) (h : P (.dat (.lst ds)) S) : (endG P X).rt (.loc a) (sup S a (.lst gs)) :=
  ⟨_, _, .frz (.l sup_same q), by rw [sdel_sup n]; exact h⟩
theorem nx_now {P : G → Sto → Prop} {X : XP} {Γ : List (Option G)} {S : Sto} (h : P (.dat .non) S) : (endG P X).nx Γ S := ⟨_, S, .refl, h⟩
theorem xr_now {P : G → Sto → Prop} {X : XP} {C : Addr} {gs : List (Str × D)} {Γ : List (Option G)} {S : Sto} (h : X C gs S) : (endG P X).xr C gs Γ S := ⟨S, Sub.refl _, h⟩
/-- the names' ghosts at the entry -/
def pad : List Str → List G → List (Option G)
  | [], _ => []
  | _ :: N, [] => none :: pad N []
  | _ :: N, g :: gs => some g :: pad N gs
theorem pad_nil : ∀ N : List Str, pad N [] = List.replicate N.length none
  | [] => rfl
  | _ :: N => congrArg (none :: ·) (pad_nil N)
theorem pad_is : ∀ (N : List Str) (gs : List G), gs.length ≤ N.length → pad N gs = gs.map some ++ List.replicate (N.length - gs.length) none
  | [], [], _ => rfl
  | [], _ :: _, h => absurd h (by simp)
  | n :: N, [], _ => by rw [pad_nil]; rfl
  | _ :: N, g :: gs, h => by
    show some g :: pad N gs = _
    rw [pad_is N gs (by simpa using h)]
    simp
section
variable {P : Program} {w : World} {K : PySem.W.Frag} {mg : Str → Option Value} {base : Heap}
abbrev WEnd (E : XK) : WX := fun cls d _ H' => E cls d H'
/-- the ghosts of a def's entry -/
theorem enterG {X : Cx} {N ps : List Str} {sp : GSp} {vs : List V} {H : Hp} {Q : VK} {E : XK} {body : List Stmt} (size : ∀ gs S P X, sp gs S P X → gs.length = ps.length) (pre : N.take ps.length = ps) (want : spG K sp vs H Q E) (hK : X.K = K)
    (go : ∀ (gs : List G) (S : Sto) (Pg : G → Sto → Prop) (Xg : XP), sp gs S Pg Xg → ∃ t, GSs X (WEnd E) body t ∧ t (endG Pg Xg) (pad N gs) S) : ∃ t, PSs X body t ∧ t { nx := fun _ H' => Q .non H', rt := Q } (L2.start N vs) H := by
  subst hK
  obtain ⟨R, Sg, Fg, gs, Pg, Xg, g, r, h, on, xon⟩ := want
  obtain ⟨t, rule, reads⟩ := go gs Sg Pg Xg h
  have hpl : ps.length ≤ N.length := by
    have := congrArg List.length pre
    rw [List.length_take] at this
    omega
  rw [pad_is N gs (by rw [size _ _ _ _ h]; exact hpl)] at reads
  have sl : SL X.K Fg (gs.map some ++ List.replicate (N.length - gs.length) none) (L2.start N vs) := by
    unfold L2.start
    rw [gvs_len r]
    refine ⟨by simp [gvs_len r], fun i x e => ?_⟩
    by_cases hi : i < gs.length
    · rw [List.getElem?_append_left (by simpa using hi), List.getElem?_map] at e
      cases q : gs[i]? with
      | none => rw [q] at e; cases e
      | some y =>
        rw [q] at e
        cases e
        obtain ⟨v, e2, rv⟩ := gvs_at r q
        exact ⟨v, by rw [List.getElem?_append_left (by simpa [gvs_len r] using hi), List.getElem?_map, e2]; rfl, rv⟩
    · rw [List.getElem?_append_right (by simpa using hi), List.getElem?_replicate] at e
      split at e <;> cases e
  have fin : ∀ x S', (endG Pg Xg).rt x S' → ∀ v F' H', GS X.K R S' F' H' → Up Fg F' → GV X.K F' v x → Q v H' := by
    rintro x S' ⟨y, S2, rg, h2⟩ v F' H' g' s' r'
    obtain ⟨F2, g2, s2, w2⟩ := rg.run g'
    exact on v S2 F2 H' y g2 (s'.trans s2) (w2 v r') h2
  refine ⟨_, rule, R, _, Sg, Fg, _, g, sl, reads, ⟨?_, ?_, ?_, ?_, ?_⟩⟩
  · intro Γ' S' F' H' σ' g' sl' s' h'
    exact fin (.dat .non) S' h' .non F' H' g' s' .non
  · intro v S' F' H' x g' s' r' h'
    exact fin x S' h' v F' H' g' s' r'
  · intro Γ' S' F' H' σ' g' sl' s' h'
    exact (show False from h').elim
  · intro Γ' S' F' H' σ' g' sl' s' h'
    exact (show False from h').elim
  · rintro C od gs' Γ' S' F' H' σ' g' sl' s' x' ⟨S2, sub, h'⟩
    exact xon C od gs' S2 F' H' (g'.weak sub) s' x' h'
theorem spG_len {ps : List Str} {sp : GSp} (size : ∀ gs S P X, sp gs S P X → gs.length = ps.length) (vs : List V) (H : Hp) (Q : VK) (E : XK) (want : spG K sp vs H Q E) : vs.length = ps.length := by
  obtain ⟨R, S, F, gs, Pg, X, g, r, h, _⟩ := want
  rw [gvs_len r]
  exact size _ _ _ _ h
/-- a def that shows nothing -/
theorem okG {x qual : Str} {st : Stmt} {f : Addr} {fd : FuncData} {N ps : List Str} {k : Nat} {sp : GSp} (F : L2.Fun K x qual st f fd) (S : FnScope N ps (defScope st))
    (size : ∀ gs S P X, sp gs S P X → gs.length = ps.length)
    (body : ∀ (cdv : Value) (A : Around) (outer : List Env) (s : Shared) (H : Hp) (E : XK) (gs : List G) (S : Sto) (Pg : G → Sto → Prop) (Xg : XP),
      Room k (A.deeper (envOfC qual (defScope st) s.heap.objs.size f cdv)) → sp gs S Pg Xg →
      ∃ t, GSs (cxOf (L2.CX P w) P w K mg base N qual (defScope st) f cdv A outer s H E) (WEnd E) (defBody st) t ∧ t (endG Pg Xg) (pad N gs) S) :
    FnOk P w K mg base (L2.CX P w) (k + 1) f fd ps (spG K sp) :=
  F.okX S (spG_len size) fun cdv A outer s H vs Q E hr want => enterG size S.pre want rfl fun gs Sg Pg Xg h => body cdv A outer s H E gs Sg Pg Xg hr h
/-- .. one that shows something -/
theorem okGQ {x qual : Str} {st : Stmt} {f : Addr} {fd : FuncData} {N ps : List Str} {k : Nat} {sp : GSp} (F : L2.Fun K x qual st f fd) (S : FnScope N ps (defScope st))
    (size : ∀ gs S P X, sp gs S P X → gs.length = ps.length)
    (body : ∀ (cdv : Value) (A : Around) (outer : List Env) (s : Shared) (H : Hp) (E : XK) (gs : List G) (S : Sto) (Pg : G → Sto → Prop) (Xg : XP), Quiet A →
      Room k (A.deeper (envOfC qual (defScope st) s.heap.objs.size f cdv)) → sp gs S Pg Xg →
      ∃ t, GSs (cxOf (L2.CX P w) P w K mg base N qual (defScope st) f cdv A outer s H E) (WEnd E) (defBody st) t ∧ t (endG Pg Xg) (pad N gs) S) :
    FnG P w K mg base (k + 1) f fd ps (spG K sp) := by
  obtain ⟨oc, od, kV, doc, pm, an, cdv, ct, osl, rfl, lk, hcd⟩ := F.ex
  refine ⟨spG_len size, ?_⟩
  intro A outer s H args us vs Q E quiet room env binds rel want
  have inHeap : K.In s.heap := env.mod.kin.keeps (fun b o e => (env.bs b o e).1)
  have noLim : s.heap.NoLimit := env.mod.nolimit.keeps (fun b o e => (env.bs b o e).1)
  have kinds : ∀ y ∈ ps.zip us, (defScope st).names.lookup y.1 = some .local ∨
      ((defScope st).names.lookup y.1 = some .cell ∧ ((cellsFrom (s.heap.objs.size + 1) (defScope st).names []).lookup y.1).isSome = true) := by
    intro y hy
    cases S.par y.1 (List.of_mem_zip (show (y.1, y.2) ∈ ps.zip us from hy)).1 with
    | inl q => exact .inl q
    | inr q => exact .inr ⟨q, PySem.W.cellsFrom_some _ _ _ (.inl q)⟩
  refine codeAny_call_function room.depth (inHeap _ _ lk) rfl S.co S.gen rfl (PySem.W.codeRec_of inHeap hcd) (binds _ _ _ _ ?_)
  apply wpAny_newFunctionEnv_cells S.kind kinds
  intro env' henv s1 entered
  subst henv
  refine ⟨noLim.keeps entered.toInCall.keep, codeAny_func ?_⟩
  obtain ⟨t, rule, reads⟩ := enterG (X := cxOf (L2.CX P w) P w K mg base N qual (defScope st) f cdv A outer s H E) size S.pre want rfl fun gs Sg Pg Xg h => body cdv A outer s H E gs Sg Pg Xg quiet (room.deeper _) h
  have inv := inv_start (CX := L2.CX P w) (E := E) S room.hd env (spG_len size _ _ _ _ want) rel entered
  refine wpAny_mono (rule.run [] s1 (L2.start N vs) H _ inv reads) ?_ (fun e s' hs => hs)
  intro fl s' hs
  cases fl with
  | ret u =>
    obtain ⟨v, σ', H', J, rv, q⟩ := hs
    exact ⟨v, H', J.os, J.bare, J.base, J.hok, rv, q⟩
  | next =>
    obtain ⟨σ', H', J, q⟩ := hs
    exact ⟨V.non, H', J.os, J.bare, J.base, J.hok, rfl, q⟩
  | brk =>
    obtain ⟨_, _, _, q⟩ := hs
    cases q
  | cont =>
    obtain ⟨_, _, _, q⟩ := hs
    cases q
end

/-! calls -/
section
variable {X : Cx} {W : WX} {k : Nat} {f : Addr} {fd : FuncData} {ps : List Str} {x : Str} {p pos : Pos} {e : Expr} {es : List Expr} {ga : GRA} {sp : GSp}
/-- how a call ends -/
abbrev EndC (X : Cx) (pins : List (Addr × Obj)) (σ : L2.St) (Q : VK) : Result → Shared → Prop := fun r s' => match r with | .ok (.ret v) => EP X pins σ Q v s' | .ok _ => False | .error e => X.xe e s'
/-- called with values: what it hands back, what it raises -/
theorem passG {spr : Sp} {pins : List (Addr × Obj)} {σ : L2.St} {H : Hp} {s : Shared} {Q : VK} {us : List Value} {vs : List V} (T : FnG X.prog X.w X.K X.mg X.base k f fd ps spr) (quiet : Quiet X.A) (room : Room k X.A) (bd : Binds X.K fd ps []) (tk : Takes X W)
    (inv : Inv X pins σ H s) (rel : Vals vs us) (want : spr vs H Q (WE W σ)) : codeAny (model X.prog X.w) X.A (.call (.ref f) ⟨us, []⟩) (EndC X pins σ Q) s := by
  have many : us.length = ps.length := rel.length.symm.trans (T.size _ _ _ _ want)
  have bound := bd s us inv.kIn (by rw [List.append_nil]; exact many)
  rw [List.append_nil] at bound
  refine codeAny_mono (T.go X.A X.stack s H _ us vs Q _ quiet room inv.env0 bound rel want) ?_
  intro r s' got
  cases r with
  | error err => exact passAt tk σ pins H s err s' inv got
  | ok fl =>
    cases fl with
    | ret u => exact inv.after got
    | _ => cases (show False from got)
/-- .. one that shows nothing -/
theorem passK {spr : Sp} {pins : List (Addr × Obj)} {σ : L2.St} {H : Hp} {s : Shared} {Q : VK} {us : List Value} {vs : List V} (T : FnOk X.prog X.w X.K X.mg X.base (L2.CX X.prog X.w) k f fd ps spr) (room : Room k X.A) (bd : Binds X.K fd ps []) (tk : Takes X W)
    (inv : Inv X pins σ H s) (rel : Vals vs us) (want : spr vs H Q (WE W σ)) : codeAny (model X.prog X.w) X.A (.call (.ref f) ⟨us, []⟩) (EndC X pins σ Q) s := by
  have many : us.length = ps.length := rel.length.symm.trans (T.len _ _ _ _ want)
  have bound := bd s us inv.kIn (by rw [List.append_nil]; exact many)
  rw [List.append_nil] at bound
  refine codeAny_mono (T.run X.A X.stack s H _ us vs Q _ room inv.env0 bound rel want) ?_
  intro r s' got
  cases r with
  | error err => exact passAt tk σ pins H s err s' inv got
  | ok fl =>
    cases fl with
    | ret u => exact inv.after got
    | _ => cases (show False from got)
/-- a def as it is called: what it asks of the place, and its promise -/
structure CallG (X : Cx) (W : WX) (f : Addr) (sp : GSp) : Prop where
  code : ∀ {pins : List (Addr × Obj)} {σ : L2.St} {H : Hp} {s : Shared} {Q : VK} {us : List Value} {vs : List V}, Inv X pins σ H s → Vals vs us → spG X.K sp vs H Q (WE W σ) → codeAny (model X.prog X.w) X.A (.call (.ref f) ⟨us, []⟩) (EndC X pins σ Q) s
theorem CallG.run (T : CallG X W f sp) {pins : List (Addr × Obj)} {σ : L2.St} {H : Hp} {s : Shared} {Q : VK} {us : List Value} {vs : List V} (inv : Inv X pins σ H s) (rel : Vals vs us) (want : spG X.K sp vs H Q (WE W σ)) : wpAny (model X.prog X.w) X.A (call (.ref f) us) (EP X pins σ Q) X.xe s := wpAny_call (T.code inv rel want)
theorem FnOk.c (F : FnOk X.prog X.w X.K X.mg X.base (L2.CX X.prog X.w) k f fd ps (spG X.K sp)) (bd : Binds X.K fd ps []) (tk : Takes X W) (hr : Room k X.A) : CallG X W f sp := ⟨fun inv rel want => passK F hr bd tk inv rel want⟩
theorem FnG.c (F : FnG X.prog X.w X.K X.mg X.base k f fd ps (spG X.K sp)) (bd : Binds X.K fd ps []) (tk : Takes X W) (quiet : Quiet X.A) (hr : Room k X.A) : CallG X W f sp := ⟨fun inv rel want => passG F quiet hr bd tk inv rel want⟩
theorem xon_at {K : PySem.W.Frag} {R F : Hp} {σ : L2.St} {E : XP} (ox : OnX K R F W σ E) : OnXK K R F E (WE W σ) := ox
/-- f(e, ..) -/
def gCall (sp : GSp) (ga : GRA) : GR := fun Γ S P E => ga Γ S (fun gs S1 => sp gs S1 P E) E
def tCallG (K : PySem.W.Frag) (W : WX) (sp : GSp) (t : TA) : TE := fun σ H Q => t σ H fun vs H1 => spG K sp vs H1 Q (WE W σ)
theorem tg_call {K : PySem.W.Frag} {σ : L2.St} {H : Hp} {Q : VK} (h : tG K W (gCall sp ga) σ H Q) : tCallG K W sp (tGA K W ga) σ H Q := by
  obtain ⟨R, Γ, S, F, P, E, g, sl, h, on, ox⟩ := h
  refine ⟨R, Γ, S, F, _, E, g, sl, h, fun vs S1 F1 H1 gs g1 s1 r1 h1 => ?_, ox⟩
  exact ⟨R, S1, F1, gs, P, E, g1, r1, h1, on.go s1, ox.go s1⟩
theorem ge_callc (C : CallG X W f sp) (there : X.mg x = some (.ref f)) (kept : PySem.W.keepIn X.K (.ref f) = true) (ha : GA X W (e :: es) ga) (gl : Gl X x := by rfl)
    (hdb : (x == ("__debug__" : Str)) = false := by decide) (he : starEach (e :: es) X.env = (false, eval e X.env) :: starEach es X.env := by rfl) (hpl : (backTo pos (starEach es X.env)).any (·.1) = false := by rfl) :
    GE X W (.Call (.Name x p) (e :: es) [] pos) (gCall sp ga) := by
  refine PE.imp (t := tCallG X.K W sp (tGA X.K W ga)) ⟨fun pins s σ H Q inv want => ?_⟩ fun _ _ _ => tg_call
  apply wpAny_Call_Name_kw (ld_glob inv gl there _ hdb)
  apply PySem.W.callWith_K (h₀ := X.base) inv.ok.mod.kin kept _ he hpl
  refine thn (ha.run pos pins s σ H _ inv want) ?_
  rintro us s1 ⟨vs, H1, inv1, rel, got⟩
  exact ⟨inv1.kIn, C.run inv1 rel got⟩
theorem ge_call {st : Stmt} (Df_ : Df X.K X.mg x st ps f fd) (F : FnOk X.prog X.w X.K X.mg X.base (L2.CX X.prog X.w) k f fd ps (spG X.K sp)) (tk : Takes X W) (hr : Room k X.A) (ha : GA X W (e :: es) ga) (gl : Gl X x := by rfl)
    (hdb : (x == ("__debug__" : Str)) = false := by decide) (he : starEach (e :: es) X.env = (false, eval e X.env) :: starEach es X.env := by rfl) (hpl : (backTo pos (starEach es X.env)).any (·.1) = false := by rfl) :
    GE X W (.Call (.Name x p) (e :: es) [] pos) (gCall sp ga) := ge_callc (FnOk.c F Df_.b tk hr) Df_.g Df_.F.kp ha gl hdb he hpl
theorem ge_callQ {st : Stmt} (Df_ : Df X.K X.mg x st ps f fd) (F : FnG X.prog X.w X.K X.mg X.base k f fd ps (spG X.K sp)) (quiet : Quiet X.A) (tk : Takes X W) (hr : Room k X.A) (ha : GA X W (e :: es) ga) (gl : Gl X x := by rfl)
    (hdb : (x == ("__debug__" : Str)) = false := by decide) (he : starEach (e :: es) X.env = (false, eval e X.env) :: starEach es X.env := by rfl) (hpl : (backTo pos (starEach es X.env)).any (·.1) = false := by rfl) :
    GE X W (.Call (.Name x p) (e :: es) [] pos) (gCall sp ga) := ge_callc (FnG.c F Df_.b tk quiet hr) Df_.g Df_.F.kp ha gl hdb he hpl
/-- what a call hands back is changed no more -/
def gFrz (ga : GR) : GR := fun Γ S P E => ga Γ S (fun x S1 => ∃ d S2, FZ S1 x d S2 ∧ P (.dat d) S2) E
theorem ge_frz {e : Expr} {ga : GR} (h : GE X W e ga) : GE X W e (gFrz ga) := by
  refine PE.imp h ?_
  rintro σ H Q ⟨R, Γ, S, F, P, E, g, sl, h, on, ox⟩
  refine ⟨R, Γ, S, F, _, E, g, sl, h, fun v S1 F1 H1 x g1 s1 r1 h1 => ?_, ox⟩
  obtain ⟨d, S2, fz, q⟩ := h1
  obtain ⟨F2, g2, s2, w2⟩ := fz.run g1
  exact on v S2 F2 H1 (.dat d) g2 (s1.trans s2) (w2 _ r1) q
end
end LN

namespace LN
open PySem PySem.Spec PyProof.Rows L2
section
variable {X : Cx} {K : PySem.W.Frag} {W : WX} {tg e o : Expr} {es : List Expr} {ga : GR} {gt : GRA} {pos apos cpos : Pos} {k : Nat} {R F H : Hp} {S : Sto}
theorem oeq (r : Room k X.A) : OpR X (compareOp .Eq) (rG X.K rEq_) := opg_eq (by have := r.un; omega)
theorem one_ (r : Room k X.A) : OpR X (compareOp .NotEq) (rG X.K rNe_) := opg_ne (by have := r.un; omega)
theorem oin (r : Room k X.A) : OpR X (compareOp .In) (rG X.K rIn_) := opg_in (by have := r.un; omega)
theorem onin (r : Room k X.A) : OpR X (compareOp .NotIn) (rG X.K rNin_) := opg_nin (by have := r.un; omega)
theorem crepr (q : Quiet X.A) (r : Room k X.A) : CallR X (.builtin "repr") (cG X.K rRepr_) := crg_repr q (by have := r.un; omega)
/-! methods of lists that may be changed -/
abbrev RM := G → List G → Sto → (G → Sto → Prop) → Prop
def mG (K : PySem.W.Frag) (r : RM) : V → List V → Hp → VK → Prop := fun x xs H Q => ∃ R S F P gx gs, GS K R S F H ∧ GV K F x gx ∧ GVs K F xs gs ∧ r gx gs S P ∧ On K R F P Q
def isLst (S : Sto) (x : G) : Prop := ∃ gs, lstOf S x = some gs
def gBM (r : RM) (a : GR) (t : GRA) : GR := fun Γ S P E => a Γ S (fun x S1 => isLst S1 x ∧ t Γ S1 (fun xs S2 => r x xs S2 P) E) E
theorem tyv_lst {R : Hp} {S : Sto} {F H : Hp} {v : V} {x : G} (g : GS K R S F H) (r : GV K F v x) (h : isLst S x) : tyV K "list" v H := by
  obtain ⟨gs, h⟩ := h
  obtain ⟨a, vs, rfl, h1, _⟩ := lst_of g r h
  exact .inl ⟨rfl, vs, .inl (.inl h1)⟩
theorem ge_lm {name : Str} {id : String} {r : RM} (slot : Slot "list" name id) (hty : typeOf (.builtin id) = pure (.type "method_descriptor")) (hm : MtR X id (mG X.K r)) (ho : GE X W o ga) (ha : GA X W (e :: es) gt)
    (hbase : attributeBase o name X.env (eval o X.env) = eval o X.env := by rfl)
    (hfew : ((backTo cpos (starEach (e :: es) X.env)).all (fun x => !x.1) && (backToKw cpos (keywordEach [] X.env)).all (fun x => x.1.isSome)
      && decide ((e :: es).length + ([] : List Keyword).length + (if ([] : List Keyword).isEmpty then 0 else 1) < 30)) = true := by rfl)
    (hline : (apos.endLine == cpos.line) = true := by rfl) (hs : starEach (e :: es) X.env = (false, eval e X.env) :: starEach es X.env := by rfl) (hplain : (backTo cpos (starEach es X.env)).any (·.1) = false := by rfl) :
    GE X W (.Call (.Attribute o name apos) (e :: es) [] cpos) (gBM r ga gt) := by
  refine PE.imp (pe_bm PySem.F.plainAttrs_list slot hty hm ho ha hbase hfew hline hs hplain) ?_
  rintro σ H Q ⟨R, Γ, S, F, P, E, g, sl, h, on, ox⟩
  refine ⟨R, Γ, S, F, _, E, g, sl, h, fun v S1 F1 H1 x g1 s1 r1 h1 => ⟨tyv_lst g1 r1 h1.1, ?_⟩, ox⟩
  refine ⟨R, Γ, S1, F1, _, E, g1, sl.up s1, h1.2, fun ws S2 F2 H2 ys g2 s2 r2 h2 => ?_, ox.go s1⟩
  exact ⟨R, S2, F2, P, x, ys, g2, r1.up s2, r2, h2, on.go (s1.trans s2)⟩
theorem ge_lm0 {name : Str} {id : String} {r : RM} (slot : Slot "list" name id) (hty : typeOf (.builtin id) = pure (.type "method_descriptor")) (hm : MtR X id (mG X.K r)) (ho : GE X W o ga)
    (hbase : attributeBase o name X.env (eval o X.env) = eval o X.env := by rfl) (hline : (apos.endLine == cpos.line) = true := by rfl) : GE X W (.Call (.Attribute o name apos) [] [] cpos) (gBM r ga LN.gNil) := by
  refine PE.imp (pe_bm0 PySem.F.plainAttrs_list slot hty hm ho hbase hline) ?_
  rintro σ H Q ⟨R, Γ, S, F, P, E, g, sl, h, on, ox⟩
  refine ⟨R, Γ, S, F, _, E, g, sl, h, fun v S1 F1 H1 x g1 s1 r1 h1 => ⟨tyv_lst g1 r1 h1.1, ?_⟩, ox⟩
  exact ⟨R, S1, F1, P, x, [], g1, r1, .nil, h1.2, on.go s1⟩
/-- a list's new items -/
theorem on_put {P : G → Sto → Prop} {Q : VK} {a : Addr} {vs : List V} {gs hs : List G} {v : V} {x : G} (on : On K R F P Q) (g : GS K R S F H) (es : S a = some (.lst gs)) (r : GVs K F vs hs) (rx : GV K F v x) (h : P x (sup S a (.lst hs))) :
    Q v (upd H a (.lst vs)) := on v _ F _ x (g.put (v := .lst hs) es ⟨vs, upd_same, r⟩) (Up.refl _) rx h
theorem own_of {a : Addr} {v : V} {gs : List G} (g : GS K R S F H) (r : GV K F v (.loc a)) (e : S a = some (.lst gs)) : ∃ vs, v = .ref a ∧ H a = some (.lst vs) ∧ GVs K F vs gs := by
  obtain rfl := (show v = .ref a from r)
  obtain ⟨_, vs, h1, h2⟩ := g.obj a _ e
  exact ⟨vs, rfl, h1, h2⟩
def ownAt (S : Sto) (n : Addr) : Option (List G) := match S n with
  | some (.lst gs) => some gs
  | _ => none
theorem ownAt_of {S : Sto} {n : Addr} {gs : List G} (h : ownAt S n = some gs) : S n = some (.lst gs) := by
  unfold ownAt at h
  split at h
  · rename_i q
    cases h
    exact q
  · cases h
def rApp_ : RM := fun x gs S P => match x, gs with
  | .loc n, [y] => (match ownAt S n with
    | some xs => xs.length < 100000 ∧ P (.dat .non) (sup S n (.lst (xs ++ [y])))
    | none => False)
  | _, _ => False
theorem mg_app : MtR X "list.append" (mG X.K rApp_) := by
  rintro pins s σ H x xs v us Q I rx rs ⟨R, S, F, P, gx, gs, g, hx, hs, h, on⟩
  unfold rApp_ at h
  split at h
  · rename_i n y
    split at h
    · rename_i ys q
      have q := ownAt_of q
      obtain ⟨w, rfl, rw'⟩ := gvs1 hs
      obtain ⟨vs, rfl, e2, r2⟩ := own_of g hx q
      exact mt_append pins s σ H _ _ v us Q I rx rs ⟨n, vs, w, rfl, rfl, e2, by rw [gvs_len r2]; exact Nat.lt_of_lt_of_le h.1 (by decide), on_put on g q (gvs_app r2 (.cons rw' .nil)) (x := .dat .non) .non h.2⟩
    · exact h.elim
  · exact h.elim
def rRev_ : RM := fun x gs S P => match x, gs with
  | .loc n, [] => (match ownAt S n with
    | some xs => P (.dat .non) (sup S n (.lst xs.reverse))
    | none => False)
  | _, _ => False
theorem gvs_rev {F : Hp} : ∀ {vs : List V} {gs : List G}, GVs K F vs gs → GVs K F vs.reverse gs.reverse
  | _, _, .nil => .nil
  | _, _, .cons h r => by
    rw [List.reverse_cons, List.reverse_cons]
    exact gvs_app (gvs_rev r) (.cons h .nil)
theorem mg_rev : MtR X "list.reverse" (mG X.K rRev_) := by
  rintro pins s σ H x xs v us Q I rx rs ⟨R, S, F, P, gx, gs, g, hx, hs, h, on⟩
  unfold rRev_ at h
  split at h
  · rename_i n
    split at h
    · rename_i ys q
      have q := ownAt_of q
      cases hs
      obtain ⟨vs, rfl, e2, r2⟩ := own_of g hx q
      exact mt_reverse pins s σ H _ _ v us Q I rx rs ⟨n, vs, rfl, rfl, e2, on_put on g q (gvs_rev r2) (x := .dat .non) .non h⟩
    · exact h.elim
  · exact h.elim
def rClr_ : RM := fun x gs S P => match x, gs with
  | .loc n, [] => (match ownAt S n with
    | some _ => P (.dat .non) (sup S n (.lst []))
    | none => False)
  | _, _ => False
theorem mg_clr : MtR X "list.clear" (mG X.K rClr_) := by
  rintro pins s σ H x xs v us Q I rx rs ⟨R, S, F, P, gx, gs, g, hx, hs, h, on⟩
  unfold rClr_ at h
  split at h
  · rename_i n
    split at h
    · rename_i ys q
      have q := ownAt_of q
      cases hs
      obtain ⟨vs, rfl, e2, r2⟩ := own_of g hx q
      exact mt_clear pins s σ H _ _ v us Q I rx rs ⟨n, vs, rfl, rfl, e2, on_put on g q .nil (x := .dat .non) .non h⟩
    · exact h.elim
  · exact h.elim
def rIns_ : RM := fun x gs S P => match x, gs with
  | .loc n, [.dat (.int i), y] => (match ownAt S n with
    | some xs => xs.length < 100000 ∧ 0 ≤ i ∧ i < 2 ^ 63 ∧ P (.dat .non) (sup S n (.lst (xs.take i.toNat ++ [y] ++ xs.drop i.toNat)))
    | none => False)
  | _, _ => False
theorem gvs_take {F : Hp} : ∀ {vs : List V} {gs : List G} (n : Nat), GVs K F vs gs → GVs K F (vs.take n) (gs.take n)
  | _, _, 0, _ => .nil
  | _, _, _ + 1, .nil => .nil
  | _, _, n + 1, .cons h r => .cons h (gvs_take n r)
theorem gvs_drop {F : Hp} : ∀ {vs : List V} {gs : List G} (n : Nat), GVs K F vs gs → GVs K F (vs.drop n) (gs.drop n)
  | _, _, 0, r => r
  | _, _, _ + 1, .nil => .nil
  | _, _, n + 1, .cons _ r => gvs_drop n r
theorem mg_ins : MtR X "list.insert" (mG X.K rIns_) := by
  rintro pins s σ H x xs v us Q I rx rs ⟨R, S, F, P, gx, gs, g, hx, hs, h, on⟩
  unfold rIns_ at h
  split at h
  · rename_i n i y
    split at h
    · rename_i ys q
      have q := ownAt_of q
      obtain ⟨w1, w2, rfl, rw1, rw2⟩ := gvs2 hs
      cases (show Rp X.K F w1 (.int i) from rw1)
      obtain ⟨vs, rfl, e2, r2⟩ := own_of g hx q
      exact mt_insert pins s σ H _ _ v us Q I rx rs ⟨n, vs, i, w2, rfl, rfl, e2, by rw [gvs_len r2]; exact Nat.lt_of_lt_of_le h.1 (by decide), h.2.1, h.2.2.1, on_put on g q (gvs_app (gvs_app (gvs_take _ r2) (.cons rw2 .nil)) (gvs_drop _ r2)) (x := .dat .non) .non h.2.2.2⟩
    · exact h.elim
  · exact h.elim
def rExt_ : RM := fun x gs S P => match x, gs with
  | .loc n, [y] => (match ownAt S n, lstOf S y with
    | some xs, some ys => xs.length + ys.length ≤ 100000 ∧ P (.dat .non) (sup S n (.lst (xs ++ ys)))
    | _, _ => False)
  | _, _ => False
theorem mg_ext : MtR X "list.extend" (mG X.K rExt_) := by
  rintro pins s σ H x xs v us Q I rx rs ⟨R, S, F, P, gx, gs, g, hx, hs, h, on⟩
  unfold rExt_ at h
  split at h
  · rename_i n y
    split at h
    · rename_i xs ys q q2
      have q := ownAt_of q
      obtain ⟨w, rfl, rw'⟩ := gvs1 hs
      obtain ⟨vs, rfl, e2, r2⟩ := own_of g hx q
      obtain ⟨b, ws, rfl, e3, r3⟩ := lst_of g rw' q2
      exact mt_extend pins s σ H _ _ v us Q I rx rs ⟨n, b, vs, ws, rfl, rfl, e2, e3, by rw [gvs_len r2, gvs_len r3]; exact Nat.le_trans h.1 (by decide), on_put on g q (gvs_app r2 r3) (x := .dat .non) .non h.2⟩
    · exact h.elim
  · exact h.elim
/-! name += e -/
def gAug (i : Nat) (ga : GR) (r : RO) : GRS := fun d Γ S => match nth Γ i with
  | some x => ga Γ S (fun y S1 => r x y S1 fun z S2 => d.nx (Γ.set i (some z)) S2) (d.ex Γ)
  | none => False
def rIadd_ : RO := fun x y S P => match x, y with
  | .dat (.int i), .dat (.int j) => P (.dat (.int (i + j))) S
  | .dat (.str a), .dat (.str b) => a.length + b.length ≤ sizeLine ∧ P (.dat (.str (a ++ b))) S
  | _, _ => False
theorem ip_add : PIp X .Add (rG X.K rIadd_) := by
  rintro pins s σ H x y v u Q I rx ry ⟨R, S, F, P, gx, gy, g, hx, hy, h, on⟩
  unfold rIadd_ at h
  split at h
  · cases hx; cases hy
    exact iop_add pins s σ H _ _ v u Q I rx ry ⟨_, _, rfl, rfl, on.now g (x := .dat _) (.int _) h⟩
  · cases hx; cases hy
    exact iop_add_str pins s σ H _ _ v u Q I rx ry ⟨_, _, rfl, rfl, h.1, on.now g (x := .dat _) (.str _) h.2⟩
  · exact h.elim
theorem gs_aug {i : Nat} {x : Str} {op : Operator} {r : RO} {pos' : Pos} (hN : X.N.Nodup) (hi : X.N[i]? = some x) (hx : Loc X.env.scope x) (he : GE X W e ga) (ho : PIp X op (rG X.K r)) (hf : X.fn x = true ∨ X.env.scope.names.lookup x = some .local := by first | exact .inl rfl | exact .inr rfl | assumption) :
    GSt X W (.AugAssign (.Name x pos') op e pos) (gAug i ga r) := by
  refine PS.imp (ps_aug hN hi hx he ho hf) ?_
  rintro D σ H ⟨R, Γ, S, F, d, g, sl, h, on⟩
  unfold gAug at h
  cases q : nth Γ i with
  | none => rw [q] at h; exact h.elim
  | some y =>
    rw [q] at h
    obtain ⟨v, e', r⟩ := sl.at_ i y (nth_at q)
    refine ⟨v, e', R, Γ, S, F, _, _, g, sl, h, fun w S1 F1 H1 z g1 s1 r1 h1 => ?_, on.ex sl⟩
    exact ⟨R, S1, F1, _, y, z, g1, r.up s1, r1, h1, fun u S2 F2 H2 zz g2 s2 r2 h2 => on.nx _ S2 F2 H2 _ g2 ((sl.up (s1.trans s2)).set r2) (s1.trans s2) h2⟩
end
end LN

namespace LN
open PySem PySem.Spec PyProof.Rows L2
section
variable {X : Cx} {K : PySem.W.Frag} {W : WX} {e o : Expr} {es : List Expr} {ga : GR} {gt : GRA} {pos apos cpos : Pos} {k : Nat}
/-! isinstance -/
/-- what is asked of an own class -/
structure OwnC (K : PySem.W.Frag) (C : Addr) : Prop where
  cl : Cls K C
  ca : PySem.W.findIn K (.ref C) "__class__" = some (some (.builtin "object.__class__"))
  cn : PySem.W.specialIn K (.builtin "object.__class__") "__get__" = some (some (.builtin "getset_descriptor.__get__"))
  ct : PySem.W.takesIn K (.builtin "object.__class__") = some true
  cm : PySem.W.mroIn K C (.type "object") = some true
  ci : PySem.W.kitOne K (.ref C) (.type "int") = some false
  cs : PySem.W.kitOne K (.ref C) (.type "str") = some false
  cu : PySem.W.kitOne K (.ref C) (.type "tuple") = some false
  cz : PySem.W.kitOne K (.ref C) (.type "list") = some false
  cd : PySem.W.kitOne K (.ref C) (.type "dict") = some false
  cb : PySem.W.kitOne K (.ref C) (.type "bool") = some false
/-- a value's type -/
inductive Ty where
  | ty (n : String)
  | own (C : Addr)
def Ty.v : Ty → Value
  | .ty n => .type n
  | .own C => .ref C
def tyD : D → Option Ty
  | .non => some (.ty "NoneType")
  | .bl _ => some (.ty "bool")
  | .int _ => some (.ty "int")
  | .str _ => some (.ty "str")
  | .tup _ => some (.ty "tuple")
  | .lst _ => some (.ty "list")
  | .dct _ => some (.ty "dict")
  | .obj C _ => some (.own C)
  | .wt _ => some (.ty "tuple")
  | .ro _ => none
  | .val _ => none
  | .raw _ => none
  | .exc _ _ _ _ => none
def tyG (S : Sto) : G → Option Ty
  | .dat d => tyD d
  | .loc n => match S n with
    | some (.lst _) => some (.ty "list")
    | some (.dct _) => some (.ty "dict")
    | some (.dlk _ _ _) => some (.ty "dict")
    | some (.ins C _) => some (.own C)
    | _ => none
/-- .. of a dict that is locked, too -/
inductive TyY (K : PySem.W.Frag) (H : Hp) : V → Value → Prop where
  | x {v : V} {t : Value} (h : TyX K H v t) : TyY K H v t
  | fT {a : Addr} {o : Obj} {kvs : List (List L2.Key × V)} (e : H a = some (.frz o (.dT kvs))) : TyY K H (.ref a) (.type "dict")
theorem TyY.kit {pins : List (Addr × Obj)} {σ : L2.St} {H : Hp} {s : Shared} {x : V} {u t : Value} (ty : TyY X.K H x t) (I : Inv X pins σ H s) (rx : RelV x u) : ∃ P : Heap → Prop, PySem.W.KitX X.K u t P ∧ P s.heap ∧ u ≠ .builtin "__main__.__loader__#opaque" := by
  cases ty with
  | x h => exact kit_of I rx h
  | @fT a o kvs e =>
    obtain rfl : u = Value.ref a := rx
    have here := I.hok a _ e
    obtain ⟨_, _, _, xs, _, o, es, ep, there, exact_, _⟩ := here
    exact ⟨_, PySem.W.kitx_dict, ⟨o, there, exact_.1⟩, fun z => nomatch z⟩
theorem ty_of {R F H : Hp} {S : Sto} {v : V} {x : G} {t : Ty} (g : GS K R S F H) (own : ∀ C, t = .own C → OwnC K C) (r : GV K F v x) (e : tyG S x = some t) : TyY K H v t.v := by
  cases x with
  | loc n =>
    obtain rfl := (show v = .ref n from r)
    cases q : S n with
    | none => simp only [tyG, q] at e; cases e
    | some o =>
      have ob := (g.obj n _ q).2
      cases o with
      | lst gs => simp only [tyG, q] at e; cases e; obtain ⟨vs, h, _⟩ := ob; exact .x (.base (.lst h))
      | dct gs => simp only [tyG, q] at e; cases e; obtain ⟨vs, h, _⟩ := ob; exact .x (.base (.dT h))
      | dlk od ks gs => simp only [tyG, q] at e; cases e; obtain ⟨h, _⟩ := ob; exact .fT h
      | ins C gs =>
        simp only [tyG, q] at e; cases e
        obtain ⟨dx, vs, h, _⟩ := ob
        have c := own C rfl
        exact .x (.base (.ins h c.cl c.ca c.cn c.ct c.cm))
      | bag => simp only [tyG, q] at e; cases e
      | raw _ => simp only [tyG, q] at e; cases e
  | dat d =>
    cases d with
    | non => cases r; cases e; exact .x (.base .non)
    | bl b => cases r; cases e; exact .x (.base (.bl b))
    | int i => cases r; cases e; exact .x (.base (.int i))
    | str z => cases r; cases e; exact .x (.base (.str z))
    | val w => exact nomatch (show none = some _ from e)
    | ro ds => exact nomatch (show none = some _ from e)
    | raw _ => exact nomatch (show none = some _ from e)
    | exc _ _ _ _ => exact nomatch (show none = some _ from e)
    | tup ds =>
      cases e
      cases (show Rp K F v (.tup ds) from r) with
      | tup h _ => exact .x (.base (.tup (g.sub _ _ h)))
    | wt ds =>
      cases e
      cases (show Rp K F v (.wt ds) from r) with
      | wt h _ =>
        rcases (Up.of g.sub).t h with (h | ⟨ob, h⟩) | h
        · exact .x (.base (.tup h))
        · exact .x (.fTuple h)
        · obtain ⟨o, _, _, e1, e2, _⟩ := h
          exact .x (.kTuple e1 e2)
    | lst ds =>
      cases e
      cases (show Rp K F v (.lst ds) from r) with
      | lst h _ => exact .x (.base (.lst (g.sub _ _ h)))
    | dct ds =>
      cases e
      cases (show Rp K F v (.dct ds) from r) with
      | dct h _ =>
        rcases h with h | ⟨ob, h⟩
        · exact .x (.base (.dT (g.sub _ _ h)))
        · exact .fT (g.sub _ _ h)
    | obj C ds =>
      cases e
      cases (show Rp K F v (.obj C ds) from r) with
      | obj h _ =>
        have c := own C rfl
        exact .x (.base (.ins (g.sub _ _ h) c.cl c.ca c.cn c.ct c.cm))
/-- of two built-in types -/
def isB (m n : String) : Bool := m == n || (m == "bool" && n == "int")
def tyNames : List String := ["NoneType", "bool", "int", "str", "tuple", "list", "dict"]
def clNames : List String := ["bool", "int", "str", "tuple", "list", "dict"]
theorem kitB_is : ∀ m ∈ tyNames, ∀ n ∈ clNames, kitB m n = some (isB m n) := by decide +kernel
def oneCl (K : PySem.W.Frag) (t : Ty) (c : D) (P : Bool → Prop) : Prop := match t, c with
  | .ty m, .val (.ty n) => m ∈ tyNames ∧ n ∈ clNames ∧ P (isB m n)
  | .own C, .val (.ty n) => n ∈ clNames ∧ P false
  | t, .val (.ref C) => ∃ b, PySem.W.kitOne K t.v (.ref C) = some b ∧ P b
  | _, _ => False
theorem oneCl_of {t : Ty} {c : D} {P : Bool → Prop} (own : ∀ C, t = .own C → OwnC K C) (h : oneCl K t c P) : ∃ v u b, ClsV v u ∧ c = .val v ∧ PySem.W.kitOne K t.v u = some b ∧ P b := by
  unfold oneCl at h
  split at h
  · rename_i m n
    exact ⟨_, _, _, .ty n, rfl, kit_ty (kitB_is m h.1 n h.2.1), h.2.2⟩
  · rename_i C n
    have c := own C rfl
    refine ⟨_, _, false, .ty n, rfl, ?_, h.2⟩
    have hn := h.1
    simp only [clNames, List.mem_cons, List.not_mem_nil, or_false] at hn
    rcases hn with rfl | rfl | rfl | rfl | rfl | rfl
    · exact c.cb
    · exact c.ci
    · exact c.cs
    · exact c.cu
    · exact c.cz
    · exact c.cd
  · rename_i C _
    obtain ⟨b, h1, h2⟩ := h
    exact ⟨_, _, b, .own _, rfl, h1, h2⟩
  · exact h.elim
def rIsi_ (K : PySem.W.Frag) : RC := fun gs S P => match gs with
  | [x, .dat (.tup [c1, c2])] => (match tyG S x with
    | some t => (∀ C, t = .own C → OwnC K C) ∧ oneCl K t c1 fun b1 => oneCl K t c2 fun b2 => P (.dat (.bl (b1 || b2))) S
    | none => False)
  | [x, .dat c] => (match tyG S x with
    | some t => (∀ C, t = .own C → OwnC K C) ∧ oneCl K t c fun b => P (.dat (.bl b)) S
    | none => False)
  | _ => False
theorem classes_of {K : PySem.W.Frag} {F H : Hp} {R : Hp} {S : Sto} {w : V} {c1 c2 : D} (g : GS K R S F H) (hy : Rp K F w (.tup [c1, c2])) {v1 v2 : V} {u1 u2 : Value} (k1 : ClsV v1 u1) (k2 : ClsV v2 u2) (e1 : c1 = .val v1) (e2 : c2 = .val v2) : ∃ a, w = .ref a ∧ H a = some (.tup [v1, v2]) ∧ Paired ClsV [v1, v2] [u1, u2] := by
  subst e1 e2
  cases hy with
  | @tup a xs _ h1 h2 =>
    have hxs : xs = [v1, v2] := by
      cases h2 with
      | cons r1 h2 =>
        cases h2 with
        | cons r2 h2 => cases h2; cases r1; cases r2; rfl
    subst hxs
    exact ⟨a, rfl, g.sub _ _ h1, .cons k1 (.cons k2 .nil)⟩
theorem isi_two {pins : List (Addr × Obj)} {σ : L2.St} {H : Hp} {s : Shared} {Q : VK} {u1 u2 : Value} {a : Addr} {cs : List V} {us : List Value} {t : Value} {b : Bool} (I : Inv X pins σ H s) (there : H a = some (.tup cs)) (cls : Paired ClsV cs us)
    (kit : ∃ P : Heap → Prop, PySem.W.KitX X.K u1 t P ∧ P s.heap ∧ u1 ≠ .builtin "__main__.__loader__#opaque") (r2 : RelV (.ref a) u2) (e : PySem.W.kitAny X.K t us = some b) (q : Q (.bl b) H) : wpAny (model X.prog X.w) X.A (call (.builtin "isinstance") [u1, u2]) (EP X pins σ Q) X.xe s := by
  obtain rfl : u2 = Value.ref a := r2
  obtain ⟨its, rv, ⟨⟨oc, od, dt, sl⟩, at_, c1, n, c2⟩, _⟩ := I.tuple (.inl (.inl there))
  have same := ClsV.all cls rv
  subst same
  simp only at c1 c2
  subst c1 c2
  obtain ⟨P, Z, p, hx⟩ := kit
  exact PySem.W.kia_tup Z I.kIn p at_ e hx fun tk => ⟨.bl b, H, I.tok tk, rfl, q⟩
theorem isi_one {pins : List (Addr × Obj)} {σ : L2.St} {H : Hp} {s : Shared} {Q : VK} {u1 u2 : Value} {c : V} {u t : Value} {b : Bool} (I : Inv X pins σ H s) (cls : ClsV c u)
    (kit : ∃ P : Heap → Prop, PySem.W.KitX X.K u1 t P ∧ P s.heap ∧ u1 ≠ .builtin "__main__.__loader__#opaque") (r2 : RelV c u2) (e : PySem.W.kitOne X.K t u = some b) (q : Q (.bl b) H) : wpAny (model X.prog X.w) X.A (call (.builtin "isinstance") [u1, u2]) (EP X pins σ Q) X.xe s := by
  rw [cls.eq r2]
  obtain ⟨P, Z, p, hx⟩ := kit
  exact PySem.W.kia_one Z I.kIn p e hx fun tk => ⟨.bl b, H, I.tok tk, rfl, q⟩
theorem any_two {K : PySem.W.Frag} {t u1 u2 : Value} {b1 b2 : Bool} (e1 : PySem.W.kitOne K t u1 = some b1) (e2 : PySem.W.kitOne K t u2 = some b2) : PySem.W.kitAny K t [u1, u2] = some (b1 || b2) :=
  kitAny_cons e1 (fun z => kitAny_cons e2 (fun z2 => by rw [z, z2]; exact kitAny_nil) (fun z2 => by rw [z, z2]; rfl)) (fun z => by rw [z]; rfl)
theorem crg_isi : CallR X (.builtin "isinstance") (cG X.K (rIsi_ X.K)) := by
  rintro pins s σ H vs us Q I r ⟨R, S, F, P, gs, g, hv, h, on⟩
  unfold rIsi_ at h
  split at h
  · rename_i x c1 c2
    obtain ⟨v, w, rfl, hx, hy⟩ := gvs2 hv
    split at h
    · rename_i t e
      obtain ⟨own, h⟩ := h
      obtain ⟨v1, u1, b1, k1, q1, e1, h⟩ := oneCl_of own h
      obtain ⟨v2, u2, b2, k2, q2, e2, h⟩ := oneCl_of own h
      obtain ⟨a, rfl, ha, cl⟩ := classes_of g hy k1 k2 q1 q2
      obtain ⟨y1, y2, rfl, r1, r2⟩ := vals2 r
      exact isi_two I ha cl ((ty_of g own hx e).kit I r1) r2 (any_two e1 e2) (on.now g (x := .dat (.bl (b1 || b2))) (.bl _) h)
    · exact h.elim
  · rename_i x c _
    obtain ⟨v, w, rfl, hx, hy⟩ := gvs2 hv
    split at h
    · rename_i t e
      obtain ⟨own, h⟩ := h
      obtain ⟨v1, u1, b1, k1, rfl, e1, h9⟩ := oneCl_of own h
      have hw : w = v1 := by cases (show Rp X.K F w (.val v1) from hy); rfl
      subst hw
      obtain ⟨y1, y2, rfl, r1, r2⟩ := vals2 r
      exact isi_one I k1 ((ty_of g own hx e).kit I r1) r2 e1 (on.now g (x := .dat (.bl b1)) (.bl _) h9)
    · exact h.elim
  · exact h.elim
/-- a class as a value -/
theorem gty {x : Str} {n : String} (hm : X.mg x = none) (hv : bootBuiltins x = some (.type n)) (hg : Gl X x := by rfl) (hn : x ≠ "__name__" := by decide) (hd : (x == ("__debug__" : Str)) = false := by decide) : GE X W (.Name x pos) (gC (.val (.ty n))) := gconst (pe_bltn (v := .ty n) hg hm hv rfl hn hd) fun _ => .val _
theorem gcls {x : Str} {C : Addr} (hm : X.mg x = some (.ref C)) (hg : Gl X x := by rfl) (hd : (x == ("__debug__" : Str)) = false := by decide) : GE X W (.Name x pos) (gC (.val (.ref C))) := gconst (pe_glob (v := .ref C) hg hm rfl hd) fun _ => .val _
/-! fields -/
def fldOf (S : Sto) (f : Str) : G → Option (Addr × G)
  | .dat (.obj C fs) => (fs.lookup f).map fun d => (C, .dat d)
  | .loc n => match S n with
    | some (.ins C fs) => (fs.lookup f).map fun y => (C, y)
    | _ => none
  | _ => none
def gFld (K : PySem.W.Frag) (f : Str) (ga : GR) : GR := fun Γ S P E => ga Γ S (fun x S1 => match fldOf S1 f x with
  | some (C, y) => (Cls K C ∧ NoAttr K C f) ∧ P y S1
  | none => False) E
theorem gfs_at {F : Hp} {f : Str} {y : G} : ∀ {fs : List (Str × V)} {gs : List (Str × G)}, GFs K F fs gs → gs.lookup f = some y → ∃ v, fs.lookup f = some v ∧ GV K F v y
  | _, _, .nil, e => by simp at e
  | (k, v) :: fs, (k', y') :: gs, .cons h r, e => by
    obtain ⟨h1, h2⟩ := h
    simp only at h1 h2
    subst h1
    rw [List.lookup_cons] at e
    rw [List.lookup_cons]
    cases q : f == k with
    | true => rw [q] at e; cases e; exact ⟨v, rfl, h2⟩
    | false => rw [q] at e; exact gfs_at r e
theorem fld_of {R F H : Hp} {S : Sto} {f : Str} {v : V} {x y : G} {C : Addr} (g : GS K R S F H) (r : GV K F v x) (e : fldOf S f x = some (C, y)) : ∃ a dx fs w, v = .ref a ∧ H a = some (.ins C dx fs) ∧ fs.lookup f = some w ∧ GV K F w y := by
  cases x with
  | dat d =>
    cases d with
    | obj C' fs =>
      obtain ⟨d, q, z⟩ := mapS (show (fs.lookup f).map (fun d => (C', G.dat d)) = some (C, y) from e)
      cases z
      cases (show Rp K F v (.obj C fs) from r) with
      | obj h2 h3 =>
        obtain ⟨w, e1, r⟩ := h3.at q
        exact ⟨_, _, _, w, rfl, g.sub _ _ h2, e1, r⟩
    | _ => exact nomatch (show none = some _ from e)
  | loc n =>
    obtain rfl := (show v = .ref n from r)
    cases q : S n with
    | none => simp only [fldOf, q] at e; cases e
    | some o =>
      cases o with
      | ins C' fs =>
        simp only [fldOf, q] at e
        obtain ⟨z0, q2, z⟩ := mapS e
        cases z
        obtain ⟨_, dx, vs, h2, h3⟩ := g.obj n _ q
        obtain ⟨w, e2, r⟩ := gfs_at h3 q2
        exact ⟨n, dx, vs, w, rfl, h2, e2, r⟩
      | _ => simp only [fldOf, q] at e; cases e
theorem ge_fld {f : Str} (he : GE X W e ga) (hb : attributeBase e f X.env (eval e X.env) = eval e X.env := by rfl) : GE X W (.Attribute e f pos) (gFld X.K f ga) := by
  refine PE.imp (pe_fld he hb) ?_
  rintro σ H Q ⟨R, Γ, S, F, P, E, g, sl, h, on, ox⟩
  refine ⟨R, Γ, S, F, _, E, g, sl, h, fun v S1 F1 H1 x g1 s1 r1 h1 => ?_, ox⟩
  dsimp only at h1
  split at h1
  · rename_i C y q
    obtain ⟨⟨c, n⟩, h1⟩ := h1
    obtain ⟨a, dx, fs, w, rfl, h2, e2, r⟩ := fld_of g1 r1 q
    exact ⟨a, C, dx, fs, w, rfl, h2, c, n, e2, (on.go s1).now g1 r h1⟩
  · exact h1.elim
/-- self.f = e, self an object that may be changed -/
def putG (f : Str) (y : G) : List (Str × G) → List (Str × G)
  | [] => [(f, y)]
  | (k, z) :: fs => if k = f then (k, y) :: fs else (k, z) :: putG f y fs
def gSto (K : PySem.W.Frag) (f : Str) (ga gv : GR) : GRS := fun d Γ S => gv Γ S (fun y S1 => ga Γ S1 (fun x S2 => match x with
  | .loc n => (match S2 n with
    | some (.ins C fs) => (Cls K C ∧ NoAttr K C f ∧ fs.length < 1000) ∧ d.nx Γ (sup S2 n (.ins C (putG f y fs)))
    | _ => False)
  | _ => False) (d.ex Γ)) (d.ex Γ)
theorem gfs_put {F : Hp} {f : Str} {v : V} {y : G} (r : GV K F v y) : ∀ {fs : List (Str × V)} {gs : List (Str × G)}, GFs K F fs gs → GFs K F (putF f v fs) (putG f y gs)
  | _, _, .nil => .cons ⟨rfl, r⟩ .nil
  | (k, w) :: fs, (k', z) :: gs, .cons h t => by
    obtain ⟨h1, h2⟩ := h
    simp only at h1 h2
    subst h1
    unfold putF putG
    by_cases q : k = f
    · rw [if_pos q, if_pos q]
      exact .cons ⟨rfl, r⟩ t
    · rw [if_neg q, if_neg q]
      exact .cons ⟨rfl, h2⟩ (gfs_put r t)
theorem gs_sto {f : Str} {pos' : Pos} {value : Expr} {gv : GR} (ha : GE X W o ga) (hv : GE X W value gv) (hs : swapsWith value (some (.Attribute o f pos')) pos.line X.env = pure false := by rfl) : GSt X W (.Assign [.Attribute o f pos'] value pos) (gSto X.K f ga gv) := by
  refine PS.imp (ps_fld ha hv hs) ?_
  rintro D σ H ⟨R, Γ, S, F, d, g, sl, h, on⟩
  refine ⟨R, Γ, S, F, _, _, g, sl, h, fun w S1 F1 H1 y g1 s1 r1 h1 => ?_, on.ex sl⟩
  refine ⟨R, Γ, S1, F1, _, _, g1, sl.up s1, h1, fun v S2 F2 H2 x g2 s2 r2 h2 => ?_, (on.ex sl).go s1⟩
  dsimp only at h2
  split at h2
  · rename_i n
    split at h2
    · rename_i C fs q
      obtain ⟨⟨c, na, few⟩, h2⟩ := h2
      obtain rfl := (show v = .ref n from r2)
      obtain ⟨f0, dx, vs, e2, r⟩ := g2.obj n _ q
      refine ⟨n, C, dx, vs, rfl, e2, c, na, by rw [Paired.length r]; exact few, ?_⟩
      refine on.nx Γ _ F2 _ σ (g2.put (v := .ins C (putG f y fs)) q ⟨dx, _, upd_same, gfs_put (r1.up s2) r⟩) (sl.up (s1.trans s2)) (s1.trans s2) h2
    · exact h2.elim
  · exact h2.elim
end
end LN

namespace LN
open PySem PySem.Spec PyProof.Rows L2
section
variable {X : Cx} {K : PySem.W.Frag} {W : WX} {e o : Expr} {es : List Expr} {ga gb : GR} {gt gk : GRA} {pos apos cpos p : Pos} {k : Nat} {C f : Addr} {fd : FuncData} {ps : List Str} {sp : GSp} {x m : Str} {R F H : Hp} {S : Sto}
/-! own objects -/
def isOf (S : Sto) (C : Addr) : G → Prop
  | .dat (.obj C' _) => C' = C
  | .loc n => (match S n with
    | some (.ins C' _) => C' = C
    | _ => False)
  | _ => False
/-- .. without an attribute of that name -/
def isOfM (S : Sto) (C : Addr) (m : Str) : G → Prop
  | .dat (.obj C' fs) => C' = C ∧ fs.lookup m = none
  | .loc n => (match S n with
    | some (.ins C' fs) => C' = C ∧ fs.lookup m = none
    | _ => False)
  | _ => False
theorem gfs_none {f : Str} : ∀ {fs : List (Str × V)} {gs : List (Str × G)}, GFs K F fs gs → gs.lookup f = none → fs.lookup f = none
  | _, _, .nil, _ => rfl
  | (k, v) :: fs, (k', y') :: gs, .cons h r, e => by
    obtain ⟨h1, h2⟩ := h
    simp only at h1 h2
    subst h1
    rw [List.lookup_cons] at e ⊢
    cases q : f == k with
    | true => rw [q] at e; cases e
    | false => rw [q] at e; exact gfs_none r e
theorem isOfM_at {v : V} {y : G} (g : GS K R S F H) (r : GV K F v y) (h : isOfM S C m y) : ∃ a dx fs, v = .ref a ∧ H a = some (.ins C dx fs) ∧ fs.lookup m = none := by
  cases y with
  | dat d =>
    cases d with
    | obj C' fs =>
      obtain ⟨rfl, free⟩ := (show C' = C ∧ fs.lookup m = none from h)
      cases (show Rp K F v (.obj C' fs) from r) with
      | obj h1 h2 => exact ⟨_, _, _, rfl, g.sub _ _ h1, h2.none free⟩
    | _ => exact (show False from h).elim
  | loc n =>
    obtain rfl := (show v = .ref n from r)
    cases q : S n with
    | none => simp only [isOfM, q] at h
    | some o =>
      cases o with
      | ins C' fs =>
        simp only [isOfM, q] at h
        obtain ⟨rfl, h⟩ := h
        obtain ⟨_, dx, vs, h1, h2⟩ := g.obj n _ q
        exact ⟨n, dx, vs, rfl, h1, gfs_none h2 h⟩
      | _ => simp only [isOfM, q] at h
theorem isOf_at {v : V} {y : G} (g : GS K R S F H) (r : GV K F v y) (h : isOf S C y) : ∃ a dx fs, v = .ref a ∧ H a = some (.ins C dx fs) := by
  cases y with
  | dat d =>
    cases d with
    | obj C' fs =>
      obtain rfl := (show C' = C from h)
      cases (show Rp K F v (.obj C' fs) from r) with
      | obj h1 h2 => exact ⟨_, _, _, rfl, g.sub _ _ h1⟩
    | _ => exact (show False from h).elim
  | loc n =>
    obtain rfl := (show v = .ref n from r)
    cases q : S n with
    | none => simp only [isOf, q] at h
    | some o =>
      cases o with
      | ins C' fs =>
        simp only [isOf, q] at h
        subst h
        obtain ⟨_, dx, vs, h1, _⟩ := g.obj n _ q
        exact ⟨n, dx, vs, rfl, h1⟩
      | _ => simp only [isOf, q] at h
theorem ins_at {pins : List (Addr × Obj)} {σ : L2.St} {s : Shared} {a dx : Addr} {fs : List (Str × V)} (I : Inv X pins σ H s) (h : H a = some (.ins C dx fs)) : ∃ od, PySem.W.InstAt s.heap a (PySem.W.instObj C dx) C (some od) := by
  obtain ⟨mA, O, _⟩ := ins_get I.hok h
  obtain ⟨od, J, _⟩ := O.look
  exact ⟨od, J⟩
/-! an expression, arguments, as they run -/
theorem GE.at_ {pins : List (Addr × Obj)} {σ : L2.St} {s : Shared} {Γ : List (Option G)} {P : G → Sto → Prop} {E : XP} (he : GE X W e ga) (inv : Inv X pins σ H s) (g : GS X.K R S F H) (sl : SL X.K F Γ σ) (h : ga Γ S P E) (ox : OnX X.K R F W σ E) :
    wpAny (model X.prog X.w) X.A (eval e X.env) (fun u s' => ∃ v H1 S1 F1 y, Inv X pins σ H1 s' ∧ RelV v u ∧ GS X.K R S1 F1 H1 ∧ Up F F1 ∧ GV X.K F1 v y ∧ P y S1) X.xe s := by
  refine thn (he.run pins s σ H (fun v H1 => ∃ S1 F1 y, GS X.K R S1 F1 H1 ∧ Up F F1 ∧ GV X.K F1 v y ∧ P y S1) inv ⟨R, Γ, S, F, P, E, g, sl, h, fun v S1 F1 H1 y g1 s1 r1 h1 => ⟨S1, F1, y, g1, s1, r1, h1⟩, ox⟩) ?_
  rintro u s' ⟨v, H1, inv1, rv, S1, F1, y, g1, s1, r1, h1⟩
  exact ⟨v, H1, S1, F1, y, inv1, rv, g1, s1, r1, h1⟩
theorem GA.at_ {pins : List (Addr × Obj)} {σ : L2.St} {s : Shared} {Γ : List (Option G)} {P : List G → Sto → Prop} {E : XP} (he : GA X W es gt) (inv : Inv X pins σ H s) (g : GS X.K R S F H) (sl : SL X.K F Γ σ) (h : gt Γ S P E) (ox : OnX X.K R F W σ E) :
    wpAny (model X.prog X.w) X.A (spliced (backTo pos (starEach es X.env))) (fun us s' => ∃ vs H1 S1 F1 ys, Inv X pins σ H1 s' ∧ Vals vs us ∧ GS X.K R S1 F1 H1 ∧ Up F F1 ∧ GVs X.K F1 vs ys ∧ P ys S1) X.xe s := by
  refine thn (he.run pos pins s σ H (fun vs H1 => ∃ S1 F1 ys, GS X.K R S1 F1 H1 ∧ Up F F1 ∧ GVs X.K F1 vs ys ∧ P ys S1) inv ⟨R, Γ, S, F, P, E, g, sl, h, fun v S1 F1 H1 y g1 s1 r1 h1 => ⟨S1, F1, y, g1, s1, r1, h1⟩, ox⟩) ?_
  rintro u s' ⟨v, H1, inv1, rv, S1, F1, y, g1, s1, r1, h1⟩
  exact ⟨v, H1, S1, F1, y, inv1, rv, g1, s1, r1, h1⟩
/-- what is handed on -/
theorem ep_now {pins : List (Addr × Obj)} {σ : L2.St} {s : Shared} {Q : VK} {v : V} {u : Value} (inv : Inv X pins σ H s) (rv : RelV v u) (q : Q v H) : EP X pins σ Q u s := ⟨v, H, inv, rv, q⟩
/-! methods -/
def gMeth (C : Addr) (m : Str) (sp : GSp) (ga : GR) (gt : GRA) : GR := fun Γ S P E => ga Γ S (fun y S1 => isOfM S1 C m y ∧ gt Γ S1 (fun gs S2 => sp (y :: gs) S2 P E) E) E
theorem ge_meth {pl : Sem Bool} (ho : GE X W o ga) (c : Cls X.K C) (hm : Meth X.K C m f) (T : CallG X W f sp) (ha : GA X W (e :: es) gt)
    (hst : starEach (e :: es) X.env = (false, eval e X.env) :: starEach es X.env := by rfl) (hpl : (backTo pos (starEach es X.env)).any (·.1) = false := by rfl)
    (ht : eval (.Call (.Attribute o m apos) (e :: es) [] pos) X.env = (do
      let ov ← eval o X.env
      standAt apos.atName
      let (f, first) ← holding [ov] (getMethod ov m pl)
      callWith pos f first (backTo pos (starEach (e :: es) X.env)) (backToKw pos (keywordEach [] X.env))) := by rfl) :
    GE X W (.Call (.Attribute o m apos) (e :: es) [] pos) (gMeth C m sp ga gt) := by
  constructor
  rintro pins s σ H Q inv ⟨R, Γ, S, Fz, P, E, g, sl, h, on, ox⟩
  refine PySem.W.methodCall_KW (pl := pl) (thn (ho.at_ inv g sl h ox) ?_) ht
  rintro u s1 ⟨v, H1, S1, F1, y, inv1, rv, g1, u1, r1, is, h1⟩
  obtain ⟨a, dx, fs, rfl, at_, free⟩ := isOfM_at g1 r1 is
  obtain rfl : u = Value.ref a := rv
  refine getmeth_ok inv1 at_ c hm free ?_
  refine PySem.W.callWith_K (first := [.ref a]) (h₀ := X.base) inv.ok.mod.kin hm.kp (thn (ha.at_ inv1 g1 (sl.up u1) h1 (ox.go u1)) ?_) hst hpl
  rintro us s2 ⟨vs, H2, S2, F2, gs, inv2, rel, g2, u2, r2, h2⟩
  exact ⟨inv2.kIn, T.run (us := .ref a :: us) (vs := .ref a :: vs) inv2 (.cons rfl rel) ⟨R, S2, F2, y :: gs, P, E, g2, .cons (r1.up u2) r2, h2, on.go (u1.trans u2), ox.go (u1.trans u2)⟩⟩
theorem ge_meth0 {pl : Sem Bool} (ho : GE X W o ga) (c : Cls X.K C) (hm : Meth X.K C m f) (T : CallG X W f sp)
    (ht : eval (.Call (.Attribute o m apos) [] [] pos) X.env = (do
      let ov ← eval o X.env
      standAt apos.atName
      let (f, first) ← holding [ov] (getMethod ov m pl)
      callWith pos f first (backTo pos (starEach [] X.env)) (backToKw pos (keywordEach [] X.env))) := by rfl) :
    GE X W (.Call (.Attribute o m apos) [] [] pos) (gMeth C m sp ga LN.gNil) := by
  constructor
  rintro pins s σ H Q inv ⟨R, Γ, S, Fz, P, E, g, sl, h, on, ox⟩
  refine PySem.W.methodCall_KW (pl := pl) (thn (ho.at_ inv g sl h ox) ?_) ht
  rintro u s1 ⟨v, H1, S1, F1, y, inv1, rv, g1, u1, r1, is, h1⟩
  obtain ⟨a, dx, fs, rfl, at_, free⟩ := isOfM_at g1 r1 is
  obtain rfl : u = Value.ref a := rv
  refine getmeth_ok inv1 at_ c hm free ?_
  exact PySem.W.callWith_K0 inv1.kIn hm.kp (T.run (us := [.ref a]) (vs := [.ref a]) inv1 (.cons rfl .nil) ⟨R, S1, F1, [y], P, E, g1, .cons r1 .nil, h1, on.go u1, ox.go u1⟩)
/-! a property -/
theorem oxk0 {K : PySem.W.Frag} {R F : Hp} {E : XK} : OnXK K R F never E := fun _ _ _ _ _ _ _ _ _ z => z.elim
def gProp (C : Addr) (sp : GSp) (ga : GR) : GR := fun Γ S P E => ga Γ S (fun y S1 => isOf S1 C y ∧ sp [y] S1 P never) E
theorem ge_prop {pr : Addr} (ho : GE X W o ga) (c : Cls X.K C) (hp : PropOf X.K C m pr f) (F : FnOk X.prog X.w X.K X.mg X.base (L2.CX X.prog X.w) k f fd ps (spG X.K sp)) (hr : Room (k + 1) X.A) (hb : Binds X.K fd ps [])
    (hab : attributeBase o m X.env (eval o X.env) = eval o X.env := by rfl) : GE X W (.Attribute o m pos) (gProp C sp ga) := by
  refine PE.imp (pe_prop (E := E0) ho c hp F hr hb .nil (fun _ _ _ _ _ _ _ z => passL (X := X.nox) _ _ _ _ _ _ (by assumption) z) hab) ?_
  rintro σ H Q ⟨R, Γ, S, Fz, P, E, g, sl, h, on, ox⟩
  refine ⟨R, Γ, S, Fz, _, E, g, sl, h, fun v S1 F1 H1 y g1 s1 r1 h1 => ?_, ox⟩
  obtain ⟨a, dx, fs, rfl, e1⟩ := isOf_at g1 r1 h1.1
  exact ⟨a, dx, fs, rfl, e1, R, S1, F1, [y], P, _, g1, .cons r1 .nil, h1.2, on.go s1, oxk0⟩
/-! a def below the running body -/
theorem passA {A : Around} {spr : Sp} {pins : List (Addr × Obj)} {σ : L2.St} {s : Shared} {Q : VK} {args : Args} {us : List Value} {vs : List V} (T : FnOk X.prog X.w X.K X.mg X.base (L2.CX X.prog X.w) k f fd ps spr) (room : Room k A) (env : Env0 X.prog X.w X.K X.mg X.base A X.stack s H) (bd : BindsTo s fd args (ps.zip us)) (tk : Takes X W)
    (inv : Inv X pins σ H s) (rel : Vals vs us) (want : spr vs H Q (WE W σ)) : codeAny (model X.prog X.w) A (.call (.ref f) args) (fun r s' => match r with | .ok (.ret v) => EP X pins σ Q v s' | .ok _ => False | .error e => X.xe e s') s := by
  refine codeAny_mono (T.run A X.stack s H args us vs Q _ room env bd rel want) ?_
  intro r s' got
  cases r with
  | error err => exact passAt tk σ pins H s err s' inv got
  | ok fl =>
    cases fl with
    | ret u => exact inv.after got
    | _ => cases (show False from got)
/-! new own objects -/
/-- what is wanted behind __init__: it is changed no more, with all that it has; it may still be changed -/
def madeF (S1 : Sto) (a : Addr) (P : G → Sto → Prop) : G → Sto → Prop := fun r S2 => r = .dat .non ∧ ∃ d S3, FZ S2 (.loc a) d S3 ∧ P (.dat d) S3
def madeO (S1 : Sto) (a : Addr) (P : G → Sto → Prop) : G → Sto → Prop := fun r S2 => r = .dat .non ∧ P (.loc a) S2
abbrev Made := Sto → Addr → (G → Sto → Prop) → G → Sto → Prop
def MdOk (K : PySem.W.Frag) (md : Made) : Prop := ∀ (a : Addr) (R : Hp) (S S' : Sto) (F F' H' : Hp) (P : G → Sto → Prop) (Q : VK) (r : G) (v : V), On K R F P Q → GS K R S' F' H' → Up F F' → GV K F' v r → md S a P r S' → v = .non ∧ Q (.ref a) H'
theorem madeO_ok : MdOk K madeO := by
  rintro a R S S' F F' H' P Q r v on g s rv ⟨rfl, h⟩
  exact ⟨by cases (show Rp K F' v .non from rv); rfl, on _ S' F' H' (.loc a) g s rfl h⟩
theorem madeF_ok : MdOk K madeF := by
  rintro a R S S' F F' H' P Q r v on g s rv ⟨rfl, d, S3, fz, h⟩
  obtain ⟨F2, g2, s2, w2⟩ := fz.run g
  exact ⟨by cases (show Rp K F' v .non from rv); rfl, on _ S3 F2 H' (.dat d) g2 (s.trans s2) (w2 _ rfl) h⟩
theorem make_start (g : GS K R S F H) {a dx : Addr} (na : H a = none) (nd : H dx = none) (ne : dx ≠ a) : GS K R (sup S a (.ins C [])) F (upd (upd H dx (.own a)) a (.ins C dx [])) := by
  have g1 := g.pass nd (.own a)
  have na1 : upd H dx (.own a) a = none := by rw [upd_ne (Ne.symm ne)]; exact na
  exact g1.alloc (u := .ins C []) na1 ⟨dx, [], upd_same, .nil⟩
def gMake (C : Addr) (sp : GSp) (md : Made) (ga : GRA) : GR := fun Γ S P E => ga Γ S (fun gs S1 => ∀ a, S1 a = none → sp (.loc a :: gs) (sup S1 a (.ins C [])) (md S1 a P) E) E
theorem ge_make {md : Made} (ok : MdOk X.K md) (M : Mk X.K C f) (F1 : FnOk X.prog X.w X.K X.mg X.base (L2.CX X.prog X.w) k f fd ps (spG X.K sp)) (tk : Takes X W) (hr : Room (k + 1) X.A) (hm : X.mg x = some (.ref C)) (hb : Binds X.K fd ps []) (ha : GA X W (e :: es) gt) (hg : Gl X x := by rfl)
    (hdb : (x == ("__debug__" : Str)) = false := by decide) (he : starEach (e :: es) X.env = (false, eval e X.env) :: starEach es X.env := by rfl) (hpl : (backTo pos (starEach es X.env)).any (·.1) = false := by rfl) :
    GE X W (.Call (.Name x p) (e :: es) [] pos) (gMake C sp md gt) := by
  constructor
  rintro pins s σ H Q inv ⟨R, Γ, S, Fz, P, E, g, sl, h, on, ox⟩
  apply wpAny_Call_Name_kw (ld_glob inv hg hm _ hdb)
  refine PySem.W.callWith_K (h₀ := X.base) inv.ok.mod.kin M.kp (thn (ha.at_ inv g sl h ox) ?_) he hpl
  rintro us s1 ⟨vs, H1, S1, F2, gs, inv1, rel, g1, u1, r1, h1⟩
  refine ⟨inv1.kIn, ?_⟩
  have nx : H1 (s1.heap.objs.size + 1) = none := inv1.hok.fresh (Nat.le_succ _)
  have nd : H1 s1.heap.objs.size = none := inv1.hok.fresh (Nat.le_refl _)
  have ne : s1.heap.objs.size ≠ s1.heap.objs.size + 1 := Nat.ne_of_lt (Nat.lt_succ_self _)
  have inv2 := Inv.made (C := C) inv1
  have g2 := make_start (C := C) g1 nx nd ne
  have want : spG X.K sp (.ref (s1.heap.objs.size + 1) :: vs) _ (fun v H2 => v = .non ∧ Q (.ref (s1.heap.objs.size + 1)) H2) (WE W σ) :=
    ⟨R, _, F2, .loc (s1.heap.objs.size + 1) :: gs, _, E, g2, .cons rfl r1, h1 _ (g1.fresh nx).2.1, fun v S3 F3 H3 y g3 s3 r3 h3 => ok _ R S1 S3 F2 F3 H3 P Q y v (on.go u1) g3 s3 r3 h3, ox.go u1⟩
  have len : (Value.ref (s1.heap.objs.size + 1) :: us ++ []).length = ps.length := by
    rw [List.append_nil, ← F1.len _ _ _ _ want, List.length_cons, List.length_cons, rel.length]
  have bound := hb _ (Value.ref (s1.heap.objs.size + 1) :: us) inv2.kIn len
  rw [List.append_nil] at bound
  refine wpAny_call (make_map (f := f) inv1.kIn M.makes M.init (beq_iff_eq.mp M.fn) (codeAny_mono (passA (us := .ref (s1.heap.objs.size + 1) :: us) (vs := .ref (s1.heap.objs.size + 1) :: vs) F1 (hr.make C us []) (inv2.env0.make C us []) bound tk inv2 (.cons rfl rel) want) ?_))
  intro r s' got
  cases r with
  | error err => exact got
  | ok fl =>
    cases fl with
    | ret u =>
      obtain ⟨v, H3, inv3, rv, rfl, q⟩ := got
      exact ⟨rv, ep_now (v := .ref (s1.heap.objs.size + 1)) inv3 rfl q⟩
    | _ => cases (show False from got)
/-- .. with keywords, all of the keyword-only ones in their order -/
abbrev GK (X : Cx) (W : WX) (kws : List Keyword) (g : GRA) : Prop := PK X kws (tGA X.K W g)
theorem gk_nil : GK X W [] LN.gNil := by
  refine ⟨fun pos pins s σ H Q I h => pk_nil.run pos pins s σ H Q I ?_⟩
  obtain ⟨R, Γ, S, F, P, E, g, sl, h, on, ox⟩ := h
  exact on [] S F H [] g (Up.refl _) .nil h
theorem gk_cons {nm_ : Option Str} {kpos : Pos} {kws : List Keyword} (ha : GE X W e ga) (hr : GK X W kws gt) : GK X W (⟨nm_, e, kpos⟩ :: kws) (LN.gCons ga gt) := by
  refine ⟨fun pos pins s σ H Q I h => (pk_cons ha hr).run pos pins s σ H Q I ?_⟩
  obtain ⟨R, Γ, S, F, P, E, g, sl, h, on, ox⟩ := h
  refine ⟨R, Γ, S, F, _, E, g, sl, h, fun v S1 F1 H1 x g1 s1 r1 h1 => ?_, ox⟩
  refine ⟨R, Γ, S1, F1, _, E, g1, sl.up s1, h1, fun ws S2 F2 H2 ys g2 s2 r2 h2 => ?_, ox.go s1⟩
  exact on _ S2 F2 H2 _ g2 (s1.trans s2) (.cons (r1.up s2) r2) h2
theorem GK.at_ {pins : List (Addr × Obj)} {σ : L2.St} {s : Shared} {Γ : List (Option G)} {P : List G → Sto → Prop} {E : XP} {kws : List Keyword} (he : GK X W kws gk) (inv : Inv X pins σ H s) (g : GS X.K R S F H) (sl : SL X.K F Γ σ) (h : gk Γ S P E) (ox : OnX X.K R F W σ E) :
    wpAny (model X.prog X.w) X.A (evalAll ((backToKw pos (keywordEach kws X.env)).map (·.2))) (fun us s' => ∃ vs H1 S1 F1 ys, Inv X pins σ H1 s' ∧ Vals vs us ∧ GS X.K R S1 F1 H1 ∧ Up F F1 ∧ GVs X.K F1 vs ys ∧ P ys S1) X.xe s := by
  refine thn (he.run pos pins s σ H (fun vs H1 => ∃ S1 F1 ys, GS X.K R S1 F1 H1 ∧ Up F F1 ∧ GVs X.K F1 vs ys ∧ P ys S1) inv ⟨R, Γ, S, F, P, E, g, sl, h, fun v S1 F1 H1 y g1 s1 r1 h1 => ⟨S1, F1, y, g1, s1, r1, h1⟩, ox⟩) ?_
  rintro u s' ⟨v, H1, inv1, rv, S1, F1, y, g1, s1, r1, h1⟩
  exact ⟨v, H1, S1, F1, y, inv1, rv, g1, s1, r1, h1⟩
def gMakeK (C : Addr) (n j : Nat) (ms : List D) (sp : GSp) (md : Made) (ga gk : GRA) : GR := fun Γ S P E => ga Γ S (fun gs S1 => gk Γ S1 (fun hs S2 => (gs.length = n ∧ hs.length = j) ∧ ∀ a, S2 a = none → sp (.loc a :: (gs ++ hs ++ ms.map .dat)) (sup S2 a (.ins C [])) (md S2 a P) E) E) E
theorem ge_makeK {md : Made} {n : Nat} {ks : List Str} {ms : List V} {msd : List D} {kws : List Keyword} {gg : List Value → List Value → List Value} (hms : ∀ F, RpAll X.K F ms msd) (ok : MdOk X.K md) (M : Mk X.K C f) (F1 : FnOk X.prog X.w X.K X.mg X.base (L2.CX X.prog X.w) k f fd ps (spG X.K sp)) (tk : Takes X W) (hr : Room (k + 1) X.A) (hm : X.mg x = some (.ref C))
    (hb : KBn X.K fd ps (n + 1) ks gg (fun vs zs => vs ++ zs ++ ms)) (ha : GA X W (e :: es) gt) (hkw : GK X W kws gk) (hg : Gl X x := by rfl) (hall : (backToKw pos (keywordEach kws X.env)).all (·.1.isSome) = true := by rfl) (hks : (backToKw pos (keywordEach kws X.env)).filterMap (·.1) = ks := by rfl)
    (hdb : (x == ("__debug__" : Str)) = false := by decide) (he : starEach (e :: es) X.env = (false, eval e X.env) :: starEach es X.env := by rfl) (hpl : ((backTo pos (starEach (e :: es) X.env)).any (·.1) || (backToKw pos (keywordEach kws X.env)).any (·.1.isNone)) = false := by rfl) :
    GE X W (.Call (.Name x p) (e :: es) kws pos) (gMakeK C n ks.length msd sp md gt gk) := by
  constructor
  rintro pins s σ H Q inv ⟨R, Γ, S, Fz, P, E, g, sl, h, on, ox⟩
  apply wpAny_Call_Name_kw (ld_glob inv hg hm _ hdb)
  refine PySem.W.callWith_KW (h₀ := X.base) inv.ok.mod.kin M.kp hall (thn (ha.at_ inv g sl h ox) ?_) hpl he
  rintro us s0 ⟨vs, H0, S0, F0, gs, inv0, rel0, g0, u0, r0, h0⟩
  refine thn (hkw.at_ inv0 g0 (sl.up u0) h0 (ox.go u0)) ?_
  rintro ws s1 ⟨zs, H1, S1, F2, hs, inv1, relz, g1, u1, rz, ⟨l1, l2⟩, h1⟩
  refine ⟨inv1.kIn, ?_⟩
  rw [hks]
  have nx : H1 (s1.heap.objs.size + 1) = none := inv1.hok.fresh (Nat.le_succ _)
  have nd : H1 s1.heap.objs.size = none := inv1.hok.fresh (Nat.le_refl _)
  have ne : s1.heap.objs.size ≠ s1.heap.objs.size + 1 := Nat.ne_of_lt (Nat.lt_succ_self _)
  have inv2 := Inv.made (C := C) inv1
  have g2 := make_start (C := C) g1 nx nd ne
  have want : spG X.K sp (.ref (s1.heap.objs.size + 1) :: vs ++ zs ++ ms) _ (fun v H2 => v = .non ∧ Q (.ref (s1.heap.objs.size + 1)) H2) (WE W σ) :=
    ⟨R, _, F2, .loc (s1.heap.objs.size + 1) :: (gs ++ hs ++ msd.map .dat), _, E, g2, .cons rfl (gvs_app (gvs_app (GVs.up u1 r0) rz) (gvs_dat (hms F2))), h1 _ (g1.fresh nx).2.1,
      fun v S3 F3 H3 y g3 s3 r3 h3 => ok _ R S1 S3 F2 F3 H3 P Q y v (on.go (u0.trans u1)) g3 s3 r3 h3, ox.go (u0.trans u1)⟩
  have n1 : (Value.ref (s1.heap.objs.size + 1) :: us).length = n + 1 := by rw [List.length_cons, ← rel0.length, gvs_len r0, l1]
  have n2 : ws.length = ks.length := by rw [← relz.length, gvs_len rz, l2]
  have relA := hb.rel (vs := .ref (s1.heap.objs.size + 1) :: vs) (us := .ref (s1.heap.objs.size + 1) :: us) (.cons rfl rel0) relz
  refine wpAny_call (make_map (f := f) inv1.kIn M.makes M.init (beq_iff_eq.mp M.fn) (codeAny_mono (passA F1 (hr.make C us (ks.zip ws)) (inv2.env0.make C us (ks.zip ws)) (hb.to _ _ ws inv2.kIn n1 n2) tk inv2 relA want) ?_))
  intro r s' got
  cases r with
  | error err => exact got
  | ok fl =>
    cases fl with
    | ret u =>
      obtain ⟨v, H3, inv3, rv, rfl, q⟩ := got
      exact ⟨rv, ep_now (v := .ref (s1.heap.objs.size + 1)) inv3 rfl q⟩
    | _ => cases (show False from got)
end
end LN

namespace LN
open PySem PySem.Spec PyProof.Rows L2
section
variable {X : Cx} {K : PySem.W.Frag} {W : WX} {e o a b : Expr} {es : List Expr} {ga gb gv : GR} {gt gk : GRA} {pos apos cpos p : Pos} {k : Nat} {C f : Addr} {fd : FuncData} {ps : List Str} {sp : GSp} {x m : Str} {R F H : Hp} {S : Sto}
/-- a special method of an own class -/
structure Dun (K : PySem.W.Frag) (C : Addr) (m : Str) (f : Addr) : Prop where
  at_ : PySem.W.findIn K (.ref C) m = some (some (.ref f))
  fn : PySem.W.isFn K (.ref f) = true
/-- a def called below the body's own level, by values -/
structure Call1 (X : Cx) (W : WX) (f : Addr) (sp : GSp) : Prop where
  run : ∀ {pins : List (Addr × Obj)} {σ : L2.St} {H : Hp} {s : Shared} {Q : VK} {us : List Value} {vs : List V}, Inv X pins σ H s → Vals vs us → spG X.K sp vs H Q (WE W σ) → wpAny (model X.prog X.w) X.A.in1 (call (.ref f) us) (EP X pins σ Q) X.xe s
theorem FnOk.c1 (T : FnOk X.prog X.w X.K X.mg X.base (L2.CX X.prog X.w) k f fd ps (spG X.K sp)) (bd : Binds X.K fd ps []) (tk : Takes X W) (hr : Room (k + 1) X.A) : Call1 X W f sp := by
  refine ⟨fun {pins σ H s Q us vs} inv rel want => ?_⟩
  have len : (us ++ []).length = ps.length := by rw [List.append_nil, ← rel.length]; exact T.len _ _ _ _ want
  have bound := bd s us inv.kIn len
  rw [List.append_nil] at bound
  exact wpAny_call (passA (us := us) T hr.in1 inv.env0.in1 bound tk inv rel want)
/-- nothing is raised -/
theorem spG0 {σ : L2.St} {vs : List V} {gs : List G} {P : G → Sto → Prop} {Q : VK} (g : GS K R S F H) (r : GVs K F vs gs) (h : sp gs S P never) (on : On K R F P Q) : spG K sp vs H Q (WE W σ) := ⟨R, S, F, gs, P, never, g, r, h, on, oxk0⟩
/-! x in o -/
def rInO (C : Addr) (sp : GSp) : RO := fun x y S P => isOf S C y ∧ sp [y, x] S (fun r S' => ∃ k, r = .dat (.bl k) ∧ P (.dat (.bl k)) S') never
def rNinO (C : Addr) (sp : GSp) : RO := fun x y S P => isOf S C y ∧ sp [y, x] S (fun r S' => ∃ k, r = .dat (.bl k) ∧ P (.dat (.bl (!k))) S') never
theorem truthy_bl {k : Bool} {A : Around} {E : Value → Shared → Prop} {s : Shared} {Q : Bool → Shared → Prop} (h : Q k s) : wpAny (model X.prog X.w) A (truthy (.bool k)) Q E s := wpAny_pure h
theorem opO_in (d : Dun X.K C "__contains__" f) (T : CallG X W f sp) : OpR X (compareOp .In) (rG X.K (rInO C sp)) := by
  rintro pins s σ H x y v u Q I rx ry ⟨R, S, F, P, gx, gy, g, hx, hy, ⟨is, h⟩, on⟩
  obtain ⟨q, dx, fs, rfl, at_⟩ := isOf_at g hy is
  obtain rfl : u = Value.ref q := ry
  obtain ⟨od, J⟩ := ins_at I at_
  obtain ⟨mm, fr⟩ := I.fr
  refine PySem.W.in_K fr I.ok.mod.kin J d.at_ d.fn ?_
  refine thn (T.run (us := [.ref q, v]) (vs := [.ref q, x]) (Q := fun z H' => ∃ k, z = .bl k ∧ Q (.bl k) H') I (.cons rfl (.cons rx .nil)) (spG0 g (.cons hy (.cons hx .nil)) h ?_)) ?_
  · rintro z S' F' H' zz g' s' r' ⟨k, rfl, q'⟩
    cases (show Rp X.K F' z (.bl k) from r')
    exact ⟨k, rfl, on _ S' F' H' (.dat (.bl k)) g' s' (.bl k) q'⟩
  · rintro w s1 ⟨z, H1, I1, rz, k, rfl, q1⟩
    obtain rfl : w = Value.bool k := rz
    exact truthy_bl ⟨.bl k, H1, I1, rfl, q1⟩
theorem opO_nin (d : Dun X.K C "__contains__" f) (T : CallG X W f sp) : OpR X (compareOp .NotIn) (rG X.K (rNinO C sp)) := by
  rintro pins s σ H x y v u Q I rx ry ⟨R, S, F, P, gx, gy, g, hx, hy, ⟨is, h⟩, on⟩
  obtain ⟨q, dx, fs, rfl, at_⟩ := isOf_at g hy is
  obtain rfl : u = Value.ref q := ry
  obtain ⟨od, J⟩ := ins_at I at_
  obtain ⟨mm, fr⟩ := I.fr
  refine PySem.W.notIn_K fr I.ok.mod.kin J d.at_ d.fn ?_
  refine thn (T.run (us := [.ref q, v]) (vs := [.ref q, x]) (Q := fun z H' => ∃ k, z = .bl k ∧ Q (.bl (!k)) H') I (.cons rfl (.cons rx .nil)) (spG0 g (.cons hy (.cons hx .nil)) h ?_)) ?_
  · rintro z S' F' H' zz g' s' r' ⟨k, rfl, q'⟩
    cases (show Rp X.K F' z (.bl k) from r')
    exact ⟨k, rfl, on _ S' F' H' (.dat (.bl (!k))) g' s' (.bl _) q'⟩
  · rintro w s1 ⟨z, H1, I1, rz, k, rfl, q1⟩
    obtain rfl : w = Value.bool k := rz
    exact truthy_bl ⟨.bl (!k), H1, I1, rfl, q1⟩
/-! len(o) -/
def rLenO (C : Addr) (sp : GSp) : RC := fun gs S P => match gs with
  | [x] => isOf S C x ∧ sp [x] S (fun r S' => ∃ i : Int, r = .dat (.int i) ∧ (0 ≤ i ∧ i < 2 ^ 63) ∧ P (.dat (.int i)) S') never
  | _ => False
theorem crO_len (d : Dun X.K C "__len__" f) (T : Call1 X W f sp) : CallR X (.builtin "len") (cG X.K (rLenO C sp)) := by
  rintro pins s σ H vs us Q I r ⟨R, S, F, P, gs, g, hv, h, on⟩
  unfold rLenO at h
  split at h
  · obtain ⟨v, rfl, hx⟩ := gvs1 hv
    obtain ⟨is, h⟩ := h
    obtain ⟨q, dx, fs, rfl, at_⟩ := isOf_at g hx is
    obtain ⟨u, rfl, ru⟩ := vals1 r
    obtain rfl : u = Value.ref q := ru
    obtain ⟨od, J⟩ := ins_at I at_
    obtain ⟨mm, fr⟩ := I.fr
    refine PySem.W.len_K fr I.ok.mod.kin J d.at_ d.fn ?_
    refine thn (T.run (us := [.ref q]) (vs := [.ref q]) (Q := fun z H' => ∃ i : Int, z = .int i ∧ (0 ≤ i ∧ i < 2 ^ 63) ∧ Q (.int i) H') I (.cons rfl .nil) (spG0 g (.cons hx .nil) h ?_)) ?_
    · rintro z S' F' H' zz g' s' r' ⟨i, rfl, lim, q'⟩
      cases (show Rp X.K F' z (.int i) from r')
      exact ⟨i, rfl, lim, on _ S' F' H' (.dat (.int i)) g' s' (.int i) q'⟩
    · rintro w s1 ⟨z, H1, I1, rz, i, rfl, lim, q1⟩
      obtain ⟨t, rfl⟩ := rz
      exact ⟨lim, ⟨.int i, H1, I1.tok _, ⟨_, rfl⟩, q1⟩⟩
  · exact h.elim
/-! o[e] -/
def gSub (C : Addr) (sp : GSp) (ga gb : GR) : GR := fun Γ S P E => ga Γ S (fun x S1 => gb Γ S1 (fun y S2 => isOf S2 C x ∧ sp [x, y] S2 P E) E) E
theorem ge_sub (d : Dun X.K C "__getitem__" f) (fi : PySem.W.fnIn X.K f = true) (T : Call1 X W f sp) (ha : GE X W a ga) (hb : GE X W b gb) (hsl : ∀ v u, subscripted b true v u = runValue (.builtin "lifetime.subscript" ⟨[v, u], []⟩) := by intro _ _; rfl) : GE X W (.Subscript a b pos) (gSub C sp ga gb) := by
  constructor
  rintro pins s σ H Q inv ⟨R, Γ, S, Fz, P, E, g, sl, h, on, ox⟩
  refine Subscript_ (thn (ha.at_ inv g sl h ox) ?_)
  rintro v s1 ⟨x, H1, S1, F1, gx, inv1, rx, g1, u1, r1, h1⟩
  refine thn (hb.at_ inv1 g1 (sl.up u1) h1 (ox.go u1)) ?_
  rintro u s2 ⟨y, H2, S2, F2, gy, inv2, ry, g2, u2, r2, is, h2⟩
  have r1' := r1.up u2
  obtain ⟨q, dx, fs, rfl, at_⟩ := isOf_at g2 r1' is
  obtain rfl : v = Value.ref q := rx
  obtain ⟨od, J⟩ := ins_at inv2 at_
  obtain ⟨mm, fr⟩ := inv2.fr
  refine PySem.W.sub_K fr inv2.ok.mod.kin J d.at_ fi d.fn (T.run (us := [.ref q, u]) (vs := [.ref q, y]) inv2 (.cons rfl (.cons ry .nil)) ⟨R, S2, F2, [gx, gy], P, E, g2, .cons r1' (.cons r2 .nil), h2, on.go (u1.trans u2), ox.go (u1.trans u2)⟩) (hsl _ _)
/-! o[i] = e -/
def gPut (C : Addr) (sp : GSp) (ga gb gv : GR) : GRS := fun d Γ S => gv Γ S (fun z S1 => ga Γ S1 (fun x S2 => gb Γ S2 (fun y S3 => isOf S3 C x ∧ sp [x, y, z] S3 (fun _ S4 => d.nx Γ S4) (d.ex Γ)) (d.ex Γ)) (d.ex Γ)) (d.ex Γ)
theorem gs_put {value i : Expr} {pos' : Pos} (d : Dun X.K C "__setitem__" f) (ns : PySem.W.noSeq X.K C = true) (T : CallG X W f sp) (ha : GE X W o ga) (hb : GE X W i gb) (hv : GE X W value gv) (hs : swapsWith value (some (.Subscript o i pos')) pos.line X.env = pure false := by rfl) :
    GSt X W (.Assign [.Subscript o i pos'] value pos) (gPut C sp ga gb gv) := by
  constructor
  rintro pins s σ H D inv ⟨R, Γ, S, Fz, dd, g, sl, h, on⟩
  have ox := on.ex sl
  refine wpAny_Assign_Subscript (thn (hv.at_ inv g sl h ox) ?_) hs
  rintro w s1 ⟨z, H1, S1, F1, gz, inv1, rz, g1, u1, r1, h1⟩
  refine thn (ha.at_ inv1 g1 (sl.up u1) h1 (ox.go u1)) ?_
  rintro v s2 ⟨x, H2, S2, F2, gx, inv2, rx, g2, u2, r2, h2⟩
  refine thn (hb.at_ inv2 g2 (sl.up (u1.trans u2)) h2 (ox.go (u1.trans u2))) ?_
  rintro u s3 ⟨y, H3, S3, F3, gy, inv3, ry, g3, u3, r3, is, h3⟩
  have r2' := r2.up u3
  obtain ⟨q, dx, fs, rfl, at_⟩ := isOf_at g3 r2' is
  obtain rfl : v = Value.ref q := rx
  obtain ⟨od, J⟩ := ins_at inv3 at_
  obtain ⟨mm, fr⟩ := inv3.fr
  have u13 := (u1.trans u2).trans u3
  refine PySem.W.ksp_setItem fr inv3.ok.mod.kin J ns d.at_ d.fn (thn (T.run (us := [.ref q, u, w]) (vs := [.ref q, y, z]) (Q := fun _ H' => D.nx σ H') inv3 (.cons rfl (.cons ry (.cons rz .nil)))
    ⟨R, S3, F3, [gx, gy, gz], _, _, g3, .cons r2' (.cons r3 (.cons (r1.up (u2.trans u3)) .nil)), h3, fun zz S4 F4 H4 yy g4 s4 r4 h4 => on.nx Γ S4 F4 H4 σ g4 (sl.up (u13.trans s4)) (u13.trans s4) h4, ox.go u13⟩) ?_)
  rintro uu s4 ⟨zz, H4, inv4, rzz, q4⟩
  exact ⟨σ, H4, inv4, q4⟩
/-! x == y by an own __eq__ -/
theorem notNI {z : V} {w : Value} {s' : Shared} {Q : Value → Shared → Prop} (r : RelV z w) (h : Q w s') : PySem.W.CmpBack Q w s' := SlX.cmpback r h
/-- what typeOf tells of a value -/
def tyLook : Ty → Value := Ty.v
theorem looks_ty {pins : List (Addr × Obj)} {σ : L2.St} {s : Shared} {v : V} {u : Value} {y : G} (I : Inv X pins σ H s) (g : GS X.K R S F H) (r : GV X.K F v y) (ru : RelV v u) : ∀ {t : Ty}, (t = .own C ∧ isOf S C y) ∨ (t = .ty "NoneType" ∧ y = .dat .non) ∨ (∃ i, t = .ty "int" ∧ y = .dat (.int i)) ∨ (∃ z, t = .ty "str" ∧ y = .dat (.str z)) → PySem.W.Looks (model X.prog X.w) s.heap (typeOf u) t.v := by
  rintro t (⟨rfl, is⟩ | ⟨rfl, rfl⟩ | ⟨i, rfl, rfl⟩ | ⟨z, rfl, rfl⟩)
  · obtain ⟨q, dx, fs, rfl, at_⟩ := isOf_at g r is
    obtain rfl : u = Value.ref q := ru
    obtain ⟨od, J⟩ := ins_at I at_
    exact J.type
  · cases (show Rp X.K F v .non from r)
    obtain rfl : u = Value.none := ru
    exact .now
  · cases (show Rp X.K F v (.int i) from r)
    obtain ⟨t, rfl⟩ := ru
    exact .now
  · cases (show Rp X.K F v (.str z) from r)
    obtain ⟨t, rfl⟩ := ru
    exact .now
def rEqO (K : PySem.W.Frag) (C : Addr) (sp : GSp) : RO := fun x y S P => isOf S C x ∧ isOf S C y ∧ sp [x, y] S (fun r S' => ∃ k, r = .dat (.bl k) ∧ P (.dat (.bl k)) S') never
theorem opO_eq (d : Dun X.K C "__eq__" f) (T : CallG X W f sp) (hr : Room k X.A) : OpR X (compareOp .Eq) (rG X.K (rEqO X.K C sp)) := by
  rintro pins s σ H x y v u Q I rx ry ⟨R, S, F, P, gx, gy, g, hx, hy, ⟨is1, is2, h⟩, on⟩
  obtain ⟨q, dx, fs, rfl, at_⟩ := isOf_at g hx is1
  obtain rfl : v = Value.ref q := rx
  obtain ⟨od, J⟩ := ins_at I at_
  obtain ⟨mm, fr⟩ := I.fr
  have lk := looks_ty I g hy ry (t := .own C) (.inl ⟨rfl, is2⟩)
  show wpAny (model X.prog X.w) X.A (richCompare .Eq (.ref q) u) _ _ _
  refine PySem.W.cmp_K (op := .Eq) hr.units0 fr I.ok.mod.kin J lk (by show (Value.ref C == Value.ref C || _) = true; simp) d.at_ d.fn ?_
  refine thn (T.run (us := [.ref q, u]) (vs := [.ref q, y]) (Q := fun z H' => ∃ k, z = .bl k ∧ Q (.bl k) H') I (.cons rfl (.cons ry .nil)) (spG0 g (.cons hx (.cons hy .nil)) h ?_)) ?_
  · rintro z S' F' H' zz g' s' r' ⟨k, rfl, q'⟩
    cases (show Rp X.K F' z (.bl k) from r')
    exact ⟨k, rfl, on _ S' F' H' (.dat (.bl k)) g' s' (.bl k) q'⟩
  · rintro w s1 ⟨z, H1, I1, rz, k, rfl, q1⟩
    exact notNI rz ⟨.bl k, H1, I1, rz, q1⟩
/-! a | b, a & b, a - b, .. of two of a class -/
def gBinO (C : Addr) (sp : GSp) (ga gb : GR) : GR := fun Γ S P E => ga Γ S (fun x S1 => gb Γ S1 (fun y S2 => isOf S2 C x ∧ isOf S2 C y ∧ sp [x, y] S2 P E) E) E
theorem ge_binO {op : Operator} (d : Dun X.K C (PySem.dunder op.info.2) f) (sf : PySem.W.selfFirst X.K C = true) (T : CallG X W f sp) (ha : GE X W a ga) (hb : GE X W b gb) : GE X W (.BinOp a op b pos) (gBinO C sp ga gb) := by
  constructor
  rintro pins s σ H Q inv ⟨R, Γ, S, Fz, P, E, g, sl, h, on, ox⟩
  refine wpAny_BinOp (thn (ha.at_ inv g sl h ox) ?_)
  rintro v s1 ⟨x, H1, S1, F1, gx, inv1, rx, g1, u1, r1, h1⟩
  refine thn (hb.at_ inv1 g1 (sl.up u1) h1 (ox.go u1)) ?_
  rintro u s2 ⟨y, H2, S2, F2, gy, inv2, ry, g2, u2, r2, is1, is2, h2⟩
  have r1' := r1.up u2
  obtain ⟨q, dx, fs, rfl, at_⟩ := isOf_at g2 r1' is1
  obtain rfl : v = Value.ref q := rx
  obtain ⟨od, J⟩ := ins_at inv2 at_
  obtain ⟨mm, fr⟩ := inv2.fr
  have lk := looks_ty inv2 g2 r2 ry (t := .own C) (.inl ⟨rfl, is2⟩)
  refine PySem.W.binop_K fr inv2.ok.mod.kin J lk sf d.at_ d.fn ?_
  refine thn (T.run (us := [.ref q, u]) (vs := [.ref q, y]) inv2 (.cons rfl (.cons ry .nil)) ⟨R, S2, F2, [gx, gy], P, E, g2, .cons r1' (.cons r2 .nil), h2, on.go (u1.trans u2), ox.go (u1.trans u2)⟩) ?_
  rintro w s3 ⟨z, H3, inv3, rz, q3⟩
  exact notNI rz ⟨z, H3, inv3, rz, q3⟩
/-! o(e, ..) -/
def gCallO (C : Addr) (sp : GSp) (ga : GR) (gt : GRA) : GR := fun Γ S P E => ga Γ S (fun y S1 => isOf S1 C y ∧ gt Γ S1 (fun gs S2 => isOf S2 C y ∧ sp (y :: gs) S2 P E) E) E
theorem ge_callO (d : StX.CallO X.K C f) (T : CallG X W f sp) (ho : GE X W o ga) (ha : GA X W (e :: es) gt)
    (ht : eval (.Call o (e :: es) [] pos) X.env = (do callWith pos (← eval o X.env) [] (backTo pos (starEach (e :: es) X.env)) (backToKw pos (keywordEach [] X.env))) := by rfl)
    (he : starEach (e :: es) X.env = (false, eval e X.env) :: starEach es X.env := by rfl) (hpl : (backTo pos (starEach es X.env)).any (·.1) = false := by rfl) : GE X W (.Call o (e :: es) [] pos) (gCallO C sp ga gt) := by
  constructor
  rintro pins s σ H Q inv ⟨R, Γ, S, Fz, P, E, g, sl, h, on, ox⟩
  refine Call_ (thn (ho.at_ inv g sl h ox) ?_) ht
  rintro u s1 ⟨v, H1, S1, F1, y, inv1, rv, g1, u1, r1, is1, h1⟩
  obtain ⟨q, dx1, fs1, rfl, _⟩ := isOf_at g1 r1 is1
  obtain rfl : u = Value.ref q := rv
  refine StX.callO_with (thn (ha.at_ inv1 g1 (sl.up u1) h1 (ox.go u1)) ?_) he hpl
  rintro us s2 ⟨vs, H2, S2, F2, gs, inv2, rel, g2, u2, r2, is, h2⟩
  have r1' := r1.up u2
  obtain ⟨q', dx, fs, eq, at_⟩ := isOf_at g2 r1' is
  cases eq
  obtain ⟨od, J⟩ := ins_at inv2 at_
  exact ⟨⟨C, _, _, J, rfl⟩, wpAny_call (PySem.W.kco_code inv2.kIn J rfl d.at_ d.fn d.fi (T.code (us := .ref q :: us) (vs := .ref q :: vs) inv2 (.cons rfl rel) ⟨R, S2, F2, y :: gs, P, E, g2, .cons r1' r2, h2, on.go (u1.trans u2), ox.go (u1.trans u2)⟩))⟩
end
end LN

namespace LN
open PySem PySem.Spec PyProof.Rows L2
/-! dicts whose keys are tuples of texts and ints -/
def dkeys : List D → Option (List L2.Key)
  | [] => some []
  | .int i :: ds => (dkeys ds).map (Sum.inl i :: ·)
  | .str z :: ds => (dkeys ds).map (Sum.inr z :: ·)
  | _ => none
def dkey : D → Option (List L2.Key)
  | .tup ds => dkeys ds
  | _ => none
def look {κ α : Type} [DecidableEq κ] (kvs : List (κ × α)) (k : κ) : Option α := (kvs.find? fun p => decide (p.1 = k)).map (·.2)
def putL {κ α : Type} [DecidableEq κ] (kvs : List (κ × α)) (k : κ) (v : α) : List (κ × α) :=
  if (kvs.any fun p => decide (p.1 = k)) = true then kvs.map (fun p => if p.1 = k then (p.1, v) else p) else kvs ++ [(k, v)]
def dropL {κ α : Type} [DecidableEq κ] (kvs : List (κ × α)) (k : κ) : List (κ × α) := kvs.filter fun p => decide (p.1 ≠ k)
def dctOf (S : Sto) : G → Option (List (List L2.Key × G))
  | .dat (.dct kvs) => some (kvs.map fun p => (p.1, .dat p.2))
  | .loc n => match S n with
    | some (.dct kvs) => some kvs
    | some (.dlk _ _ kvs) => some kvs
    | _ => none
  | _ => none
section
variable {K : PySem.W.Frag} {R F H : Hp} {S : Sto}
theorem keys_of : ∀ {ds : List D} {xs : List V} {ks : List L2.Key}, RpAll K F xs ds → dkeys ds = some ks → xs = ks.map kV
  | [], _, _, .nil, e => by cases (show some [] = some _ from e); rfl
  | d :: ds, _, ks, .cons h r, e => by
    cases d with
    | int i =>
      obtain ⟨js, q, rfl⟩ := mapS (show (dkeys ds).map (Sum.inl i :: ·) = some ks from e)
      cases h
      rw [keys_of r q]
      rfl
    | str z =>
      obtain ⟨js, q, rfl⟩ := mapS (show (dkeys ds).map (Sum.inr z :: ·) = some ks from e)
      cases h
      rw [keys_of r q]
      rfl
    | _ => exact nomatch (show none = some _ from e)
theorem key_at {v : V} {d : D} {k : List L2.Key} (g : GS K R S F H) (r : Rp K F v d) (e : dkey d = some k) : ∃ b, v = .ref b ∧ H b = some (.tup (k.map kV)) := by
  cases d with
  | tup ds =>
    cases r with
    | tup h1 h2 => exact ⟨_, rfl, by rw [← keys_of h2 (show dkeys ds = some k from e)]; exact g.sub _ _ h1⟩
  | _ => exact nomatch (show none = some _ from e)
theorem kv_dat : ∀ {ks : List (List L2.Key × V)} {kvs : List (List L2.Key × D)}, RpKv K F ks kvs → GKs K F ks (kvs.map fun p => (p.1, .dat p.2))
  | _, _, .nil => .nil
  | _, _, .cons h r => .cons ⟨rfl, h⟩ (kv_dat r)
theorem dct_of (g : GS K R S F H) {v : V} {x : G} {kvs : List (List L2.Key × G)} (r : GV K F v x) (e : dctOf S x = some kvs) : ∃ a ks, v = .ref a ∧ Rd H a (.dT ks) ∧ GKs K F ks kvs := by
  cases x with
  | dat d =>
    cases d with
    | dct ds =>
      cases e
      cases (show Rp K F v (.dct ds) from r) with
      | dct h1 h2 => exact ⟨_, _, rfl, h1.elim (fun h => .inl (g.sub _ _ h)) fun ⟨u, h⟩ => .inr ⟨u, g.sub _ _ h⟩, kv_dat h2⟩
    | _ => exact nomatch (show none = some _ from e)
  | loc n =>
    obtain rfl := (show v = .ref n from r)
    cases q : S n with
    | none => simp only [dctOf, q] at e; cases e
    | some o =>
      cases o with
      | dct gs =>
        simp only [dctOf, q] at e
        cases e
        obtain ⟨_, ks, h1, h2⟩ := g.obj n _ q
        exact ⟨n, ks, rfl, .inl h1, h2⟩
      | dlk od ks gs =>
        simp only [dctOf, q] at e
        cases e
        obtain ⟨_, h1, h2⟩ := g.obj n _ q
        exact ⟨n, ks, rfl, .inr ⟨od, h1⟩, h2⟩
      | _ => simp only [dctOf, q] at e; cases e
theorem gks_look {k : List L2.Key} : ∀ {ks : List (List L2.Key × V)} {kvs : List (List L2.Key × G)} {x : G}, GKs K F ks kvs → look kvs k = some x → ∃ v, valV ks k = some v ∧ GV K F v x
  | _, _, _, .nil, e => by cases (show none = some _ from e)
  | (k1, v1) :: ks, (k2, x2) :: kvs, x, .cons h r, e => by
    obtain ⟨h1, h2⟩ := h
    simp only at h1 h2
    subst h1
    by_cases c : k2 = k
    · subst c
      have e' : x2 = x := by simpa [look, List.find?_cons] using e
      subst e'
      exact ⟨v1, valV_pos (p := (k2, v1)) rfl, h2⟩
    · have e' : look kvs k = some x := by simpa [look, List.find?_cons, c] using e
      obtain ⟨v, q, rv⟩ := gks_look r e'
      exact ⟨v, by rw [valV_neg (p := (k2, v1)) c]; exact q, rv⟩
theorem gks_none {k : List L2.Key} : ∀ {ks : List (List L2.Key × V)} {kvs : List (List L2.Key × G)}, GKs K F ks kvs → look kvs k = none → valV ks k = none
  | _, _, .nil, _ => rfl
  | (k1, v1) :: ks, (k2, x2) :: kvs, .cons h r, e => by
    obtain ⟨h1, h2⟩ := h
    simp only at h1 h2
    subst h1
    by_cases c : k2 = k
    · subst c
      have : (some x2 : Option G) = none := by simpa [look, List.find?_cons] using e
      cases this
    · rw [valV_neg (p := (k2, v1)) c]
      exact gks_none r (by simpa [look, List.find?_cons, c] using e)
theorem gks_some {k : List L2.Key} {ks : List (List L2.Key × V)} {kvs : List (List L2.Key × G)} (r : GKs K F ks kvs) : (valV ks k).isSome = (look kvs k).isSome := by
  cases q : look kvs k with
  | none => rw [gks_none r q]; rfl
  | some x =>
    obtain ⟨v, e, _⟩ := gks_look r q
    rw [e]
    rfl
theorem gks_any {k : List L2.Key} : ∀ {ks : List (List L2.Key × V)} {kvs : List (List L2.Key × G)}, GKs K F ks kvs → (ks.any fun p => decide (p.1 = k)) = kvs.any fun p => decide (p.1 = k)
  | _, _, .nil => rfl
  | _, _, .cons h r => by rw [List.any_cons, List.any_cons, gks_any r, h.1]
theorem gks_repl {k : List L2.Key} {v : V} {x : G} (rv : GV K F v x) : ∀ {ks : List (List L2.Key × V)} {kvs : List (List L2.Key × G)}, GKs K F ks kvs → GKs K F (ks.map fun p => if p.1 = k then (p.1, v) else p) (kvs.map fun p => if p.1 = k then (p.1, x) else p)
  | _, _, .nil => .nil
  | (k1, v1) :: ks, (k2, x2) :: kvs, .cons h r => by
    obtain ⟨h1, h2⟩ := h
    simp only at h1 h2
    subst h1
    rw [List.map_cons, List.map_cons]
    by_cases c : k2 = k
    · rw [if_pos c, if_pos c]; exact .cons ⟨rfl, rv⟩ (gks_repl rv r)
    · rw [if_neg c, if_neg c]; exact .cons ⟨rfl, h2⟩ (gks_repl rv r)
theorem gks_app : ∀ {ks ls : List (List L2.Key × V)} {kvs lvs : List (List L2.Key × G)}, GKs K F ks kvs → GKs K F ls lvs → GKs K F (ks ++ ls) (kvs ++ lvs)
  | _, _, _, _, .nil, q => q
  | _, _, _, _, .cons h r, q => .cons h (gks_app r q)
theorem gks_put {k : List L2.Key} {v : V} {x : G} (rv : GV K F v x) {ks : List (List L2.Key × V)} {kvs : List (List L2.Key × G)} (r : GKs K F ks kvs) : GKs K F (putK ks k v) (putL kvs k x) := by
  unfold putK putL
  rw [gks_any r]
  split
  · exact gks_repl rv r
  · exact gks_app r (.cons ⟨rfl, rv⟩ .nil)
theorem gks_drop {k : List L2.Key} : ∀ {ks : List (List L2.Key × V)} {kvs : List (List L2.Key × G)}, GKs K F ks kvs → GKs K F (dropK ks k) (dropL kvs k)
  | _, _, .nil => .nil
  | (k1, v1) :: ks, (k2, x2) :: kvs, .cons h r => by
    obtain ⟨h1, h2⟩ := h
    simp only at h1 h2
    subst h1
    unfold dropK dropL
    rw [List.filter_cons, List.filter_cons]
    by_cases c : decide (k2 ≠ k) = true
    · rw [if_pos c, if_pos c]; exact .cons ⟨rfl, h2⟩ (gks_drop r)
    · rw [if_neg c, if_neg c]; exact gks_drop r
end
section
variable {X : Cx} {K : PySem.W.Frag} {W : WX} {e o i a b value : Expr} {es : List Expr} {ga gb gv : GR} {gt : GRA} {pos apos cpos p pos' : Pos} {k : Nat} {R F H : Hp} {S : Sto}
theorem room1 (r : Room k X.A) : X.A.units + 1 < cLine := by have := r.un; omega
/-! d[k] -/
def rDGet_ : RO := fun x y S P => match dctOf S x, y with
  | some kvs, .dat d => (match dkey d with
    | some k => (match look kvs k with
      | some z => P z S
      | none => False)
    | none => False)
  | _, _ => False
theorem ge_dget (hr : Room k X.A) (ho : GE X W o ga) (hi : GE X W i gb) (hs : NoSl i := by intro _ _; rfl) : GE X W (.Subscript o i pos) (gOp rDGet_ ga gb) := by
  refine PE.imp (pe_dget (room1 hr) ho hi hs) ?_
  rintro σ H Q ⟨R, Γ, S, F, P, E, g, sl, h, on, ox⟩
  refine ⟨R, Γ, S, F, _, E, g, sl, h, fun v S1 F1 H1 x g1 s1 r1 h1 => ?_, ox⟩
  refine ⟨R, Γ, S1, F1, _, E, g1, sl.up s1, h1, fun w S2 F2 H2 y g2 s2 r2 h2 => ?_, ox.go s1⟩
  dsimp only at h2
  unfold rDGet_ at h2
  split at h2
  · rename_i kvs d e1
    split at h2
    · rename_i kk e2
      split at h2
      · rename_i z e3
        obtain ⟨a, ks, rfl, at_, rk⟩ := dct_of g2 (r1.up s2) e1
        obtain ⟨b, rfl, hb⟩ := key_at g2 r2 e2
        obtain ⟨v, e4, rv⟩ := gks_look rk e3
        exact ⟨a, v, rfl, .inr ⟨ks, kk, b, at_, rfl, hb, e4.symm⟩, (on.go (s1.trans s2)).now g2 rv h2⟩
      · exact h2.elim
    · exact h2.elim
  · exact h2.elim
/-! k in d -/
def rDIn_ : RO := fun x y S P => match dctOf S y, x with
  | some kvs, .dat d => (match dkey d with
    | some k => P (.dat (.bl (look kvs k).isSome)) S
    | none => False)
  | _, _ => False
def rDNin_ : RO := fun x y S P => match dctOf S y, x with
  | some kvs, .dat d => (match dkey d with
    | some k => P (.dat (.bl (!(look kvs k).isSome))) S
    | none => False)
  | _, _ => False
theorem opD_in (hr : Room k X.A) : OpR X (compareOp .In) (rG X.K rDIn_) := by
  rintro pins s σ H x y v u Q I rx ry ⟨R, S, F, P, gx, gy, g, hx, hy, h, on⟩
  unfold rDIn_ at h
  split at h
  · rename_i kvs d e1
    split at h
    · rename_i kk e2
      obtain ⟨a, ks, rfl, at_, rk⟩ := dct_of g hy e1
      obtain ⟨b, rfl, hb⟩ := key_at g hx e2
      obtain rfl : u = Value.ref a := ry
      refine d_in (room1 hr) I (o := valV ks kk) (.inr ⟨ks, kk, b, at_, rfl, hb, rfl⟩) rx fun s' I' => ⟨.bl _, H, I', rfl, ?_⟩
      rw [gks_some rk]
      exact on.now g (x := .dat (.bl _)) (.bl _) h
    · exact h.elim
  · exact h.elim
theorem opD_nin (hr : Room k X.A) : OpR X (compareOp .NotIn) (rG X.K rDNin_) := by
  rintro pins s σ H x y v u Q I rx ry ⟨R, S, F, P, gx, gy, g, hx, hy, h, on⟩
  unfold rDNin_ at h
  split at h
  · rename_i kvs d e1
    split at h
    · rename_i kk e2
      obtain ⟨a, ks, rfl, at_, rk⟩ := dct_of g hy e1
      obtain ⟨b, rfl, hb⟩ := key_at g hx e2
      obtain rfl : u = Value.ref a := ry
      refine d_notIn (room1 hr) I (o := valV ks kk) (.inr ⟨ks, kk, b, at_, rfl, hb, rfl⟩) rx fun s' I' => ⟨.bl _, H, I', rfl, ?_⟩
      rw [gks_some rk]
      exact on.now g (x := .dat (.bl _)) (.bl _) h
    · exact h.elim
  · exact h.elim
/-! len(d) -/
def rDLen_ : RC := fun gs S P => match gs with
  | [x] => (match dctOf S x with
    | some kvs => P (.dat (.int kvs.length)) S
    | none => False)
  | _ => False
theorem crD_len : CallR X (.builtin "len") (cG X.K rDLen_) := by
  rintro pins s σ H vs us Q I r ⟨R, S, F, P, gs, g, hv, h, on⟩
  unfold rDLen_ at h
  split at h
  · obtain ⟨v, rfl, hx⟩ := gvs1 hv
    split at h
    · rename_i kvs e
      obtain ⟨a, ks, rfl, at_, rk⟩ := dct_of g hx e
      obtain ⟨u, rfl, ru⟩ := vals1 r
      obtain rfl : u = Value.ref a := ru
      obtain ⟨z, low, ys, rel, dd⟩ := dt_rd I.hok at_
      have hl : ks.length = ys.length := Paired.length rel
      have hl2 : ks.length = kvs.length := Paired.length rk
      rw [sizeLine_eq] at z
      refine PySem.call_len_dictH low dd (by omega) ⟨.int kvs.length, H, I.tok _, ⟨_, by rw [← hl, hl2]⟩, on.now g (x := .dat (.int _)) (.int _) h⟩
    · exact h.elim
  · exact h.elim
/-! list(d): its keys -/
def keyD : L2.Key → D
  | .inl i => .int i
  | .inr x => .str x
def keyT (k : List L2.Key) : D := .tup (k.map keyD)
theorem keyD_rp {F : Hp} : ∀ (k : List L2.Key), RpAll K F (k.map kV) (k.map keyD)
  | [] => .nil
  | .inl i :: k => .cons (.int i) (keyD_rp k)
  | .inr x :: k => .cons (.str x) (keyD_rp k)
def rDList_ : RC := fun gs S P => match gs with
  | [x] => (match dctOf S x with
    | some kvs => P (.dat (.lst (kvs.map fun p => keyT p.1))) S
    | none => False)
  | _ => False
def rDListO_ : RC := fun gs S P => match gs with
  | [x] => (match dctOf S x with
    | some kvs => ∀ p, S p = none → P (.loc p) (sup S p (.lst (kvs.map fun p => .dat (keyT p.1))))
    | none => False)
  | _ => False
theorem iskeys_rp {F : Hp} (tp : ∀ a xs, H a = some (.tup xs) → F a = some (.tup xs)) : ∀ {ks : List (List L2.Key × V)} {bs : List Addr} {kvs : List (List L2.Key × G)}, IsKeys H ks bs → GKs K F ks kvs → RpAll K F (bs.map V.ref) (kvs.map fun p => keyT p.1)
  | _, _, _, .nil, .nil => .nil
  | _, _, _, .cons h t, .cons q r => by
    refine .cons ?_ (iskeys_rp tp t r)
    show Rp K F _ (keyT _)
    rw [q.1]
    exact .tup (tp _ _ h) (keyD_rp _)
theorem crD_list (hc : X.calm = true) : CallR X (.type "list") (cG X.K rDList_) := by
  rintro pins s σ H vs us Q I r ⟨R, S, F, P, gs, g, hv, h, on⟩
  unfold rDList_ at h
  split at h
  · obtain ⟨v, rfl, hx⟩ := gvs1 hv
    split at h
    · rename_i kvs e
      obtain ⟨a, ks, rfl, at_, rk⟩ := dct_of g hx e
      obtain ⟨F2, g2, s2, tp⟩ := g.tups
      refine call_list_dT hc pins s σ H _ us Q I r ⟨a, ks, rfl, at_, fun p bs np hk => ?_⟩
      exact on_lst (on.go s2) g2 (iskeys_rp tp hk (Paired.mapP rk fun _ _ z => ⟨z.1, z.2.up s2⟩)) h p np
    · exact h.elim
  · exact h.elim
theorem crD_listO (hc : X.calm = true) : CallR X (.type "list") (cG X.K rDListO_) := by
  rintro pins s σ H vs us Q I r ⟨R, S, F, P, gs, g, hv, h, on⟩
  unfold rDListO_ at h
  split at h
  · obtain ⟨v, rfl, hx⟩ := gvs1 hv
    split at h
    · rename_i kvs e
      obtain ⟨a, ks, rfl, at_, rk⟩ := dct_of g hx e
      obtain ⟨F2, g2, s2, tp⟩ := g.tups
      refine call_list_dT hc pins s σ H _ us Q I r ⟨a, ks, rfl, at_, fun p bs np hk => ?_⟩
      have := gvs_dat (iskeys_rp tp hk (Paired.mapP rk fun _ _ z => ⟨z.1, z.2.up s2⟩) : RpAll X.K F2 _ _)
      rw [List.map_map] at this
      exact on_own (on.go s2) g2 this h p np
    · exact h.elim
  · exact h.elim
/-! {} -/
def gDNew : GR := fun _ S P _ => ∀ p, S p = none → P (.loc p) (sup S p (.dct []))
theorem ge_dnew : GE X W (.Dict [] [] pos) gDNew := by
  refine PE.imp pe_dnewT ?_
  rintro σ H Q ⟨R, Γ, S, F, P, E, g, sl, h, on, ox⟩
  intro p np
  exact on _ _ F _ (.loc p) (g.alloc (u := .dct []) np ⟨[], upd_same, .nil⟩) (Up.refl _) rfl (h p (g.fresh np).2.1)
def gDNewF : GR := fun _ S P _ => P (.dat (.dct [])) S
theorem ge_dnewF : GE X W (.Dict [] [] pos) gDNewF := by
  refine PE.imp pe_dnewT ?_
  rintro σ H Q ⟨R, Γ, S, F, P, E, g, sl, h, on, ox⟩
  intro p np
  exact on _ S _ _ (.dat (.dct [])) (g.lay np _) (up_new (g.fresh np).1) (Rp.dct (.inl upd_same) .nil) h
/-! d[k] = v -/
def dputG (S : Sto) (x y z : G) (P : Sto → Prop) : Prop := match x, y with
  | .loc n, .dat d => (match S n, dkey d with
    | some (.dct kvs), some k => kvs.length < 100000 ∧ P (sup S n (.dct (putL kvs k z)))
    | _, _ => False)
  | _, _ => False
def gDPut (ga gb gv : GR) : GRS := fun d Γ S => gv Γ S (fun z S1 => ga Γ S1 (fun x S2 => gb Γ S2 (fun y S3 => dputG S3 x y z fun S4 => d.nx Γ S4) (d.ex Γ)) (d.ex Γ)) (d.ex Γ)
theorem gs_dput (hr : Room k X.A) (ho : GE X W o ga) (hi : GE X W i gb) (hv : GE X W value gv) (hs : swapsWith value (some (.Subscript o i pos')) pos.line X.env = pure false := by rfl) : GSt X W (.Assign [.Subscript o i pos'] value pos) (gDPut ga gb gv) := by
  refine PS.imp (ps_dput (room1 hr) ho hi hv hs) ?_
  rintro D σ H ⟨R, Γ, S, F, d, g, sl, h, on⟩
  have ox := on.ex sl
  refine ⟨R, Γ, S, F, _, _, g, sl, h, fun w S1 F1 H1 z g1 s1 r1 h1 => ?_, ox⟩
  refine ⟨R, Γ, S1, F1, _, _, g1, sl.up s1, h1, fun v S2 F2 H2 x g2 s2 r2 h2 => ?_, ox.go s1⟩
  refine ⟨R, Γ, S2, F2, _, _, g2, sl.up (s1.trans s2), h2, fun u S3 F3 H3 y g3 s3 r3 h3 => ?_, ox.go (s1.trans s2)⟩
  dsimp only at h3
  unfold dputG at h3
  split at h3
  · rename_i n dd
    split at h3
    · rename_i kvs key q e
      obtain rfl := (show v = .ref n from r2)
      obtain ⟨_, ks, at_, rk⟩ := g3.obj n _ q
      obtain ⟨b, rfl, hb⟩ := key_at g3 r3 e
      have u13 := (s1.trans s2).trans s3
      refine ⟨n, _, rfl, .inr ⟨ks, key, b, at_, rfl, hb, by rw [Paired.length rk]; exact Nat.lt_of_lt_of_le h3.1 (by decide), rfl⟩, ?_⟩
      exact on.nx Γ _ F3 _ σ (g3.put (v := .dct (putL kvs key z)) q ⟨_, upd_same, gks_put (r1.up (s2.trans s3)) rk⟩) (sl.up u13) u13 h3.2
    · exact h3.elim
  · exact h3.elim
end
end LN

namespace LN
open PySem PySem.Spec PyProof.Rows L2
section
variable {X : Cx} {K : PySem.W.Frag} {W : WX} {e o i a b value : Expr} {es : List Expr} {ga gb gv : GR} {gt : GRA} {pos apos cpos p pos' : Pos} {k : Nat} {R F H : Hp} {S : Sto}
/-! methods of dicts that may be changed -/
def isDU (S : Sto) (x : G) : Prop := ∃ n kvs, x = .loc n ∧ S n = some (.dct kvs)
def gBD (r : RM) (a : GR) (t : GRA) : GR := fun Γ S P E => a Γ S (fun x S1 => isDU S1 x ∧ t Γ S1 (fun xs S2 => r x xs S2 P) E) E
theorem tyv_dct {v : V} {x : G} (g : GS K R S F H) (r : GV K F v x) (h : isDU S x) : tyV K "dict" v H := by
  obtain ⟨n, kvs, rfl, q⟩ := h
  obtain rfl := (show v = .ref n from r)
  obtain ⟨_, ks, at_, _⟩ := g.obj n _ q
  exact .inr (.inr (.inl ⟨rfl, .inr ⟨ks, at_⟩⟩))
theorem ge_dm {name : Str} {id : String} {r : RM} (slot : Slot "dict" name id) (hty : typeOf (.builtin id) = pure (.type "method_descriptor")) (hm : MtR X id (mG X.K r)) (ho : GE X W o ga) (ha : GA X W (e :: es) gt)
    (hbase : attributeBase o name X.env (eval o X.env) = eval o X.env := by rfl)
    (hfew : ((backTo cpos (starEach (e :: es) X.env)).all (fun x => !x.1) && (backToKw cpos (keywordEach [] X.env)).all (fun x => x.1.isSome)
      && decide ((e :: es).length + ([] : List Keyword).length + (if ([] : List Keyword).isEmpty then 0 else 1) < 30)) = true := by rfl)
    (hline : (apos.endLine == cpos.line) = true := by rfl) (hs : starEach (e :: es) X.env = (false, eval e X.env) :: starEach es X.env := by rfl) (hplain : (backTo cpos (starEach es X.env)).any (·.1) = false := by rfl) :
    GE X W (.Call (.Attribute o name apos) (e :: es) [] cpos) (gBD r ga gt) := by
  refine PE.imp (pe_bm PySem.F.plainAttrs_dict slot hty hm ho ha hbase hfew hline hs hplain) ?_
  rintro σ H Q ⟨R, Γ, S, F, P, E, g, sl, h, on, ox⟩
  refine ⟨R, Γ, S, F, _, E, g, sl, h, fun v S1 F1 H1 x g1 s1 r1 h1 => ⟨tyv_dct g1 r1 h1.1, ?_⟩, ox⟩
  refine ⟨R, Γ, S1, F1, _, E, g1, sl.up s1, h1.2, fun ws S2 F2 H2 ys g2 s2 r2 h2 => ?_, ox.go s1⟩
  exact ⟨R, S2, F2, P, x, ys, g2, r1.up s2, r2, h2, on.go (s1.trans s2)⟩
/-- a key, as a value -/
def keyG : G → Option (List L2.Key)
  | .dat d => dkey d
  | _ => none
theorem keyg_at {v : V} {x : G} {key : List L2.Key} (g : GS K R S F H) (r : GV K F v x) (e : keyG x = some key) : ∃ b, v = .ref b ∧ H b = some (.tup (key.map kV)) := by
  cases x with
  | dat d => exact key_at g r e
  | loc n => exact nomatch (show none = some _ from e)
/-- the dict's object behind a change -/
theorem dt_wrote {pins : List (Addr × Obj)} {σ : L2.St} {s : Shared} {D : Addr} {kvs kws : List (List L2.Key × V)} {ys : List (List L2.Key × Addr × Value)} {h' : Heap} {t' : Nat} (I : Inv X pins σ H s) (at_ : H D = some (.dT kvs)) (rel : KT H kws ys) (few : kws.length ≤ sizeLine)
    (dd : h'.DictOfH (tupleKind (mixKind X.prog X.w)) D ys) (sb : Heap.SameBut D s.heap h') : Inv X pins σ (upd H D (.dT kws)) { s with heap := h', toks := t' } := by
  obtain ⟨_, low, _⟩ := dt_of I.hok at_
  obtain ⟨ob, es, ep, there, exact_, data, list, _, apart⟩ := dd
  refine d_write I (by rw [at_]; exact True.intro) sb ⟨ob, there⟩ ⟨few, low, ys, rel.keeps fun c vs ec => ?_, ob, es, ep, there, exact_, data, list, apart⟩
  rw [upd_ne (ne_of ec at_ fun z => nomatch z)]
  exact ec
/-! d.pop(k), there -/
def rDPop_ : RM := fun x gs S P => match x, gs with
  | .loc n, [y] => (match S n, keyG y with
    | some (.dct kvs), some key => (match look kvs key with
      | some z => P z (sup S n (.dct (dropL kvs key)))
      | none => False)
    | _, _ => False)
  | _, _ => False
theorem md_pop (hr : Room k X.A) : MtR X "dict.pop" (mG X.K rDPop_) := by
  rintro pins s σ H x xs v us Q I rx rs ⟨R, S, F, P, gx, gs, g, hx, hs, h, on⟩
  unfold rDPop_ at h
  split at h
  · rename_i n y
    split at h
    · rename_i kvs key q e
      split at h
      · rename_i z lk
        obtain ⟨w, rfl, rw'⟩ := gvs1 hs
        obtain rfl := (show x = .ref n from hx)
        obtain rfl : v = Value.ref n := rx
        obtain ⟨_, ks, at_, rk⟩ := g.obj n _ q
        obtain ⟨c, rfl, hc⟩ := keyg_at g rw' e
        obtain ⟨u, rfl, ru⟩ := vals1 rs
        obtain rfl : u = Value.ref c := ru
        obtain ⟨vz, e1, rz⟩ := gks_look rk lk
        obtain ⟨few, low, ys, rel, dd⟩ := dt_of I.hok at_
        obtain ⟨uz, e2, ruz⟩ := RelO.some_of (v := vz) (o := (atKey ys key).map (·.2)) (by rw [← e1]; exact rel.val key)
        obtain ⟨pr, e3, e4⟩ := Option.map_eq_some_iff.mp e2
        have hz : ys.length ≤ sizeLine := by rw [← Paired.length rel]; exact few
        refine call_pop_heap (more := []) (.inl rfl) (PySem.F.args_dict_pop_2 _ _) (tupleKind_room_in1 (room1 hr)) (key_of I.hok hc) low dd e3 (fun h' dd' sb => ?_) hz
        rw [e4]
        refine ⟨vz, upd H n (.dT (dropK ks key)), dt_wrote I at_ (L2.DX.KT_drop key rel) (Nat.le_trans (dropK_le ks key) few) dd' sb, ruz, ?_⟩
        exact on vz _ F _ z (g.put (v := .dct (dropL kvs key)) q ⟨_, upd_same, gks_drop rk⟩) (Up.refl _) rz h
      · exact h.elim
    · exact h.elim
  · exact h.elim
/-! while a dict is walked -/
def gLkE (ga : GR) : GR := fun Γ S P _ => ∃ n kvs, S n = some (.dct kvs) ∧ ∀ od ks, ga Γ (sup S n (.dlk od ks kvs)) (fun x S1 => S1 n = some (.dlk od ks kvs) ∧ P x (sup S1 n (.dct kvs))) never
theorem ge_lock (h : GE X W e ga) : GE X W e (gLkE ga) := by
  refine PE.imp (pe_lock h) ?_
  rintro σ H Q ⟨R, Γ, S, F, P, E, g, sl, ⟨n, kvs, q, h⟩, on, ox⟩
  obtain ⟨_, ks, at_, rk⟩ := g.obj n _ q
  refine ⟨n, _, at_, True.intro, fun od => ⟨R, Γ, _, F, _, _, g.put (v := .dlk od ks kvs) q ⟨upd_same, rk⟩, sl, h od ks, fun v S1 F1 H1 x g1 s1 r1 h1 => ?_, fun _ _ _ _ _ _ _ _ _ z => z.elim⟩⟩
  obtain ⟨q1, h1⟩ := h1
  obtain ⟨_, at1, rk1⟩ := g1.obj n _ q1
  exact ⟨at1, on v _ F1 _ x (g1.put (v := .dct kvs) q1 ⟨ks, upd_same, rk1⟩) s1 r1 h1⟩
def gLkS (t : GRS) : GRS := fun d Γ S => ∃ n kvs, S n = some (.dct kvs) ∧ ∀ od ks, t {
  nx := fun Γ1 S1 => S1 n = some (.dlk od ks kvs) ∧ d.nx Γ1 (sup S1 n (.dct kvs))
  rt := fun x S1 => S1 n = some (.dlk od ks kvs) ∧ d.rt x (sup S1 n (.dct kvs))
  bk := fun Γ1 S1 => S1 n = some (.dlk od ks kvs) ∧ d.bk Γ1 (sup S1 n (.dct kvs))
  ct := fun Γ1 S1 => S1 n = some (.dlk od ks kvs) ∧ d.ct Γ1 (sup S1 n (.dct kvs)) } Γ (sup S n (.dlk od ks kvs))
theorem gs_lock {st : Stmt} {t : GRS} (h : GSt X W st t) : GSt X W st (gLkS t) := by
  refine PS.imp (ps_lock h) ?_
  rintro D σ H ⟨R, Γ, S, F, d, g, sl, ⟨n, kvs, q, h⟩, on⟩
  obtain ⟨_, ks, at_, rk⟩ := g.obj n _ q
  have free : ∀ {od : Obj} {S1 : Sto} {F1 H1 : Hp}, GS X.K R S1 F1 H1 → S1 n = some (.dlk od ks kvs) → H1 n = some (.frz od (.dT ks)) ∧ GS X.K R (sup S1 n (.dct kvs)) F1 (upd H1 n (.dT ks)) := fun g1 q1 => by
    obtain ⟨_, at1, rk1⟩ := g1.obj n _ q1
    exact ⟨at1, g1.put (v := .dct kvs) q1 ⟨ks, upd_same, rk1⟩⟩
  refine ⟨n, _, at_, True.intro, fun od => ⟨R, Γ, _, F, _, g.put (v := .dlk od ks kvs) q ⟨upd_same, rk⟩, sl, h od ks, ⟨?_, ?_, ?_, ?_, fun _ _ _ _ _ _ _ _ _ _ _ _ z => z.elim⟩⟩⟩
  · rintro Γ1 S1 F1 H1 σ1 g1 sl1 s1 ⟨q1, h1⟩
    exact ⟨(free g1 q1).1, on.nx Γ1 _ F1 _ σ1 (free g1 q1).2 sl1 s1 h1⟩
  · rintro v S1 F1 H1 x g1 s1 r1 ⟨q1, h1⟩
    exact ⟨(free g1 q1).1, on.rt v _ F1 _ x (free g1 q1).2 s1 r1 h1⟩
  · rintro Γ1 S1 F1 H1 σ1 g1 sl1 s1 ⟨q1, h1⟩
    exact ⟨(free g1 q1).1, on.bk Γ1 _ F1 _ σ1 (free g1 q1).2 sl1 s1 h1⟩
  · rintro Γ1 S1 F1 H1 σ1 g1 sl1 s1 ⟨q1, h1⟩
    exact ⟨(free g1 q1).1, on.ct Γ1 _ F1 _ σ1 (free g1 q1).2 sl1 s1 h1⟩
/-- its keys -/
def lockAt (S : Sto) : G → Option (Addr × Obj × List (List L2.Key × V) × List (List L2.Key × G))
  | .loc n => match S n with
    | some (.dlk od ks kvs) => some (n, od, ks, kvs)
    | _ => none
  | _ => none
theorem lock_at {x : G} {n : Addr} {od : Obj} {ks : List (List L2.Key × V)} {kvs : List (List L2.Key × G)} (e : lockAt S x = some (n, od, ks, kvs)) : x = .loc n ∧ S n = some (.dlk od ks kvs) := by
  cases x with
  | dat d => exact nomatch (show none = some _ from e)
  | loc m =>
    cases q : S m with
    | none => simp only [lockAt, q] at e; cases e
    | some ob =>
      cases ob with
      | dlk od' ks' kvs' => simp only [lockAt, q] at e; cases e; exact ⟨rfl, q⟩
      | _ => simp only [lockAt, q] at e; cases e
def iKeysG (ga : GR) : GRI := fun Γ S P E => ga Γ S (fun x S1 => match lockAt S1 x with
  | some (n, od, ks, kvs) => P (kvs.map fun p => .dat (keyT p.1)) (fun S => S n = some (.dlk od ks kvs)) S1
  | none => False) E
theorem gks_key {ks : List (List L2.Key × V)} {kvs : List (List L2.Key × G)} (r : GKs K F ks kvs) {i : Nat} {key : List L2.Key} {v : V} (e : ks[i]? = some (key, v)) : ∃ x, kvs[i]? = some (key, x) ∧ GV K F v x := by
  obtain ⟨p, e1, e2, e3⟩ := paired_get r e
  refine ⟨p.2, ?_, e3⟩
  rw [e1, ← show p.1 = key from e2]
theorem walkg_keys {n : Addr} {od : Obj} {ks : List (List L2.Key × V)} {kvs : List (List L2.Key × G)} : WalkG K (Itkt n od ks) (kvs.map fun p => .dat (keyT p.1)) (fun S => S n = some (.dlk od ks kvs)) F := by
  refine ⟨fun i x R S2 F2 H2 ex s g st => ?_, fun R S2 F2 H2 s g st => ?_⟩
  · obtain ⟨_, at2, rk⟩ := g.obj n _ st
    have hi : i < ks.length := by
      obtain ⟨hi, _⟩ := List.getElem?_eq_some_iff.mp ex
      rw [List.length_map] at hi
      rw [Paired.length rk]
      exact hi
    refine ⟨⟨at2, hi⟩, ?_⟩
    rintro v H3 ⟨rfl, key, w, q, hk, rfl, hq⟩
    obtain ⟨y, e1, _⟩ := gks_key rk hk
    obtain ⟨F3, g3, s3, tp⟩ := g.tups
    rw [List.getElem?_map, e1] at ex
    cases ex
    exact ⟨F3, s3, g3, Rp.tup (tp _ _ hq) (keyD_rp _)⟩
  · obtain ⟨_, at2, rk⟩ := g.obj n _ st
    exact ⟨at2, by rw [List.length_map, ← Paired.length rk]; exact Nat.le_refl _⟩
theorem gi_keys {tg : Expr} (he : GE X W e ga) : GI X W tg e (iKeysG ga) := by
  refine PI.imp (pi_keys he) ?_
  rintro σ H T ⟨R, Γ, S, F, P, E, g, sl, h, on, ox⟩
  refine ⟨R, Γ, S, F, _, E, g, sl, h, fun v S1 F1 H1 x g1 s1 r1 h1 => ?_, ox⟩
  dsimp only at h1
  split at h1
  · rename_i n od ks kvs q
    obtain ⟨rfl, q2⟩ := lock_at q
    obtain ⟨_, at1, rk⟩ := g1.obj n _ q2
    exact ⟨n, od, r1, .inr ⟨ks, at1, on S1 F1 H1 _ _ _ g1 s1 walkg_keys h1⟩⟩
  · exact h1.elim
/-! its pairs -/
/-- each a new tuple of the key's own tuple and the value -/
def Itti (d : Addr) (o : Obj) (kvs : List (List L2.Key × V)) : It :=
  ⟨fun i H => H d = some (.frz o (.dT kvs)) ∧ i < kvs.length, fun i H x H' => ∃ T q key v, kvs[i]? = some (key, v) ∧ H q = some (.tup (key.map kV)) ∧ x = .ref T ∧ H T = none ∧ H' = upd H T (.tup [.ref q, v]), fun i H => H d = some (.frz o (.dT kvs)) ∧ kvs.length ≤ i⟩
/-- a locked dict as it stands -/
theorem locked {pins : List (Addr × Obj)} {σ : L2.St} {s : Shared} {d : Addr} {od : Obj} {kvs : List (List L2.Key × V)} (I : Inv X pins σ H s) (at_ : H d = some (.frz od (.dT kvs))) :
    (d == sysModules) = false ∧ ∃ (es : Array DictEntry) (ep : Nat), od.data = .dict es ep ∧ s.heap.get? d = some od ∧ od.ExactDict ∧ es.size = kvs.length ∧
      ∀ (i : Nat) (key : List L2.Key) (v : V), kvs[i]? = some (key, v) → ∃ (en : DictEntry) (q : Addr), es[i]? = some en ∧ en.key = .ref q ∧ H q = some (.tup (key.map kV)) ∧ RelV v en.val := by
  obtain ⟨there, few, low, xs, pr, o', es, ep, at2, exact_, data, list, _⟩ := I.hok d _ at_
  rw [there] at at2
  cases at2
  refine ⟨low, es, ep, data, there, exact_, ?_, fun i key v e => ?_⟩
  · rw [size_of_entries list]
    exact (Paired.length pr).symm
  · obtain ⟨b, e1, e2, e3, e4⟩ := paired_get pr e
    have q := entry_at list i
    rw [e1] at q
    exact ⟨_, b.2.1, q, rfl, e3, e4⟩
theorem turn_pairs {P : Program} {w : World} {od : Obj} {es : Array DictEntry} {ep : Nat} {kvs : List (List L2.Key × V)} {elts : List Expr} {kk : Nat} {tpos : Pos} {d : Addr} (it : Addr) (data : od.data = .dict es ep) :
    Turn P w K (.Tuple elts kk tpos) (Itti d od kvs) [it] it (fun i h => ∃ ok ov, IsItemIter h it d i kvs.length ep ok ov) where
  mem := List.mem_singleton.mpr rfl
  obj := by
    rintro i h ⟨ok, ov, e⟩ b hb
    rw [List.mem_singleton.mp hb]
    exact ⟨_, e, fun v z => nomatch z⟩
  keep := by
    rintro i h h' ⟨ok, ov, e⟩ same
    exact ⟨ok, ov, same it (List.mem_singleton.mpr rfl) _ e⟩
  item := by
    intro X hP hw hK calm i pins s σ H E I apart st go
    subst hP hw hK
    obtain ⟨at_, lt⟩ := go
    obtain ⟨low, es', ep', data', there, exact_, size, ent⟩ := locked I at_
    obtain ⟨rfl, rfl⟩ := dict_ep data data'
    have ek : kvs[i]? = some (kvs[i].1, kvs[i].2) := List.getElem?_eq_getElem lt
    obtain ⟨en, q, e1, e2, e3, rv⟩ := ent i _ _ ek
    obtain ⟨ok, ov, he⟩ := st
    rw [← size] at he
    have lt' : i < es'.size := by rw [size]; exact lt
    have eE : es'[i] = en := Option.some.inj ((Array.getElem?_eq_getElem lt').symm.trans e1)
    have small : it < s.heap.objs.size := Heap.lt_size he
    refine wpAny_pyNext_items_item_raw he ⟨od, there, exact_, data'⟩ lt' fun h1 out made _ others => ?_
    refine ⟨_, rfl, wpAny_letOwnedTupleGo_items (s := { s with heap := h1 }) out fun h2 in_ same => ?_⟩
    rw [eE] at made in_
    have made2 : h2.get? s.heap.objs.size = some { cls := .type "tuple", data := .seq #[en.key, en.val] } := (same.2 _ (Nat.ne_of_gt small)).trans made
    have new : ObjOk X.prog X.w (upd H s.heap.objs.size (.tup [.ref q, kvs[i].2])) h2 s.heap.objs.size (.tup [.ref q, kvs[i].2]) :=
      ⟨by show 2 ≤ sizeLine; decide, [en.key, en.val], .cons e2 (.cons rv .nil), _, made2, rfl, _, rfl⟩
    have I2 : Inv X pins σ (upd H s.heap.objs.size (.tup [.ref q, kvs[i].2])) { s with heap := h2 } :=
      I.turnedNew (t' := s.toks) (ch := [it]) (fun b ob off e => (same.2 b fun z => off (List.mem_singleton.mpr z)).trans (others b ob (fun z => off (List.mem_singleton.mpr z)) e)) apart (Nat.le_refl _) new
    refine ⟨.ref s.heap.objs.size, _, I2, rfl, ⟨_, q, _, _, ek, e3, rfl, I.hok.fresh (Nat.le_refl _), rfl⟩, ⟨en.key, en.val, by rw [← size]; exact in_⟩, fun b hb => ?_⟩
    rw [List.mem_singleton.mp hb, upd_ne (Nat.ne_of_lt small)]
    exact (apart it (List.mem_singleton.mpr rfl)).1
  done := by
    intro X hP hw hK calm i pins s σ H E I apart st stop
    subst hP hw hK
    obtain ⟨at_, ge⟩ := stop
    obtain ⟨low, es', ep', data', there, exact_, size, ent⟩ := locked I at_
    obtain ⟨rfl, rfl⟩ := dict_ep data data'
    obtain ⟨f0, f1, f2, f3, f4, f5⟩ := apart it (List.mem_singleton.mpr rfl)
    obtain ⟨ok, ov, he⟩ := st
    rw [← size] at he
    exact wpAny_pyNext_items_end_raw (I.ok.hd calm) he ⟨od, there, exact_, data'⟩ (by rw [size]; exact ge) fun h1 more => ⟨rfl, I.turned (t' := s.toks) (fun b ob ne e => more b ob ne e) f0 f1 f3 f4 f5⟩
  self := by
    rintro A i s Q E ⟨ok, ov, e⟩ h
    exact wpAny_pyIter_itemiter e h
def rawPairs (t : TE) : TI := fun σ H R => t σ H fun x H1 => ∃ d od kvs, x = .ref d ∧ H1 d = some (.frz od (.dT kvs)) ∧ R (Itti d od kvs) H1
theorem pi_pairs {elts : List Expr} {kk : Nat} {tpos : Pos} {t : TE} (he : PE X e t) (hbase : attributeBase e "items" X.env (eval e X.env) = eval e X.env := by rfl) (hline : (apos.endLine == cpos.line) = true := by rfl) :
    PI X (.Tuple elts kk tpos) (.Call (.Attribute e "items" apos) [] [] cpos) (rawPairs t) := by
  constructor
  intro pins s σ H R I want
  refine wpAny_Call_method (T := "dict") (id := "dict.items") hbase rfl hline PySem.F.plainAttrs_dict PySem.F.slot_dict_items PySem.F.type_dict_items (thn (he.run pins s σ H _ I want) ?_)
  rintro u s1 ⟨x, H1, I1, rx, d, od, kvs, rfl, at_, q⟩
  obtain rfl : u = Value.ref d := rx
  obtain ⟨low, es, ep, data, there, exact_, size, ent⟩ := locked I1 at_
  have raw : DT.Raw s1.heap d es ep := ⟨od, there, exact_, data⟩
  refine ⟨raw.typeIs, fun b z => ?_, ?_⟩
  · cases z
    exact ⟨od, there, exact_.2.1⟩
  have ask : wpAny (model X.prog X.w) X.A (pyIter (.ref s1.heap.objs.size)) (PIE X pins σ (.Tuple elts kk tpos) R) X.xe { s1 with heap := s1.heap.push { cls := .type "dict_items", data := .fields #[.ref d] } } := by
    have I2 : Inv X pins σ H1 { s1 with heap := s1.heap.push { cls := .type "dict_items", data := .fields #[.ref d] } } := I1.kept (t' := s1.toks) fun b ob z => Heap.get?_push_of_some _ z
    refine DT.iterI (d := d) ⟨_, Heap.get?_push_size _ rfl, rfl, rfl⟩ (raw.push _) (pi_one (tk := s1.toks) I2 _ (turn_pairs _ data) ⟨.none, .none, ?_⟩ q)
    rw [size]
    exact Heap.get?_push_size _ rfl
  show wpAny _ _ (callWith cpos (.builtin "dict.items") [.ref d] [] []) _ X.xe s1
  exact method_meetsIn PySem.F.slot_dict_items PySem.F.entry_dict_items rfl (PySem.evalArgs_none ⟨rfl, raw.typeIs, PySem.F.args_dict_items_1 _, _, DT.meetsItems (es := es) (ep := ep) low, raw, ask⟩)
/-- all values are data -/
def datK : List (List L2.Key × G) → Option (List (List L2.Key × D))
  | [] => some []
  | (k, .dat d) :: r => (datK r).map ((k, d) :: ·)
  | _ => none
theorem datK_eq : ∀ {kvs : List (List L2.Key × G)} {ds : List (List L2.Key × D)}, datK kvs = some ds → kvs = ds.map fun p => (p.1, .dat p.2)
  | [], _, e => by cases (show some [] = some _ from e); rfl
  | (k, .dat d) :: r, ds, e => by
    obtain ⟨es, q, rfl⟩ := mapS (show (datK r).map ((k, d) :: ·) = some ds from e)
    rw [datK_eq q]
    rfl
  | (_, .loc _) :: _, _, e => nomatch (show none = some _ from e)
theorem datK_map : ∀ ds : List (List L2.Key × D), datK (ds.map fun p => (p.1, .dat p.2)) = some ds
  | [] => rfl
  | (k, d) :: ds => by
    show (datK (ds.map fun p => (p.1, G.dat p.2))).map ((k, d) :: ·) = _
    rw [datK_map ds]
    rfl
def iPairsG (ga : GR) : GRI := fun Γ S P E => ga Γ S (fun x S1 => match lockAt S1 x with
  | some (n, od, ks, kvs) => (match datK kvs with
    | some ds => P (ds.map fun p => .dat (.tup [keyT p.1, p.2])) (fun S => S n = some (.dlk od ks kvs)) S1
    | none => False)
  | none => False) E
theorem walkg_pairs {n : Addr} {od : Obj} {ks : List (List L2.Key × V)} {ds : List (List L2.Key × D)} : WalkG K (Itti n od ks) (ds.map fun p => .dat (.tup [keyT p.1, p.2])) (fun S => S n = some (.dlk od ks (ds.map fun p => (p.1, .dat p.2)))) F := by
  refine ⟨fun i x R S2 F2 H2 ex s g st => ?_, fun R S2 F2 H2 s g st => ?_⟩
  · obtain ⟨_, at2, rk⟩ := g.obj n _ st
    have hi : i < ks.length := by
      obtain ⟨hi, _⟩ := List.getElem?_eq_some_iff.mp ex
      rw [List.length_map] at hi
      rw [Paired.length rk, List.length_map]
      exact hi
    refine ⟨⟨at2, hi⟩, ?_⟩
    rintro v H3 ⟨T, q, key, w, hk, hq, rfl, nT, rfl⟩
    obtain ⟨y, e1, ry⟩ := gks_key rk hk
    obtain ⟨F3, g3, s3, tp⟩ := g.tups
    rw [List.getElem?_map] at ex e1
    cases z : ds[i]? with
    | none => rw [z] at ex; cases ex
    | some pr =>
      rw [z] at ex e1
      obtain ⟨pk, pd⟩ := pr
      cases ex
      cases e1
      have s4 := up_new (F := F3) (p := T) (o := .tup [.ref q, w]) (g3.fresh nT).1
      refine ⟨_, s3.trans s4, g3.lay nT _, Rp.tup upd_same (.cons ?_ (.cons ?_ .nil))⟩
      · exact Rp.up s4 (Rp.tup (tp _ _ hq) (keyD_rp _))
      · exact Rp.up (s3.trans s4) ry
  · obtain ⟨_, at2, rk⟩ := g.obj n _ st
    exact ⟨at2, by rw [List.length_map, Paired.length rk, List.length_map]; exact Nat.le_refl _⟩
theorem gi_pairs {elts : List Expr} {kk : Nat} {tpos : Pos} (he : GE X W e ga) (hbase : attributeBase e "items" X.env (eval e X.env) = eval e X.env := by rfl) (hline : (apos.endLine == cpos.line) = true := by rfl) :
    GI X W (.Tuple elts kk tpos) (.Call (.Attribute e "items" apos) [] [] cpos) (iPairsG ga) := by
  refine PI.imp (pi_pairs he hbase hline) ?_
  rintro σ H T ⟨R, Γ, S, F, P, E, g, sl, h, on, ox⟩
  refine ⟨R, Γ, S, F, _, E, g, sl, h, fun v S1 F1 H1 x g1 s1 r1 h1 => ?_, ox⟩
  dsimp only at h1
  split at h1
  · rename_i n od ks kvs q
    obtain ⟨rfl, q2⟩ := lock_at q
    split at h1
    · rename_i ds e
      have := datK_eq e
      subst this
      obtain ⟨_, at1, rk⟩ := g1.obj n _ q2
      exact ⟨n, od, ks, r1, at1, on S1 F1 H1 _ _ _ g1 s1 walkg_pairs h1⟩
    · exact h1.elim
  · exact h1.elim
end
end LN

namespace LN
open PySem PySem.Spec PyProof.Rows L2
set_option maxHeartbeats 4000000 in
theorem tuple_mul_same (l : Addr) (items : Array Value) (n : Nat) (dd : Option Addr) (sl : Array (Option Value)) (u : Tok) :
    Meets (Builtin.«tuple.__mul__» ⟨[.ref l, .int 1 u], []⟩) (fun _ R s => s.heap.get? l = some { cls := .type "tuple", dict := dd, data := .seq items n, slots := sl } ∧ R (.ok (.ret (.ref l))) s) :=
  .of_wp fun prog w A R s h => by
    obtain ⟨hp, g, d, tk, os⟩ := s
    obtain ⟨hl, h⟩ := h
    have f1 := AutoSeq1.idx_int
    wp_walk using wpAny_loadPart' hl
    exact ⟨_, rfl, h⟩
section
variable {X : Cx}
/-- t * k, k from 1 on -/
def rRepD (K : PySem.W.Frag) : R2 := fun x y H Q => ∃ l k xs, x = .ref l ∧ y = .int k ∧ SqT K H l xs ∧ xs ≠ [] ∧ 1 ≤ k ∧ k ≤ 1000 ∧ xs.length ≤ 1000 ∧ ∀ p H', Same H H' → SqT K H' p (List.replicate k.toNat xs).flatten → Q (.ref p) H'
theorem op_repD : OpR X (binaryOp .Mult) (rRepD X.K) := by
  intro pins s σ H x y v u Q inv rx ry want
  obtain ⟨l, k, xs, rfl, rfl, hT, ne, h1, h2, hz, q⟩ := want
  by_cases one : k = 1
  · subst one
    cases rx
    obtain ⟨t, rfl⟩ := ry
    obtain ⟨its, r, ⟨⟨cls, dd, data, sl⟩, ho, hc, n, hd⟩, hs⟩ := inv.tuple hT
    simp only at hc hd
    subst hc hd
    refine wpAny_binaryOp_repeat_ref (T := "tuple") (U := "int") (by decide) ⟨_, ho, rfl⟩ (fun s' => typeIs_int s' 1 t) noFill_tuple_mul F.fills_int_mul F.slot_int_rmul repeat_tuple F.slot_int_index.lookup
      (call_meets F.slot_int_rmul (typeIs_int s 1 t) F.entry_int_rmul (F.args_int_rmul_2 _ _) (int_rmul_tuple 1 t l its.toArray n dd sl)
        ⟨ho, rfl, ⟨_, ho, rfl⟩, call_meets F.slot_tuple_mul ⟨_, ho, rfl⟩ F.entry_tuple_mul (F.args_tuple_mul_2 _ _) (tuple_mul_same l its.toArray n dd sl t) ⟨ho, ?_⟩⟩)
    refine ⟨.ref l, H, inv, rfl, q l H (Same.refl H) ?_⟩
    have e : (List.replicate (1 : Int).toNat xs).flatten = xs := by
      show (List.replicate 1 xs).flatten = xs
      simp
    rw [e]
    exact hT
  · exact op_repT pins s σ H _ _ v u Q inv rx ry ⟨l, k, xs, rfl, rfl, hT, ne, by omega, h2, hz, fun p np => q p _ (same_put np) (.inl (.inl upd_same))⟩
end
end LN
namespace LN
open PySem PySem.Spec PyProof.Rows L2
def rLenK (K : PySem.W.Frag) : List V → Hp → VK → Prop := fun xs H Q => ∃ p ys, xs = [.ref p] ∧ (SqL K H p ys ∨ SqT K H p ys) ∧ Q (.int ys.length) H
theorem call_lenK {X : Cx} : CallR X (.builtin "len") (rLenK X.K) := call_len_seq
end LN

namespace LN
open PySem PySem.Spec PyProof.Rows L2
/-! sum over lists, from a list on -/
abbrev Stays (h₀ h : Heap) : Prop := ∀ b o, h₀.get? b = some o → h.get? b = some o
section
variable {prog : Program} {w : World} {A : Around} {R : Result → Shared → Prop} {I S b0 : Addr} {fp wr : List Addr} {n : Nat} {P : Nat → Value → Prop} {St : Nat → Heap → Prop}
def joined (part : Nat → List Value) (i : Nat) : List Value := (List.range i).flatMap part
theorem joined_succ (part : Nat → List Value) (i : Nat) : joined part (i + 1) = joined part i ++ part i := by
  unfold joined
  rw [List.range_succ, List.flatMap_append]
  simp
theorem joined_le (part : Nat → List Value) {i n : Nat} (h : i ≤ n) : (joined part i).length ≤ (joined part n).length := by
  induction n with
  | zero => rw [Nat.le_zero.mp h]; exact Nat.le_refl _
  | succ m ih =>
    rcases Nat.lt_or_ge i (m + 1) with q | q
    · refine Nat.le_trans (ih (Nat.le_of_lt_succ q)) ?_
      rw [joined_succ, List.length_append]
      exact Nat.le_add_right _ _
    · rw [Nat.le_antisymm h q]
      exact Nat.le_refl _
theorem sumL_loop (W : Walks prog w A.in1 I fp wr n P St) (h₀ : Heap) (part : Nat → List Value)
    (items : ∀ i v, P i v → ∃ p c, v = .ref p ∧ IsL h₀ p (part i).toArray c) (offW : ∀ b ∈ wr, h₀.get? b = none) (offS : h₀.get? S = none) (apart : S ∉ fp) (inW : ∀ i h, St i h → ∀ b ∈ wr, b < h.objs.size) (small : (joined part n).length ≤ sizeLine) :
    ∀ (k i : Nat) (s : Shared) (T : Addr) (c cT : Nat), n - i = k → i ≤ n → St i s.heap → Stays h₀ s.heap → s.heap.get? S = some { cls := .type "list", dict := none, data := .seq #[.ref T] c, slots := #[] } →
      IsL s.heap T (joined part i).toArray cT → T ∉ wr → T ≠ S → ((i = 0 ∧ T = b0) ∨ h₀.get? T = none) →
      (∀ h' tk T' c', Stays h₀ h' → IsL h' T' (joined part n).toArray c' → ((n = 0 ∧ T' = b0) ∨ h₀.get? T' = none) → R (.ok (.ret (.ref T'))) { s with heap := h', toks := tk }) →
      codeAny (model prog w) A (.builtin "sum.loop" ⟨[.ref I, .ref S, rawInt 2, rawInt 0], []⟩) R s := by
  intro k
  induction k with
  | zero =>
    intro i s T c cT ek hi st keep hS hT tw ts was done
    obtain rfl : i = n := by omega
    refine codeAny_builtin F.entry_sum_loop ?_
    rw [Around.under_plainId F.plain_sum_loop _]
    show wpAny _ A.in1 (seqItems? (.ref S) >>= _) _ _ s
    refine wpAny_bind (wpAny_seqItems hS rfl ?_)
    show wpAny _ A.in1 (tryCatch (pyNext (.ref I)) _ >>= _) _ _ s
    refine wpAny_bind (wpAny_tryCatch (W.done s _ _ st fun h' tk k' => ?_))
    refine wpAny_pure (done h' tk T cT (fun b o e => k' b o (fun m => ?_) (keep b o e)) (k' T _ tw hT) was)
    rw [offW b m] at e
    cases e
  | succ k ih =>
    intro i s T c cT ek hi st keep hS hT tw ts was done
    have less : i < n := by omega
    refine codeAny_builtin F.entry_sum_loop ?_
    rw [Around.under_plainId F.plain_sum_loop _]
    show wpAny _ A.in1 (seqItems? (.ref S) >>= _) _ _ s
    refine wpAny_bind (wpAny_seqItems hS rfl ?_)
    show wpAny _ A.in1 (tryCatch (pyNext (.ref I)) _ >>= _) _ _ s
    refine wpAny_bind (wpAny_tryCatch (W.item i s _ _ less st fun v h1 t1 pv st1 k1 => ?_))
    obtain ⟨p, cp, rfl, hp⟩ := items i v pv
    have keep1 : Stays h₀ h1 := fun b o e => k1 b o (fun m => by rw [offW b m] at e; cases e) (keep b o e)
    have noS : S ∉ wr := fun m => apart (W.sub _ m)
    have hS1 := k1 S _ noS hS
    have hT1 := k1 T _ tw hT
    show wpAny _ A.in1 ((holding [Value.ref p] (binaryOp .Add (.ref T) (.ref p))).attempt >>= _) _ _ _
    have sz : (joined part i).length + (part i).length ≤ sizeLine := by
      rw [← List.length_append, ← joined_succ]
      exact Nat.le_trans (joined_le part less) small
    refine wpAny_bind (wpAny_attempt (wpAny_holding (PySem.P.add_list (s := { s with heap := h1, toks := t1 }) hT1 (keep1 _ _ hp) ?_ (by rw [List.size_toArray, List.size_toArray]; exact sz))))
    have ea : (joined part i).toArray ++ (part i).toArray = (joined part (i + 1)).toArray := by rw [joined_succ]; simp
    rw [ea]
    have hS2 : (h1.push { cls := .type "list", data := .seq (joined part (i + 1)).toArray }).get? S = some { cls := .type "list", dict := none, data := .seq #[.ref T] c, slots := #[] } := Heap.get?_push_of_some _ hS1
    refine wpAny_bind (wpAny_updateSeq hS2 rfl (wpAny_bind (wpAny_letGo ?_)))
    have new : (h1.push { cls := .type "list", data := .seq (joined part (i + 1)).toArray }).get? h1.objs.size = some { cls := .type "list", data := .seq (joined part (i + 1)).toArray } := Heap.get?_push_size _ rfl
    have lo : S < h1.objs.size := Heap.lt_size hS1
    refine wpAny_bind (wpAny_updateSeq (Heap.get?_update_self _ hS2 rfl) rfl (wpAny_pure ⟨plainId_quiet F.plain_sum_loop _, ?_⟩))
    have hS3 := Heap.get?_update_self (Obj.mapSeq fun _ => #[Value.ref h1.objs.size]) hS2 rfl
    have hS4 := Heap.get?_update_self (Obj.mapSeq fun _ => #[Value.ref h1.objs.size]) hS3 rfl
    have other : ∀ b o, b ≠ S → (h1.push { cls := .type "list", data := .seq (joined part (i + 1)).toArray }).get? b = some o →
        (((h1.push { cls := .type "list", data := .seq (joined part (i + 1)).toArray }).update S (Obj.mapSeq fun _ => #[Value.ref h1.objs.size])).update S (Obj.mapSeq fun _ => #[Value.ref h1.objs.size])).get? b = some o :=
      fun b o nb e => (Heap.get?_update_other _ _ (Ne.symm nb)).trans ((Heap.get?_update_other _ _ (Ne.symm nb)).trans e)
    have neS : ∀ b o, h₀.get? b = some o → b ≠ S := fun b o e z => by rw [z, offS] at e; cases e
    have fresh : h₀.get? h1.objs.size = none := by
      cases e : h₀.get? h1.objs.size with
      | none => rfl
      | some o => exact absurd (Heap.lt_size (keep1 _ _ e)) (Nat.lt_irrefl _)
    refine ih (i + 1) _ h1.objs.size c 0 (by omega) less (W.frame _ _ _ st1 fun b hb o e => ?_) (fun b o e => ?_) hS4 (other _ _ (Nat.ne_of_gt lo) new) (fun m => ?_) (Nat.ne_of_gt lo) (.inr fresh) (fun h' tk T' c' k' => done h' tk T' c' k')
    · exact other b o (fun z => apart (z ▸ hb)) (Heap.get?_push_of_some _ e)
    · exact other b o (neS b o e) (Heap.get?_push_of_some _ (keep1 b o e))
    · exact Nat.lt_irrefl _ (inW _ _ st1 _ m)
theorem sum_two_args (a b : Value) : argsOk "sum" ⟨[a, b], []⟩ := by unfold argsOk; kernel_rfl
theorem list_no_str : isSubtype (.type "list") (.type "str") = pure false := by rw [isSubtype_type]; kernel_rfl
theorem list_no_bytes : isSubtype (.type "list") (.type "bytes") = pure false := by rw [isSubtype_type]; kernel_rfl
theorem list_no_bytearray : isSubtype (.type "list") (.type "bytearray") = pure false := by rw [isSubtype_type]; kernel_rfl
theorem sum_lists {E : Value → Shared → Prop} {s : Shared} {l b nb : Nat} {vs : List Value} {part : Nat → List Value} {Q : Value → Shared → Prop} (hh : A.handled = none) (hl : s.heap.IsList l vs.toArray) (hb : IsL s.heap b #[] nb)
    (items : ∀ i v, vs[i]? = some v → ∃ p c, v = .ref p ∧ IsL s.heap p (part i).toArray c) (small : (joined part vs.length).length ≤ sizeLine)
    (done : ∀ h' tk T c, Stays s.heap h' → IsL h' T (joined part vs.length).toArray c → ((vs.length = 0 ∧ T = b) ∨ s.heap.get? T = none) → Q (.ref T) { s with heap := h', toks := tk }) :
    wpAny (model prog w) A (call (.builtin "sum") [.ref l, .ref b]) Q E s := by
  refine call_function_tree F.kind_sum F.plain_sum F.entry_sum (sum_two_args _ _) ?_
  unfold Builtin.«sum»
  simp only [List.length_cons, List.length_nil]
  rw [if_neg (by decide)]
  refine wpAny_bind (wpAny_of_eq (show Builtin.Builtins.bindParams "sum" ["start"] 0 ⟨[.ref b], []⟩ = pure [some (.ref b)] from rfl) ?_)
  refine wpAny_bind (iter_any (A := A.in1) hl fun s2 e2 st ne => ?_)
  subst e2
  have hb2 : (s.heap.push { cls := .type "list_iterator", data := .fields #[.ref l, .int 0 0] }).get? b = some { cls := .type "list", dict := none, data := .seq #[] nb, slots := #[] } := Heap.get?_push_of_some _ hb
  have ty : Shared.TypeIs { s with heap := s.heap.push { cls := .type "list_iterator", data := .fields #[.ref l, .int 0 0] } } (.ref b) "list" := ⟨_, hb2, rfl⟩
  refine wpAny_bind (wpAny_pure ?_)
  simp only [List.forIn_cons, List.forIn_nil]
  refine wpAny_bind (wpAny_bind (wpAny_bind (wpAny_isInstance (T := "list") (b := false) ty list_no_str ?_)))
  simp only [Bool.false_eq_true, if_false]
  refine wpAny_pure (wpAny_bind (wpAny_bind (wpAny_isInstance (T := "list") (b := false) ty list_no_bytes ?_)))
  simp only [Bool.false_eq_true, if_false]
  refine wpAny_pure (wpAny_bind (wpAny_bind (wpAny_isInstance (T := "list") (b := false) ty list_no_bytearray ?_)))
  simp only [Bool.false_eq_true, if_false]
  refine wpAny_pure (wpAny_pure ?_)
  refine wpAny_bind (wpAny_newObj_type ?_)
  have none1 : s.heap.get? s.heap.objs.size = none := by
    cases e : s.heap.get? s.heap.objs.size with
    | none => rfl
    | some o => exact absurd (Heap.lt_size e) (Nat.lt_irrefl _)
  have none2 : s.heap.get? (s.heap.objs.size + 1) = none := by
    cases e : s.heap.get? (s.heap.objs.size + 1) with
    | none => rfl
    | some o => exact absurd (Nat.lt_of_succ_lt (Heap.lt_size e)) (Nat.lt_irrefl _)
  have sz : (s.heap.push { cls := .type "list_iterator", data := .fields #[.ref l, .int 0 0] }).objs.size = s.heap.objs.size + 1 := Heap.size_push _ _
  have lb : b < s.heap.objs.size := Heap.lt_size hb
  have ll : l < s.heap.objs.size := by obtain ⟨_, e, _⟩ := hl; exact Heap.lt_size e
  have size : vs.toArray.size = vs.length := List.size_toArray
  have W := Walks.list (prog := prog) (w := w) (A := A.in1) hh s.heap.objs.size l (Nat.ne_of_lt ll) vs.toArray
  rw [size] at W
  refine wpAny_pure ⟨plainId_quiet F.plain_sum_loop _, ?_⟩
  refine sumL_loop (b0 := b) W s.heap part (fun i v hv => items i v (by simpa using hv)) (fun c hc => by rw [List.mem_singleton.mp hc]; exact none1) (by show s.heap.get? (Heap.objs _).size = none; rw [sz]; exact none2) (fun m => ?_) (fun i h st2 c hc => ?_) small vs.length 0 _ b 0 nb (Nat.sub_zero _) (Nat.zero_le _)
    (W.frame _ _ _ st fun c hc o e => Heap.get?_push_of_some _ e) (fun c o e => Heap.get?_push_of_some _ (Heap.get?_push_of_some _ e)) (Heap.get?_push_size _ rfl) (Heap.get?_push_of_some _ hb2) (fun m => ?_) (fun z => ?_) (.inl ⟨rfl, rfl⟩) (fun h' tk T c k t was => done h' tk T c k t was)
  · have e : (Heap.push s.heap { cls := .type "list_iterator", data := .fields #[.ref l, .int 0 0] }).objs.size ∈ [s.heap.objs.size, l] := m
    rw [sz] at e
    rcases List.mem_cons.mp e with z | z
    · exact Nat.succ_ne_self _ z
    · have z2 := List.mem_singleton.mp z
      rw [← z2] at ll
      exact Nat.lt_irrefl _ (Nat.lt_of_succ_lt ll)
  · rw [List.mem_singleton.mp hc]
    obtain ⟨⟨o, e, _⟩, _⟩ := st2
    exact Heap.lt_size e
  · have e := List.mem_singleton.mp m
    rw [e] at lb
    exact Nat.lt_irrefl _ lb
  · have e : b = (Heap.push s.heap { cls := .type "list_iterator", data := .fields #[.ref l, .int 0 0] }).objs.size := z
    rw [sz] at e
    rw [e] at lb
    exact Nat.lt_irrefl _ (Nat.lt_of_succ_lt lb)
end
section
variable {X : Cx}
/-- sum(lists, []): a new list of all their parts -/
def rSumL (K : PySem.W.Frag) : List V → Hp → VK → Prop := fun vs H Q => ∃ (l b : Addr) (ps : List Addr) (xss : List (List V)), vs = [.ref l, .ref b] ∧ SqL K H l (ps.map V.ref) ∧ H b = some (.lst []) ∧ ps.length = xss.length ∧ (∀ (i : Nat) (p : Addr) (xs : List V), ps[i]? = some p → xss[i]? = some xs → H p = some (.lst xs)) ∧ xss.flatten.length ≤ sizeLine ∧
  (ps = [] → Q (.ref b) H) ∧ (∀ T, H T = none → Q (.ref T) (upd H T (.lst xss.flatten)))
theorem cr_sumL (hc : X.calm = true) : CallR X (.builtin "sum") (rSumL X.K) := by
  intro pins s σ H vs us Q I r h
  obtain ⟨l, b, ps, xss, rfl, hs, hb, hn, parts, small, q0, q1⟩ := h
  obtain ⟨u1, u2, rfl, r1, r2⟩ := vals2 r
  cases r1
  cases r2
  obtain ⟨its, rv, hl, _⟩ := I.list hs
  obtain ⟨_, itb, nb, rb, _, eb⟩ := I.lstM hb
  cases rb
  have vlen : its.length = ps.length := by rw [← rv.length, List.length_map]
  -- the parts' own values
  have own : ∀ i (p : Addr), ps[i]? = some p → ∃ (xs : List V) (ys : List Value) (c : Nat), xss[i]? = some xs ∧ Vals xs ys ∧ IsL s.heap p ys.toArray c := fun i p hp => by
    have lt : i < xss.length := by rw [← hn]; exact (List.getElem?_eq_some_iff.mp hp).1
    have ex := List.getElem?_eq_getElem lt
    obtain ⟨_, ys, c, ry, _, ey⟩ := I.lstM (parts i p _ hp ex)
    exact ⟨_, ys, c, ex, ry, ey⟩
  have all : ∃ part : Nat → List Value, ∀ i (p : Addr), ps[i]? = some p → ∃ (xs : List V) (c : Nat), xss[i]? = some xs ∧ Vals xs (part i) ∧ IsL s.heap p (part i).toArray c := by
    refine Classical.axiomOfChoice (r := fun (i : Nat) (ys : List Value) => ∀ (p : Addr), ps[i]? = some p → ∃ (xs : List V) (c : Nat), xss[i]? = some xs ∧ Vals xs ys ∧ IsL s.heap p ys.toArray c) fun i => ?_
    cases e : ps[i]? with
    | none => exact ⟨[], fun p hp => by cases hp⟩
    | some p =>
      obtain ⟨xs, ys, c, ex, ry, ey⟩ := own i p e
      exact ⟨ys, fun p' hp => by cases hp; exact ⟨xs, c, ex, ry, ey⟩⟩
  obtain ⟨part, hp⟩ := all
  have whole : ∀ i, i ≤ ps.length → Vals (xss.take i).flatten (joined part i) := by
    intro i
    induction i with
    | zero =>
      intro _
      exact .nil
    | succ i ih =>
      intro hi
      have lt : i < ps.length := hi
      obtain ⟨xs, c, ex, ry, _⟩ := hp i _ (List.getElem?_eq_getElem lt)
      rw [joined_succ, List.take_add_one, ex, List.flatten_append]
      have z : ((some xs).toList).flatten = xs := by
        show [xs].flatten = xs
        simp
      rw [z]
      exact (ih (Nat.le_of_lt lt)).append ry
  have full := whole its.length (by rw [vlen]; exact Nat.le_refl _)
  rw [List.take_of_length_le (by rw [vlen, hn]; exact Nat.le_refl _)] at full
  refine sum_lists (part := part) (I.ok.hd hc) hl.isList eb (fun i v hv => ?_) (by rw [← full.length]; exact small) (fun h' tk T c k t was => ?_)
  · have rv' := rv
    obtain ⟨x, ex, rx⟩ : ∃ x, (ps.map V.ref)[i]? = some x ∧ RelV x v := by
      have lt : i < (ps.map V.ref).length := by rw [rv.length]; exact (List.getElem?_eq_some_iff.mp hv).1
      obtain ⟨u, eu, ru⟩ := rv.get (List.getElem?_eq_getElem lt)
      rw [hv] at eu
      cases eu
      exact ⟨_, List.getElem?_eq_getElem lt, ru⟩
    rw [List.getElem?_map] at ex
    obtain ⟨p, ep, rfl⟩ := Option.map_eq_some_iff.mp ex
    obtain rfl : v = Value.ref p := rx
    obtain ⟨xs, c, _, _, ei⟩ := hp i p ep
    exact ⟨p, c, rfl, ei⟩
  · rcases was with ⟨z, rfl⟩ | new
    · have nil : ps = [] := List.length_eq_zero_iff.mp (by rw [← vlen]; exact z)
      exact ⟨.ref T, H, I.kept (t' := tk) k, rfl, q0 nil⟩
    · refine ⟨.ref T, _, I.laidN (t' := tk) (o := .lst xss.flatten) k new (I.hok.gone new) ⟨small, _, c, full, t⟩, rfl, q1 _ (I.hok.gone new)⟩
end
end LN

namespace LN
open PySem PySem.Spec PyProof.Rows L2
/-! a dict of two clauses without tests: its key and its value at each turn of the second -/
abbrev twoEx (kx vx t0 i0 t1 i1 : Expr) (scope : Scope) (pos : Pos) : Expr := .DictComp kx vx [⟨t0, i0, [], 0⟩, ⟨t1, i1, [], 0⟩] scope pos
section
variable {B : Cx} {kx vx t0 i0 t1 i1 : Expr} {scope : Scope} {pos : Pos}
theorem calm_end {α : Type} {t : Sem α} {Q Q' : α → Shared → Prop} {E : Value → Shared → Prop} {s : Shared} (never : B.xe = fun _ _ => False) (h : wpAny (model B.prog B.w) B.A t Q B.xe s) (hQ : ∀ a s', Q a s' → Q' a s') : wpAny (model B.prog B.w) B.A t Q' E s := by
  rw [never] at h
  exact thnF h hQ
/-- what is asked of the turns of a clause -/
def Turns (J : It) (W : Nat → Nat → Hp → Prop) (stopped : Hp → Prop) (turn : V → Hp → (Hp → Prop) → Prop) : Prop := ∀ j k H, W j k H → (J.stop j H ∧ stopped H) ∨ (J.go j H ∧ ∃ Nx : Hp → Prop, (∀ H', Nx H' → ∃ k', k' < k ∧ W (j + 1) k' H') ∧ ∀ x H', J.yld j H x H' → turn x H' Nx)
/-- a pair put into the dict at D -/
def putIn (D : Addr) (tk tv : TE) (σ : L2.St) (H : Hp) (Nx : Hp → Prop) : Prop := tk σ H fun y H1 => tv σ H1 fun z H2 => ∃ kvs k, y = kV k ∧ H2 D = some (.dK kvs) ∧ kvs.length < sizeLine ∧ Nx (upd H2 D (.dK (putK kvs k z)))
theorem two_inner {R : Result → Shared → Prop} {g1 : TG} {tk tv : TE} {pins : List (Addr × Obj)} {σ : L2.St} {H0 : Hp} {s0 : Shared} {it D : Addr} {fp : List Addr} {tn : Nat → Heap → Prop} {J : It} {vs1 : List Nat} {Nx : Hp → Prop} {W : Nat → Nat → Hp → Prop} {m0 : Nat}
    (calm : B.calm = true) (never : B.xe = fun _ _ => False) (pg : PG B t1 g1) (pk : PE B kx tk) (pv : PE B vx tv) (T : Turn B.prog B.w B.K t1 J fp it tn)
    (I0 : Inv B pins σ H0 s0) (t00 : tn 0 s0.heap) (apart : ∀ b ∈ fp, FpOk B pins H0 b) (w0 : W 0 m0 H0)
    (turns : Turns J W Nx fun x H Nx1 => g1 x (wipe σ vs1) H fun σ3 H3 => wipe σ3 vs1 = wipe σ vs1 ∧ putIn D tk tv σ3 H3 Nx1)
    (fin : ∀ H s, Inv B pins (wipe σ vs1) H s → Nx H → R (.ok .next) s) :
    codeAny (model B.prog B.w) B.A (.compLoop (twoEx kx vx t0 i0 t1 i1 scope pos) 1 (.ref it) (.ref D) B.env) R s0 := by
  have fpOk : ∀ {H : Hp}, (∀ b ∈ fp, H b = none) → ∀ b ∈ fp, FpOk B pins H b := fun hn b hb => ⟨hn b hb, (apart b hb).2⟩
  refine codeAny_loop rfl (fun k s => ∃ j H, Inv B pins (wipe σ vs1) H s ∧ tn j s.heap ∧ (∀ b ∈ fp, H b = none) ∧ W j k H) (fun k s inv => ?_) m0 ⟨0, H0, I0.weak (wipe_length _ _) (fun j v e => (wipe_some e).1), t00, fun b hb => (apart b hb).1, w0⟩
  obtain ⟨j, H, I, tj, free, wj⟩ := inv
  show wpAny _ B.A ((compTurn (twoEx kx vx t0 i0 t1 i1 scope pos) 1 (.ref it) (.ref D) B.env).onRaise (fun x => do noteFrame x B.env; theTreesLotGoes x)) _ _ s
  refine wpAny_noted ?_
  show wpAny _ B.A (do
      standAt i1.pos
      match ← pyNext (.ref it) with
      | none => pure (.done .next)
      | some v =>
        letOwnedTupleGo t1 (.ref it) v
        assign t1 B.env v
        (do
            let kv ← eval kx B.env
            let vv ← holding [kv] (eval vx B.env)
            standAt { kx.pos with endLine := vx.pos.endLine, endCol := vx.pos.endCol }
            holding [kv, vv] (dictSet D kv vv))
        again (.compLoop (twoEx kx vx t0 i0 t1 i1 scope pos) 1 (.ref it) (.ref D) B.env)) _ _ s
  refine wpAny_bind (wpAny_standAt (wpAny_bind ?_))
  rcases turns j k H wj with ⟨stop, nx⟩ | ⟨go, Nx1, down, step⟩
  · refine thnF (T.done B rfl rfl rfl calm j pins s _ H (fun _ _ => False) I (fpOk free) tj stop) fun r s1 ⟨er, I1⟩ => ?_
    subst er
    exact wpAny_pure (fin H s1 I1 nx)
  · refine thnF (T.item B rfl rfl rfl calm j pins s _ H (fun _ _ => False) I (fpOk free) tj go) fun r s1 ⟨u, er, got⟩ => ?_
    subst er
    refine wpAny_bind (thnF got fun _ s2 ⟨x, H2, I2, rx, y2, t2, free2⟩ => ?_)
    have J2 := I2.pinned (fpOk free2) (T.obj _ _ t2)
    refine wpAny_bind (calm_end never (pg.run _ s2 _ H2 x u _ J2 rx (step x H2 y2)) fun _ s3 ⟨σ3, H3, I3, same, q3⟩ => ?_)
    refine wpAny_bind (wpAny_bind (calm_end never (pk.run _ s3 σ3 H3 _ I3 q3) fun kv s4 ⟨yk, H4, I4, r4, q4⟩ => ?_))
    refine wpAny_bind (wpAny_holding (calm_end never (pv.run _ s4 σ3 H4 _ I4 q4) fun vv s5 ⟨yv, H5, I5, r5, kvs, key, ek, hD, few, nx⟩ => ?_))
    subst ek
    refine wpAny_bind (wpAny_standAt (wpAny_holding (d_dictSet (X := B) I5 hD few r4 r5 fun s6 I6 => ?_)))
    obtain ⟨k', less, w'⟩ := down _ nx
    have stays : ∀ b ∈ fp, ∀ o, s2.heap.get? b = some o → s6.heap.get? b = some o ∧ (upd H5 D (.dK (putK kvs key yv))) b = none := fun b hb o e =>
      let z := I6.pin (b, o) (List.mem_append_right _ (List.mem_append_right _ (mem_pinsAt hb e)))
      ⟨z.1, z.2.1⟩
    refine wpAny_pure ⟨rfl, k', less, j + 1, _, I6.unpinned.weak (by rw [← same, wipe_length]) (fun i v e => by rw [← same] at e; exact (wipe_some e).1), T.keep _ _ _ t2 fun b hb o e => (stays b hb o e).1, fun b hb => ?_, w'⟩
    obtain ⟨o, e, _⟩ := T.obj _ _ t2 b hb
    exact (stays b hb o e).2
theorem two_start {R : Result → Shared → Prop} {s : Shared} {it acc : Value} {env : Env} {prog : Program} {w : World} {A : Around} (loop : codeAny (model prog w) A (.compLoop (twoEx kx vx t0 i0 t1 i1 scope pos) 1 it acc env) R s)
    (own : wpAny (model prog w) A (pyIter it) (fun v s' => codeAny (model prog w) A (.compLoop (twoEx kx vx t0 i0 t1 i1 scope pos) 1 v acc env) R s') (notedBy (model prog w) A env fun x s' => R (.error x) s') s) :
    codeAny (model prog w) A (.compStart (twoEx kx vx t0 i0 t1 i1 scope pos) 1 it acc env) R s := by
  refine codeAny_of_tree ?_
  show wpAny _ _ ((compStart (twoEx kx vx t0 i0 t1 i1 scope pos) 1 it acc env).onRaise fun x => do noteFrame x env; standAt theWindowsPlace) _ _ s
  refine wpAny_notedAt ?_
  unfold compStart
  show wpAny _ _ (ask >>= _) _ _ s
  refine wpAny_bind (wpAny_askSetting (wpAny_ite ?_))
  split
  · first | exact wpAny_pure ⟨rfl, loop⟩ | exact wpAny_bind (wpAny_pure (wpAny_pure ⟨rfl, loop⟩))
  · refine wpAny_bind (wpAny_rule ?_)
    show wpAny _ _ (standAt i1.pos >>= _) _ _ s
    exact wpAny_bind (wpAny_standAt (wpAny_bind (wpAny_mono own (fun v s' h => wpAny_pure ⟨rfl, h⟩) fun _ _ x => x)))
end
section
variable {X : Cx} {kx vx t0 i0 t1 i1 : Expr} {scope : Scope} {pos : Pos}
/-- {k: v for a in x for b in y}: D the new dict; vs: the block's names, vs1: those of the second target -/
def tDc2 (wi : TI) (g : TG) (wi1 : TI) (g1 : TG) (tk tv : TE) (vs vs1 : List Nat) : TE := fun σ H Q => wi σ H fun J H1 => ∀ D, H1 D = none → ∃ W : Nat → Nat → Hp → Prop, (∃ m, W 0 m (upd H1 D (.dK []))) ∧
  Turns J W (fun H' => Q (.ref D) H') fun x H' Nx => g x (wipe σ vs) H' fun σ2 H2 => wipe σ2 vs = wipe σ vs ∧ wi1 σ2 H2 fun J1 H3 => ∃ W1 : Nat → Nat → Hp → Prop, (∃ m, W1 0 m H3) ∧
    Turns J1 W1 Nx fun x1 H' Nx1 => g1 x1 (wipe σ2 vs1) H' fun σ3 H4 => wipe σ3 vs1 = wipe σ2 vs1 ∧ putIn D tk tv σ3 H4 Nx1
theorem two_outer {B : Cx} {R : Result → Shared → Prop} {g g1 : TG} {wi1 : TI} {tk tv : TE} {σ : L2.St} {H0 : Hp} {s0 : Shared} {it D : Addr} {fp : List Addr} {tn : Nat → Heap → Prop} {J : It} {vs vs1 : List Nat} {stopped : Hp → Prop} {W : Nat → Nat → Hp → Prop} {m0 : Nat}
    (calm : B.calm = true) (never : B.xe = fun _ _ => False) (sub : ∀ i ∈ vs1, i ∈ vs) (pg : PG B t0 g) (pi1 : PI B t1 i1 wi1) (pg1 : PG B t1 g1) (pk : PE B kx tk) (pv : PE B vx tv) (T : Turn B.prog B.w B.K t0 J fp it tn)
    (I0 : Inv B [] (wipe σ vs) H0 s0) (t00 : tn 0 s0.heap) (apart : ∀ {σ' : L2.St} {H' : Hp} {s' : Shared}, Inv B [] σ' H' s' → (∀ b ∈ fp, H' b = none) → ∀ b ∈ fp, FpOk B [] H' b) (free0 : ∀ b ∈ fp, H0 b = none) (w0 : W 0 m0 H0) (fold : ∀ x, foldedSetIterable i1 B.env x = pure x)
    (turns : Turns J W stopped fun x H' Nx => g x (wipe σ vs) H' fun σ2 H2 => wipe σ2 vs = wipe σ vs ∧ wi1 σ2 H2 fun J1 H3 => ∃ W1 : Nat → Nat → Hp → Prop, (∃ m, W1 0 m H3) ∧
      Turns J1 W1 Nx fun x1 H' Nx1 => g1 x1 (wipe σ2 vs1) H' fun σ3 H4 => wipe σ3 vs1 = wipe σ2 vs1 ∧ putIn D tk tv σ3 H4 Nx1)
    (fin : ∀ H s, Inv B [] (wipe σ vs) H s → stopped H → R (.ok .next) s) :
    codeAny (model B.prog B.w) B.A (.compLoop (twoEx kx vx t0 i0 t1 i1 scope pos) 0 (.ref it) (.ref D) B.env) R s0 := by
  refine codeAny_loop rfl (fun k s => ∃ j H, Inv B [] (wipe σ vs) H s ∧ tn j s.heap ∧ (∀ b ∈ fp, H b = none) ∧ W j k H) (fun k s inv => ?_) m0 ⟨0, H0, I0, t00, free0, w0⟩
  obtain ⟨j, H, I, tj, free, wj⟩ := inv
  show wpAny _ B.A ((compTurn (twoEx kx vx t0 i0 t1 i1 scope pos) 0 (.ref it) (.ref D) B.env).onRaise (fun x => do noteFrame x B.env; theTreesLotGoes x)) _ _ s
  refine wpAny_noted ?_
  show wpAny _ B.A (do
      standAt i0.pos
      match ← pyNext (.ref it) with
      | none => pure (.done .next)
      | some v =>
        letOwnedTupleGo t0 (.ref it) v
        assign t0 B.env v
        let x ← eval i1 B.env
        standAt i1.pos
        let x ← foldedSetIterable i1 B.env x
        let _ ← runOwn (.compStart (twoEx kx vx t0 i0 t1 i1 scope pos) 1 (← holding [x] (pyIter x)) (.ref D) B.env) B.env
        again (.compLoop (twoEx kx vx t0 i0 t1 i1 scope pos) 0 (.ref it) (.ref D) B.env)) _ _ s
  refine wpAny_bind (wpAny_standAt (wpAny_bind ?_))
  rcases turns j k H wj with ⟨stop, nx⟩ | ⟨go, Nx, down, step⟩
  · refine thnF (T.done B rfl rfl rfl calm j [] s _ H (fun _ _ => False) I (apart I free) tj stop) fun r s1 ⟨er, I1⟩ => ?_
    subst er
    exact wpAny_pure (fin H s1 I1 nx)
  · refine thnF (T.item B rfl rfl rfl calm j [] s _ H (fun _ _ => False) I (apart I free) tj go) fun r s1 ⟨u, er, got⟩ => ?_
    subst er
    refine wpAny_bind (thnF got fun _ s2 ⟨x, H2, I2, rx, y2, t2, free2⟩ => ?_)
    have J2 := I2.pinned (apart I2 free2) (T.obj _ _ t2)
    refine wpAny_bind (calm_end never (pg.run _ s2 _ H2 x u _ J2 rx (step x H2 y2)) fun _ s3 ⟨σ3, H3, I3, same, q3⟩ => ?_)
    have pr := pi1.run _ s3 σ3 H3 _ I3 q3
    rw [never] at pr
    refine wpAny_bind (thnF pr fun xv s4 h4 => ?_)
    refine wpAny_bind (wpAny_standAt (wpAny_bind (wpAny_of_eq (fold xv) (wpAny_bind (wpAny_holding (thnF h4 fun itv s5 h5 => ?_))))))
    obtain ⟨it1, fp1, tn1, J1, H5, e1, I5, T1, t10, apart1, W1, ⟨m1, w1⟩, turns1⟩ := h5
    subst e1
    refine wpAny_bind (wpAny_runOwn ?_)
    rw [Around.mark_none]
    have back : ∀ H' s', Inv B ([] ++ pinsAt fp s2.heap) (wipe σ3 vs1) H' s' → Nx H' → ∃ k', k' < k ∧ ∃ j H, Inv B [] (wipe σ vs) H s' ∧ tn j s'.heap ∧ (∀ b ∈ fp, H b = none) ∧ W j k' H := fun H' s' I' nx => by
      obtain ⟨k', less, w'⟩ := down H' nx
      have stays : ∀ b ∈ fp, ∀ o, s2.heap.get? b = some o → s'.heap.get? b = some o ∧ H' b = none := fun b hb o e =>
        let z := I'.pin (b, o) (List.mem_append_right _ (List.mem_append_right _ (mem_pinsAt hb e)))
        ⟨z.1, z.2.1⟩
      refine ⟨k', less, j + 1, H', (I'.unpinned (pins := [])).weak ?_ (fun i v e => ?_), T.keep _ _ _ t2 fun b hb o e => (stays b hb o e).1, fun b hb => ?_, w'⟩
      · rw [← same, wipe_length, wipe_length]
      · rw [← same] at e
        obtain ⟨e2, off⟩ := wipe_some e
        rw [wipe_out fun z => off (sub i z)]
        exact e2
      · obtain ⟨o, e, _⟩ := T.obj _ _ t2 b hb
        exact (stays b hb o e).2
    have loop := two_inner (kx := kx) (vx := vx) (t0 := t0) (i0 := i0) (i1 := i1) (scope := scope) (pos := pos) (D := D) (R := fun r s' => match r with
      | .ok _ => ∃ k', k' < k ∧ ∃ j H, Inv B [] (wipe σ vs) H s' ∧ tn j s'.heap ∧ (∀ b ∈ fp, H b = none) ∧ W j k' H
      | .error _ => False) calm never pg1 pk pv T1 I5 t10 apart1 w1 turns1 back
    refine codeAny_mono (two_start loop (T1.self B.A 0 _ _ _ t10 loop)) fun r s' hr => ?_
    cases r with
    | error e => exact hr.elim
    | ok f => first | exact wpAny_pure ⟨rfl, hr⟩ | exact wpAny_bind (wpAny_pure (wpAny_pure ⟨rfl, hr⟩))
theorem pe_dc2 {iterWi wi1 : TI} {g g1 : TG} {tk tv : TE} {own : List (Str × Nat)} {vs1 : List Nat} (calm : X.calm = true) (nd : X.N.Nodup) (hi : PI X t0 i0 iterWi) (ok : BlkOk X.N X.env.scope scope own) (sub : ∀ i ∈ vs1, i ∈ own.map (·.2))
    (pg : ∀ (s : Shared) (H : Hp) (C : Addr) (cl : List (Str × Addr)) (fp : List Addr), PG (X.blk s H scope (compEnvC scope cl C X.env) fp) t0 g)
    (pi1 : ∀ (s : Shared) (H : Hp) (C : Addr) (cl : List (Str × Addr)) (fp : List Addr), PI (X.blk s H scope (compEnvC scope cl C X.env) fp) t1 i1 wi1)
    (pg1 : ∀ (s : Shared) (H : Hp) (C : Addr) (cl : List (Str × Addr)) (fp : List Addr), PG (X.blk s H scope (compEnvC scope cl C X.env) fp) t1 g1)
    (pk : ∀ (s : Shared) (H : Hp) (C : Addr) (cl : List (Str × Addr)) (fp : List Addr), PE (X.blk s H scope (compEnvC scope cl C X.env) fp) kx tk)
    (pv : ∀ (s : Shared) (H : Hp) (C : Addr) (cl : List (Str × Addr)) (fp : List Addr), PE (X.blk s H scope (compEnvC scope cl C X.env) fp) vx tv)
    (fold0 : ∀ x, foldedSetIterable i0 X.env x = pure x := by intro _; rfl) (fold1 : ∀ env x, foldedSetIterable i1 env x = pure x := by intro _ _; rfl) :
    PE X (twoEx kx vx t0 i0 t1 i1 scope pos) (tDc2 iterWi g wi1 g1 tk tv (own.map (·.2)) vs1) := by
  refine ⟨fun pins s σ H Q I want => ?_⟩
  rw [arm_eval_DictComp]
  have outer : ∀ y ∈ scope.names, y.2 = .free → ∃ c, X.env.cells.lookup y.1 = some c := fun y hy e => I.ok.has _ (ok.free y hy e)
  refine wpAny_comprehension_free (use := none) rfl fold0 (closure_ok outer) ok.kind (fun y hy e => by rw [ok.uniq y hy, e]) (thn (hi.run pins s σ H _ I want) fun xv s1 hx => thn hx fun itv s2 h2 => ?_)
  obtain ⟨it, fp, tn, J, H2, e, I2, T, t2, f2, q⟩ := h2
  subst e
  refine wpAny_newObj_type (newEnv_comp ?_)
  obtain ⟨W, ⟨m0, w0⟩, turns⟩ := q s2.heap.objs.size I2.fresh
  have low : ∀ b ∈ fp, b < s2.heap.objs.size := fun b hb => Heap.lt_size (T.obj _ _ t2 b hb).choose_spec.1
  have I3 : Inv X pins σ (upd H2 s2.heap.objs.size (.dK [])) { s2 with heap := s2.heap.push { cls := .type "dict", data := .dict #[] } } := I2.laid (t' := s2.toks) (fun b o e => Heap.get?_push_of_some _ e) (Nat.le_refl _) (dk_empty s2.heap I2.big)
  have keep3 : ∀ b o, s2.heap.get? b = some o → (s2.heap.push { cls := .type "dict", data := .dict #[] }).get? b = some o := fun b o e => Heap.get?_push_of_some _ e
  have f3 : ∀ b ∈ fp, FpOk X pins (upd H2 s2.heap.objs.size (.dK [])) b ∧ b < (s2.heap.push { cls := .type "dict", data := .dict #[] }).objs.size := fun b hb => by
    refine ⟨⟨?_, (f2 b hb).2⟩, by rw [Heap.size_push]; exact Nat.lt_succ_of_lt (low b hb)⟩
    rw [upd_ne (Nat.ne_of_lt (low b hb))]
    exact (f2 b hb).1
  generalize eD : s2.heap.objs.size = D at *
  generalize e3 : ({ s2 with heap := s2.heap.push { cls := .type "dict", data := .dict #[] } } : Shared) = s3 at *
  have h3 : s3.heap = s2.heap.push { cls := .type "dict", data := .dict #[] } := by rw [← e3]
  rw [← h3] at keep3 f3
  have I4 := block_start I3 ok nd f3
  generalize eC : compEnvC scope (cellsFrom (s3.heap.objs.size + 1) scope.names (cloFrom X.env.cells scope.names [])) s3.heap.objs.size X.env = ce at *
  have gg := pg s3 (upd H2 D (.dK [])) s3.heap.objs.size (cellsFrom (s3.heap.objs.size + 1) scope.names (cloFrom X.env.cells scope.names [])) fp
  have gi := pi1 s3 (upd H2 D (.dK [])) s3.heap.objs.size (cellsFrom (s3.heap.objs.size + 1) scope.names (cloFrom X.env.cells scope.names [])) fp
  have g2 := pg1 s3 (upd H2 D (.dK [])) s3.heap.objs.size (cellsFrom (s3.heap.objs.size + 1) scope.names (cloFrom X.env.cells scope.names [])) fp
  have gk := pk s3 (upd H2 D (.dK [])) s3.heap.objs.size (cellsFrom (s3.heap.objs.size + 1) scope.names (cloFrom X.env.cells scope.names [])) fp
  have gv := pv s3 (upd H2 D (.dK [])) s3.heap.objs.size (cellsFrom (s3.heap.objs.size + 1) scope.names (cloFrom X.env.cells scope.names [])) fp
  rw [eC] at gg gi g2 gk gv
  show codeAny (model X.prog X.w) X.A (.compStart (twoEx kx vx t0 i0 t1 i1 scope pos) 0 (.ref it) (.ref D) (compEnvC scope (cellsFrom (s3.heap.objs.size + 1) scope.names (cloFrom X.env.cells scope.names [])) s3.heap.objs.size X.env))
    (compPost (model X.prog X.w) X.A X.xe none (EP X pins σ Q) (.ref D) s3.heap.objs.size) { s3 with heap := pushCells (s3.heap.push { cls := .type "dict", data := .dict #[] }) scope.names }
  rw [eC]
  have eL : ce.locals = s3.heap.objs.size := by rw [← eC]; rfl
  have t4 : tn 0 (pushCells (s3.heap.push { cls := .type "dict", data := .dict #[] }) scope.names) := T.keep _ _ _ t2 fun b _ o e => pushCells_keeps _ _ _ _ (Heap.get?_push_of_some _ (keep3 b o e))
  generalize e4 : ({ s3 with heap := pushCells (s3.heap.push { cls := .type "dict", data := .dict #[] }) scope.names } : Shared) = s4 at *
  have t4' : tn 0 s4.heap := by rw [← e4]; exact t4
  have loop := two_outer (B := X.blk s3 (upd H2 D (.dK [])) scope ce fp) (R := compPost (model X.prog X.w) X.A X.xe none (EP X pins σ Q) (.ref D) s3.heap.objs.size) (kx := kx) (vx := vx) (i0 := i0) (i1 := i1) (scope := scope) (pos := pos) (D := D) calm rfl sub gg gi g2 gk gv T I4 t4'
    (fun {σ' H' s'} J free b hb => ⟨free b hb, (J.ok.exf b hb).1, J.ok.exfs b hb, .inl hb, fun x c e => (J.ok.exf b hb).2 x c e, fun p hp => absurd (show p ∈ ([] : List (Addr × Obj)) ++ [] from hp) (by simp)⟩) (fun b hb => (f3 b hb).1.1) w0 (fold1 ce) turns
    (fun H' s' J qq => by
      have K : Inv X pins σ H' s' := I3.call' (ch := fp) J.os J.base J.hok J.bare fun b hb => ⟨(f3 b hb).1.2.2.2.1, (f3 b hb).1.2.1, (f3 b hb).1.2.2.2.2.1, (f3 b hb).1.2.2.2.2.2⟩
      have nC : H' ce.locals = none := J.free
      rw [eL] at nC
      obtain ⟨m, hn, _⟩ := J.loc
      have hn : s'.heap.Ns ce.locals m := hn
      rw [eL] at hn
      obtain ⟨f0, f1, _, f3', f4, f5⟩ := I3.fpOk (Nat.le_refl _) nC
      exact ⟨m, hn, fun h'' sb => ⟨.ref D, H', K.turned (t' := s'.toks) (fun b o hb e => (sb.2 b hb).trans e) f0 f1 f3' f4 f5, rfl, qq⟩⟩)
  exact codeAny_compStart_dict loop (T.self X.A 0 _ _ _ t4' loop)
end
end LN

namespace LN
open PySem PySem.Spec PyProof.Rows L2
/-! {k: v for x in xs if ..} with tuple keys -/
abbrev oneEx (kx vx t0 i0 : Expr) (ifs : List Expr) (scope : Scope) (pos : Pos) : Expr := .DictComp kx vx [⟨t0, i0, ifs, 0⟩] scope pos
/-- a pair put into the dict at D -/
def putT (D : Addr) (tk tv : TE) (σ : L2.St) (H : Hp) (Nx : Hp → Prop) : Prop := tk σ H fun y H1 => tv σ H1 fun z H2 => ∃ kvs key b, y = .ref b ∧ H2 b = some (.tup (key.map kV)) ∧ H2 D = some (.dT kvs) ∧ kvs.length < sizeLine ∧ Nx (upd H2 D (.dT (putK kvs key z)))
section
variable {B : Cx} {kx vx t0 i0 : Expr} {ifs : List Expr} {scope : Scope} {pos : Pos} {k : Nat}
theorem set_dT {pins : List (Addr × Obj)} {σ : L2.St} {H : Hp} {s : Shared} {E : Value → Shared → Prop} {D b : Addr} {kvs : List (List L2.Key × V)} {key : List L2.Key} {z : V} {u r : Value} {Q : Unit → Shared → Prop} (lim : B.A.units < cLine) (I : Inv B pins σ H s) (at_ : H D = some (.dT kvs)) (few : kvs.length < sizeLine)
    (hb : H b = some (.tup (key.map kV))) (ru : RelV (.ref b) u) (rz : RelV z r) (h : ∀ s', Inv B pins σ (upd H D (.dT (putK kvs key z))) s' → Q () s') : wpAny (model B.prog B.w) B.A (dictSet D u r) Q E s := by
  obtain rfl : u = Value.ref b := ru
  obtain ⟨_, low, ys, rel, dd⟩ := dt_of I.hok at_
  have l1 : ys.length ≤ sizeLine := by rw [← Paired.length rel]; exact Nat.le_of_lt few
  have l2 : (putK kvs key z).length ≤ sizeLine := Nat.le_trans (length_putK kvs key z) few
  exact wpAny_dictSet_heap (hsz := l1) lim (key_of I.hok hb) dd fun h' dd' sb => h _ (dt_wrote I at_ (rel.put key hb rz) l2 dd' sb)
theorem one_loop {R : Result → Shared → Prop} {g : TG} {tt : TT} {tk tv : TE} {σ : L2.St} {H0 : Hp} {s0 : Shared} {it D : Addr} {fp : List Addr} {tn : Nat → Heap → Prop} {J : It} {vs : List Nat} {stopped : Hp → Prop} {W : Nat → Nat → Hp → Prop} {m0 : Nat}
    (calm : B.calm = true) (never : B.xe = fun _ _ => False) (lim : B.A.units < cLine) (pg : PG B t0 g) (pt : PTs B ifs tt) (pk : PE B kx tk) (pv : PE B vx tv) (T : Turn B.prog B.w B.K t0 J fp it tn)
    (I0 : Inv B [] (wipe σ vs) H0 s0) (t00 : tn 0 s0.heap) (apart : ∀ {σ' : L2.St} {H' : Hp} {s' : Shared}, Inv B [] σ' H' s' → (∀ b ∈ fp, H' b = none) → ∀ b ∈ fp, FpOk B [] H' b) (free0 : ∀ b ∈ fp, H0 b = none) (w0 : W 0 m0 H0)
    (turns : Turns J W stopped fun x H' Nx => g x (wipe σ vs) H' fun σ2 H2 => wipe σ2 vs = wipe σ vs ∧ tt σ2 H2 fun b H3 => if b = true then putT D tk tv σ2 H3 Nx else Nx H3)
    (fin : ∀ H s, Inv B [] (wipe σ vs) H s → stopped H → R (.ok .next) s) :
    codeAny (model B.prog B.w) B.A (.compLoop (oneEx kx vx t0 i0 ifs scope pos) 0 (.ref it) (.ref D) B.env) R s0 := by
  refine codeAny_loop rfl (fun k s => ∃ j H, Inv B [] (wipe σ vs) H s ∧ tn j s.heap ∧ (∀ b ∈ fp, H b = none) ∧ W j k H) (fun k s inv => ?_) m0 ⟨0, H0, I0, t00, free0, w0⟩
  obtain ⟨j, H, I, tj, free, wj⟩ := inv
  show wpAny _ B.A ((compTurn (oneEx kx vx t0 i0 ifs scope pos) 0 (.ref it) (.ref D) B.env).onRaise (fun x => do noteFrame x B.env; theTreesLotGoes x)) _ _ s
  refine wpAny_noted ?_
  rw [compTurn_dict]
  refine wpAny_bind (wpAny_standAt (wpAny_bind ?_))
  rcases turns j k H wj with ⟨stop, nx⟩ | ⟨go, Nx, down, step⟩
  · refine thnF (T.done B rfl rfl rfl calm j [] s _ H (fun _ _ => False) I (apart I free) tj stop) fun r s1 ⟨er, I1⟩ => ?_
    subst er
    exact wpAny_pure (fin H s1 I1 nx)
  · refine thnF (T.item B rfl rfl rfl calm j [] s _ H (fun _ _ => False) I (apart I free) tj go) fun r s1 ⟨u, er, got⟩ => ?_
    subst er
    refine wpAny_bind (thnF got fun _ s2 ⟨x, H2, I2, rx, y2, t2, free2⟩ => ?_)
    have J2 := I2.pinned (apart I2 free2) (T.obj _ _ t2)
    refine wpAny_bind (calm_end never (pg.run _ s2 _ H2 x u _ J2 rx (step x H2 y2)) fun _ s3 ⟨σ3, H3, I3, same, q3⟩ => ?_)
    have back : ∀ H' s', Inv B ([] ++ pinsAt fp s2.heap) σ3 H' s' → Nx H' → ∃ k', k' < k ∧ ∃ j H, Inv B [] (wipe σ vs) H s' ∧ tn j s'.heap ∧ (∀ b ∈ fp, H b = none) ∧ W j k' H := fun H' s' I' nx => by
      obtain ⟨k', less, w'⟩ := down H' nx
      have stays : ∀ b ∈ fp, ∀ o, s2.heap.get? b = some o → s'.heap.get? b = some o ∧ H' b = none := fun b hb o e =>
        let z := I'.pin (b, o) (List.mem_append_right _ (List.mem_append_right _ (mem_pinsAt hb e)))
        ⟨z.1, z.2.1⟩
      refine ⟨k', less, j + 1, H', (I'.unpinned (pins := [])).weak ?_ (fun i v e => ?_), T.keep _ _ _ t2 fun b hb o e => (stays b hb o e).1, fun b hb => ?_, w'⟩
      · rw [← same, wipe_length]
      · rw [← same] at e
        exact (wipe_some e).1
      · obtain ⟨o, e, _⟩ := T.obj _ _ t2 b hb
        exact (stays b hb o e).2
    refine wpAny_bind (calm_end never (pt.run _ s3 σ3 H3 _ I3 q3) fun ok s4 ⟨H4, I4, q4⟩ => ?_)
    cases ok with
    | false => exact wpAny_pure ⟨rfl, back H4 s4 I4 q4⟩
    | true =>
      have q4 : putT D tk tv σ3 H4 Nx := q4
      refine wpAny_bind (wpAny_bind (calm_end never (pk.run _ s4 σ3 H4 _ I4 q4) fun kv s5 ⟨yk, H5, I5, r5, q5⟩ => ?_))
      refine wpAny_bind (wpAny_holding (calm_end never (pv.run _ s5 σ3 H5 _ I5 q5) fun vv s6 ⟨yv, H6, I6, r6, kvs, key, b, ek, hb, hD, few, nx⟩ => ?_))
      subst ek
      exact wpAny_bind (wpAny_standAt (wpAny_holding (set_dT lim I6 hD few hb r5 r6 fun s7 I7 => wpAny_pure ⟨rfl, back _ s7 I7 nx⟩)))
end
section
variable {X : Cx} {kx vx t0 i0 : Expr} {ifs : List Expr} {scope : Scope} {pos : Pos} {k : Nat}
/-- D the new dict; vs: the block's names -/
def tDcT (wi : TI) (g : TG) (tt : TT) (tk tv : TE) (vs : List Nat) : TE := fun σ H Q => wi σ H fun J H1 => ∀ D, H1 D = none → ∃ W : Nat → Nat → Hp → Prop, (∃ m, W 0 m (upd H1 D (.dT []))) ∧
  Turns J W (fun H' => Q (.ref D) H') fun x H' Nx => g x (wipe σ vs) H' fun σ2 H2 => wipe σ2 vs = wipe σ vs ∧ tt σ2 H2 fun b H3 => if b = true then putT D tk tv σ2 H3 Nx else Nx H3
theorem dcT_run {pins : List (Addr × Obj)} {s : Shared} {σ : L2.St} {H : Hp} {Q : VK} {p0 : Pos} {use : Option (Value → Sem Unit)} {Qf : Value → Shared → Prop} {iterWi : TI} {g : TG} {tt : TT} {tk tv : TE} {own : List (Str × Nat)} (I : Inv X pins σ H s) (want : tDcT iterWi g tt tk tv (own.map (·.2)) σ H Q) (calm : X.calm = true) (nd : X.N.Nodup) (lim : X.A.units < cLine) (hi : PI X t0 i0 iterWi) (ok : BlkOk X.N X.env.scope scope own)
    (pg : ∀ (s : Shared) (H : Hp) (C : Addr) (cl : List (Str × Addr)) (fp : List Addr), PG (X.blk s H scope (compEnvC scope cl C X.env) fp) t0 g)
    (pt : ∀ (s : Shared) (H : Hp) (C : Addr) (cl : List (Str × Addr)) (fp : List Addr), PTs (X.blk s H scope (compEnvC scope cl C X.env) fp) ifs tt)
    (pk : ∀ (s : Shared) (H : Hp) (C : Addr) (cl : List (Str × Addr)) (fp : List Addr), PE (X.blk s H scope (compEnvC scope cl C X.env) fp) kx tk)
    (pv : ∀ (s : Shared) (H : Hp) (C : Addr) (cl : List (Str × Addr)) (fp : List Addr), PE (X.blk s H scope (compEnvC scope cl C X.env) fp) vx tv)
    (fold0 : ∀ x, foldedSetIterable i0 X.env x = pure x)
    (ends : ∀ D C s' m H', Inv X pins σ H' s' → Q (.ref D) H' → s'.heap.Ns C m → FpOk X pins H' C → compPost (model X.prog X.w) X.A X.xe use Qf (.ref D) C (.ok .next) s') :
    wpAny (model X.prog X.w) X.A (comprehension (oneEx kx vx t0 i0 ifs scope pos) scope X.env p0 newDict false (eval i0 X.env) use) Qf X.xe s := by
  have outer : ∀ y ∈ scope.names, y.2 = .free → ∃ c, X.env.cells.lookup y.1 = some c := fun y hy e => I.ok.has _ (ok.free y hy e)
  refine wpAny_comprehension_free (use := use) rfl fold0 (closure_ok outer) ok.kind (fun y hy e => by rw [ok.uniq y hy, e]) (thn (hi.run pins s σ H _ I want) fun xv s1 hx => thn hx fun itv s2 h2 => ?_)
  obtain ⟨it, fp, tn, J, H2, e, I2, T, t2, f2, q⟩ := h2
  subst e
  refine wpAny_newObj_type (newEnv_comp ?_)
  obtain ⟨W, ⟨m0, w0⟩, turns⟩ := q s2.heap.objs.size I2.fresh
  have low : ∀ b ∈ fp, b < s2.heap.objs.size := fun b hb => Heap.lt_size (T.obj _ _ t2 b hb).choose_spec.1
  have I3 : Inv X pins σ (upd H2 s2.heap.objs.size (.dT [])) { s2 with heap := s2.heap.push { cls := .type "dict", data := .dict #[] } } := I2.laid (t' := s2.toks) (fun b o e => Heap.get?_push_of_some _ e) (Nat.le_refl _) (dt_empty s2.heap I2.big)
  have keep3 : ∀ b o, s2.heap.get? b = some o → (s2.heap.push { cls := .type "dict", data := .dict #[] }).get? b = some o := fun b o e => Heap.get?_push_of_some _ e
  have f3 : ∀ b ∈ fp, FpOk X pins (upd H2 s2.heap.objs.size (.dT [])) b ∧ b < (s2.heap.push { cls := .type "dict", data := .dict #[] }).objs.size := fun b hb => by
    refine ⟨⟨?_, (f2 b hb).2⟩, by rw [Heap.size_push]; exact Nat.lt_succ_of_lt (low b hb)⟩
    rw [upd_ne (Nat.ne_of_lt (low b hb))]
    exact (f2 b hb).1
  generalize eD : s2.heap.objs.size = D at *
  generalize e3 : ({ s2 with heap := s2.heap.push { cls := .type "dict", data := .dict #[] } } : Shared) = s3 at *
  have h3 : s3.heap = s2.heap.push { cls := .type "dict", data := .dict #[] } := by rw [← e3]
  rw [← h3] at keep3 f3
  have I4 := block_start I3 ok nd f3
  generalize eC : compEnvC scope (cellsFrom (s3.heap.objs.size + 1) scope.names (cloFrom X.env.cells scope.names [])) s3.heap.objs.size X.env = ce at *
  have gg := pg s3 (upd H2 D (.dT [])) s3.heap.objs.size (cellsFrom (s3.heap.objs.size + 1) scope.names (cloFrom X.env.cells scope.names [])) fp
  have gt := pt s3 (upd H2 D (.dT [])) s3.heap.objs.size (cellsFrom (s3.heap.objs.size + 1) scope.names (cloFrom X.env.cells scope.names [])) fp
  have gk := pk s3 (upd H2 D (.dT [])) s3.heap.objs.size (cellsFrom (s3.heap.objs.size + 1) scope.names (cloFrom X.env.cells scope.names [])) fp
  have gv := pv s3 (upd H2 D (.dT [])) s3.heap.objs.size (cellsFrom (s3.heap.objs.size + 1) scope.names (cloFrom X.env.cells scope.names [])) fp
  rw [eC] at gg gt gk gv
  show codeAny (model X.prog X.w) X.A (.compStart (oneEx kx vx t0 i0 ifs scope pos) 0 (.ref it) (.ref D) (compEnvC scope (cellsFrom (s3.heap.objs.size + 1) scope.names (cloFrom X.env.cells scope.names [])) s3.heap.objs.size X.env))
    (compPost (model X.prog X.w) X.A X.xe use Qf (.ref D) s3.heap.objs.size) { s3 with heap := pushCells (s3.heap.push { cls := .type "dict", data := .dict #[] }) scope.names }
  rw [eC]
  have eL : ce.locals = s3.heap.objs.size := by rw [← eC]; rfl
  have t4 : tn 0 (pushCells (s3.heap.push { cls := .type "dict", data := .dict #[] }) scope.names) := T.keep _ _ _ t2 fun b _ o e => pushCells_keeps _ _ _ _ (Heap.get?_push_of_some _ (keep3 b o e))
  generalize e4 : ({ s3 with heap := pushCells (s3.heap.push { cls := .type "dict", data := .dict #[] }) scope.names } : Shared) = s4 at *
  have t4' : tn 0 s4.heap := by rw [← e4]; exact t4
  have loop := one_loop (B := X.blk s3 (upd H2 D (.dT [])) scope ce fp) (R := compPost (model X.prog X.w) X.A X.xe use Qf (.ref D) s3.heap.objs.size) (kx := kx) (vx := vx) (i0 := i0) (scope := scope) (pos := pos) (D := D) calm rfl lim gg gt gk gv T I4 t4'
    (fun {σ' H' s'} J free b hb => ⟨free b hb, (J.ok.exf b hb).1, J.ok.exfs b hb, .inl hb, fun x c e => (J.ok.exf b hb).2 x c e, fun p hp => absurd (show p ∈ ([] : List (Addr × Obj)) ++ [] from hp) (by simp)⟩) (fun b hb => (f3 b hb).1.1) w0 turns
    (fun H' s' J qq => by
      have K : Inv X pins σ H' s' := I3.call' (ch := fp) J.os J.base J.hok J.bare fun b hb => ⟨(f3 b hb).1.2.2.2.1, (f3 b hb).1.2.1, (f3 b hb).1.2.2.2.2.1, (f3 b hb).1.2.2.2.2.2⟩
      have nC : H' ce.locals = none := J.free
      rw [eL] at nC
      obtain ⟨m, hn, _⟩ := J.loc
      have hn : s'.heap.Ns ce.locals m := hn
      rw [eL] at hn
      exact ends D _ s' m H' K qq hn (I3.fpOk (Nat.le_refl _) nC))
  exact codeAny_compStart_dict loop (T.self X.A 0 _ _ _ t4' loop)
theorem pe_dcT {iterWi : TI} {g : TG} {tt : TT} {tk tv : TE} {own : List (Str × Nat)} (calm : X.calm = true) (nd : X.N.Nodup) (lim : X.A.units < cLine) (hi : PI X t0 i0 iterWi) (ok : BlkOk X.N X.env.scope scope own)
    (pg : ∀ (s : Shared) (H : Hp) (C : Addr) (cl : List (Str × Addr)) (fp : List Addr), PG (X.blk s H scope (compEnvC scope cl C X.env) fp) t0 g)
    (pt : ∀ (s : Shared) (H : Hp) (C : Addr) (cl : List (Str × Addr)) (fp : List Addr), PTs (X.blk s H scope (compEnvC scope cl C X.env) fp) ifs tt)
    (pk : ∀ (s : Shared) (H : Hp) (C : Addr) (cl : List (Str × Addr)) (fp : List Addr), PE (X.blk s H scope (compEnvC scope cl C X.env) fp) kx tk)
    (pv : ∀ (s : Shared) (H : Hp) (C : Addr) (cl : List (Str × Addr)) (fp : List Addr), PE (X.blk s H scope (compEnvC scope cl C X.env) fp) vx tv)
    (fold0 : ∀ x, foldedSetIterable i0 X.env x = pure x := by intro _; rfl) :
    PE X (oneEx kx vx t0 i0 ifs scope pos) (tDcT iterWi g tt tk tv (own.map (·.2))) := by
  refine ⟨fun pins s σ H Q I want => ?_⟩
  rw [arm_eval_DictComp]
  refine dcT_run I want calm nd lim hi ok pg pt pk pv fold0 fun D C s' m H' I' q hn f => ⟨m, hn, fun h'' sb => ?_⟩
  obtain ⟨f0, f1, _, f3, f4, f5⟩ := f
  exact ⟨.ref D, H', I'.turned (t' := s'.toks) (fun b o hb e => (sb.2 b hb).trans e) f0 f1 f3 f4 f5, rfl, q⟩
/-- name = {..} on one line -/
theorem ps_setDcT {i : Nat} {y : Str} {py spos : Pos} {iterWi : TI} {g : TG} {tt : TT} {tk tv : TE} {own : List (Str × Nat)} (hy : X.N[i]? = some y) (hyl : X.env.scope.names.lookup y = some .local)
    (hsw : swapsWith (oneEx kx vx t0 i0 ifs scope pos) (some (.Name y py)) spos.line X.env = pure true) (calm : X.calm = true) (nd : X.N.Nodup) (lim : X.A.units < cLine) (hi : PI X t0 i0 iterWi) (ok : BlkOk X.N X.env.scope scope own)
    (pg : ∀ (s : Shared) (H : Hp) (C : Addr) (cl : List (Str × Addr)) (fp : List Addr), PG (X.blk s H scope (compEnvC scope cl C X.env) fp) t0 g)
    (pt : ∀ (s : Shared) (H : Hp) (C : Addr) (cl : List (Str × Addr)) (fp : List Addr), PTs (X.blk s H scope (compEnvC scope cl C X.env) fp) ifs tt)
    (pk : ∀ (s : Shared) (H : Hp) (C : Addr) (cl : List (Str × Addr)) (fp : List Addr), PE (X.blk s H scope (compEnvC scope cl C X.env) fp) kx tk)
    (pv : ∀ (s : Shared) (H : Hp) (C : Addr) (cl : List (Str × Addr)) (fp : List Addr), PE (X.blk s H scope (compEnvC scope cl C X.env) fp) vx tv)
    (fold0 : ∀ x, foldedSetIterable i0 X.env x = pure x := by intro _; rfl) :
    PS X (.Assign [.Name y py] (oneEx kx vx t0 i0 ifs scope pos) spos) (tAsg (tDcT iterWi g tt tk tv (own.map (·.2))) (gName i)) := by
  refine ⟨fun pins s σ H D I want => ?_⟩
  rw [exec_Assign_Name_used _ _ _ _ hsw]
  refine wpAny_bind (wpAny_standAt (wpAny_bind ?_))
  show wpAny _ X.A (do let _ ← comprehension (oneEx kx vx t0 i0 ifs scope pos) scope X.env (firstIterPos [⟨t0, i0, ifs, 0⟩] pos) newDict false (eval i0 X.env) (some (assign (.Name y py) X.env))) _ _ s
  have want : tDcT iterWi g tt tk tv (own.map (·.2)) σ H (fun x H1 => gName i x σ H1 D.nx) := want
  refine wpAny_bind (thn (dcT_run (Qf := fun _ s' => SP X pins D .next s') I want calm nd lim hi ok pg pt pk pv fold0 fun L C s' m H' I' q hn f => ?_) fun _ s' got => wpAny_pure (wpAny_pure got))
  show wpAny _ _ (assign (.Name y py) X.env (.ref L)) _ _ _
  refine wpAny_assign_Name (store_ok2 (v := V.ref L) I' nd hy (.inl hyl) rfl (fun s2 I2 => ?_) (.inr hyl))
  rintro ⟨a, sb, ha⟩
  obtain ⟨f0, f1, _, f3, f4, f5⟩ := f
  have apart : C ≠ a := ha.elim (fun e => e ▸ f1) fun e z => f4 y a e z.symm
  exact ⟨m, hn.sameBut sb apart, fun h3 sb3 => ⟨_, H', I2.turned (t' := s2.toks) (fun b o hb e => (sb3.2 b hb).trans e) f0 f1 f3 f4 f5, q⟩⟩
theorem sw_dict {gs : List Comprehension} {py : Pos} {y : Str} {l : Nat} {env : Env} (hk : env.scope.kind = .function) (hy : env.scope.names.lookup y = some .local) (hl : (py.line == pos.line) = true)
    (ha : (scope.names.any fun (n, k) => n == y && (k == .local || k == .cell)) = false) : swapsWith (.DictComp kx vx gs scope pos) (some (.Name y py)) l env = pure true := by
  have b1 : env.blockKind = .function := by unfold Env.blockKind; rw [hk]; rfl
  have b2 : env.kindOf y = some .local := hy
  unfold swapsWith
  simp only [b1, b2, ha, Expr.pos, hl]
  rfl
/-! .. by ghosts -/
/-- the items that are left -/
def DR (T : Tgt) (gt : GRB) (gk gv : GR) (Γw : List (Option G)) (st : Sto → Prop) (P : G → Sto → Prop) : List G → List (List L2.Key × G) → Sto → Prop
  | [], acc, S => st S ∧ ∀ p, S p = none → P (.loc p) (sup S p (.dct acc))
  | x :: xs, acc, S => st S ∧ T.put x Γw fun Γ2 => gt Γ2 S (fun b S3 =>
      if b = true then gk Γ2 S3 (fun y S4 => gv Γ2 S4 (fun z S5 => ∃ key, keyG y = some key ∧ acc.length < 100000 ∧ DR T gt gk gv Γw st P xs (putL acc key z) S5) never) never else DR T gt gk gv Γw st P xs acc S3) never
theorem DR.stood {T : Tgt} {gt : GRB} {gk gv : GR} {Γw : List (Option G)} {st : Sto → Prop} {P : G → Sto → Prop} {xs : List G} {acc : List (List L2.Key × G)} {S : Sto} (h : DR T gt gk gv Γw st P xs acc S) : st S := by
  cases xs with
  | nil => exact h.1
  | cons x xs => exact h.1
def gDc (gi : GRI) (T : Tgt) (gt : GRB) (gk gv : GR) (vs : List Nat) : GR := fun Γ S P E => gi Γ S (fun xs st S1 => DR T gt gk gv (gwipe Γ vs) st P xs [] S1) E
theorem ndct {kvs : List (List L2.Key × V)} : ∀ xs, HO.dT kvs ≠ .tup xs := fun _ z => by cases z
theorem tg_dc {K : PySem.W.Frag} {W : WX} {gi : GRI} {T : Tgt} {gt : GRB} {gk gv : GR} {vs : List Nat} (hw : ∀ i ∈ T.slots, i ∈ vs) {σ : L2.St} {H : Hp} {Q : VK} (h : tG K W (gDc gi T gt gk gv vs) σ H Q) :
    tDcT (tGI K W gi) (T.raw K) (tGB K W0 gt) (tG K W0 gk) (tG K W0 gv) vs σ H Q := by
  obtain ⟨R, Γ, S, F, P, E, g, sl, h, on, ox⟩ := h
  refine ⟨R, Γ, S, F, _, E, g, sl, h, fun S1 F1 H1 J xs stands g1 s1 wk h1 => ?_, ox⟩
  intro D nD
  have slw := (sl.up s1).wipe vs
  have nR := (g1.fresh nD).2.2
  let Pv : Nat → Hp → Prop := fun i H' => ∃ S' F' acc ws, GS K (upd R D (.dT ws)) S' F' H' ∧ Up F1 F' ∧ GKs K F' ws acc ∧ DR T gt gk gv (gwipe Γ vs) stands P (xs.drop i) acc S'
  refine ⟨fun i m H' => m = xs.length - i ∧ i ≤ xs.length ∧ Pv i H', ⟨xs.length, by simp, Nat.zero_le _, S1, F1, [], [], g1.hide nD ndct, Up.refl _, .nil, h1⟩, ?_⟩
  rintro i m H' ⟨rfl, hi', S2, F2, acc, ws, g2, s2, ra, iv⟩
  have st := iv.stood
  by_cases hlt : i < xs.length
  · have ex : xs[i]? = some xs[i] := List.getElem?_eq_getElem hlt
    obtain ⟨go, yl⟩ := wk.go i _ _ S2 F2 H' ex s2 g2 st
    refine .inr ⟨go, Pv (i + 1), fun H'' p' => ⟨xs.length - (i + 1), by omega, rfl, hlt, p'⟩, fun v H3 y => ?_⟩
    obtain ⟨F3, s3, g3, r3⟩ := yl v H3 y
    rw [drop_at hlt] at iv
    refine Tgt.run hw g3 (slw.up (s2.trans s3)) r3 iv.2 fun Γ2 σ2 sl2 we h2 => ⟨we, ?_⟩
    refine ⟨_, Γ2, S2, F3, _, _, g3, sl2, h2, fun b S4 F4 H4 g4 s4 h4 => ?_, ox0⟩
    cases b with
    | true =>
      refine iteT ⟨_, Γ2, S4, F4, _, _, g4, sl2.up s4, h4, fun w S5 F5 H5 yy g5 s5 r5 h5 => ?_, ox0⟩
      refine ⟨_, Γ2, S5, F5, _, _, g5, sl2.up (s4.trans s5), h5, fun u S6 F6 H6 zz g6 s6 r6 h6 => ?_, ox0⟩
      obtain ⟨key, ek, few, iv6⟩ := h6
      have at_ : H6 D = some (.dT ws) := (g6.rem D _ upd_same).1
      obtain ⟨b, rfl, hb⟩ := keyg_at g6 (r5.up s6) ek
      have s36 := ((s3.trans s4).trans s5).trans s6
      have ra6 : GKs K F6 ws acc := Paired.mapP ra fun _ _ z => ⟨z.1, z.2.up s36⟩
      refine ⟨ws, key, b, rfl, hb, at_, by rw [Paired.length ra]; exact Nat.lt_of_lt_of_le few (by decide), S6, F6, putL acc key zz, putK ws key u, ?_, s2.trans s36, gks_put r6 ra6, iv6⟩
      exact g6.turn _ ndct
    | false =>
      refine iteF ⟨S4, F4, acc, ws, g4, (s2.trans s3).trans s4, Paired.mapP ra fun _ _ z => ⟨z.1, z.2.up (s3.trans s4)⟩, h4⟩
  · have e : i = xs.length := by omega
    subst e
    rw [List.drop_length] at iv
    obtain ⟨_, f, n⟩ := g2.rem D _ upd_same
    exact .inl ⟨wk.stop _ S2 F2 H' s2 g2 st, on (.ref D) _ F2 H' (.loc D) (g2.showO nR (u := .dct acc) ⟨ws, (g2.rem D _ upd_same).1, ra⟩) (s1.trans s2) rfl (iv.2 D n)⟩
variable {W : WX} {own : List (Str × Nat)} {gi : GRI} {T : Tgt} {gt : GRB} {gk gv : GR}
theorem ge_dc (hr : Room k X.A) (hw : ∀ i ∈ T.slots, i ∈ own.map (·.2)) (hc : X.calm = true) (hN : X.N.Nodup) (hi : GI X W t0 i0 gi) (ok : BlkOk X.N X.env.scope scope own)
    (hg : ∀ (s : Shared) (H : Hp) (C : Addr) (cl : List (Str × Addr)) (fp : List Addr), PG (X.blk s H scope (compEnvC scope cl C X.env) fp) t0 (T.raw X.K)) (ht : ∀ (s : Shared) (H : Hp) (C : Addr) (cl : List (Str × Addr)) (fp : List Addr), GTs (X.blk s H scope (compEnvC scope cl C X.env) fp) W0 ifs gt)
    (hk : ∀ (s : Shared) (H : Hp) (C : Addr) (cl : List (Str × Addr)) (fp : List Addr), GE (X.blk s H scope (compEnvC scope cl C X.env) fp) W0 kx gk)
    (hv : ∀ (s : Shared) (H : Hp) (C : Addr) (cl : List (Str × Addr)) (fp : List Addr), GE (X.blk s H scope (compEnvC scope cl C X.env) fp) W0 vx gv) (hs : ∀ x, foldedSetIterable i0 X.env x = pure x := by intro _; rfl) :
    GE X W (.DictComp kx vx [⟨t0, i0, ifs, 0⟩] scope pos) (gDc gi T gt gk gv (own.map (·.2))) :=
  PE.imp (pe_dcT (tt := tGB X.K W0 gt) (tk := tG X.K W0 gk) (tv := tG X.K W0 gv) hc hN (by have := hr.un; omega) hi ok hg ht hk hv hs) fun _ _ _ => tg_dc hw
theorem gs_setDc {i : Nat} {y : Str} {py spos : Pos} (hr : Room k X.A) (hw : ∀ i ∈ T.slots, i ∈ own.map (·.2)) (hc : X.calm = true) (hN : X.N.Nodup) (hy : X.N[i]? = some y) (hyl : X.env.scope.names.lookup y = some .local)
    (hsw : swapsWith (.DictComp kx vx [⟨t0, i0, ifs, 0⟩] scope pos) (some (.Name y py)) spos.line X.env = pure true) (hi : GI X W t0 i0 gi) (ok : BlkOk X.N X.env.scope scope own)
    (hg : ∀ (s : Shared) (H : Hp) (C : Addr) (cl : List (Str × Addr)) (fp : List Addr), PG (X.blk s H scope (compEnvC scope cl C X.env) fp) t0 (T.raw X.K)) (ht : ∀ (s : Shared) (H : Hp) (C : Addr) (cl : List (Str × Addr)) (fp : List Addr), GTs (X.blk s H scope (compEnvC scope cl C X.env) fp) W0 ifs gt)
    (hk : ∀ (s : Shared) (H : Hp) (C : Addr) (cl : List (Str × Addr)) (fp : List Addr), GE (X.blk s H scope (compEnvC scope cl C X.env) fp) W0 kx gk)
    (hv : ∀ (s : Shared) (H : Hp) (C : Addr) (cl : List (Str × Addr)) (fp : List Addr), GE (X.blk s H scope (compEnvC scope cl C X.env) fp) W0 vx gv) (hs : ∀ x, foldedSetIterable i0 X.env x = pure x := by intro _; rfl) :
    GSt X W (.Assign [.Name y py] (.DictComp kx vx [⟨t0, i0, ifs, 0⟩] scope pos) spos) (gAsg (gDc gi T gt gk gv (own.map (·.2))) (gNm i)) := by
  refine PS.imp (ps_setDcT (tt := tGB X.K W0 gt) (tk := tG X.K W0 gk) (tv := tG X.K W0 gv) hy hyl hsw hc hN (by have := hr.un; omega) hi ok hg ht hk hv hs) ?_
  rintro D σ H ⟨R, Γ, S, F, d, g, sl, h, on⟩
  refine tg_dc (W := W) hw ⟨R, Γ, S, F, _, _, g, sl, h, fun v S1 F1 H1 x g1 s1 r1 h1 => ?_, on.ex sl⟩
  exact on.nx _ S1 F1 H1 _ g1 ((sl.up s1).set r1) s1 h1
end
/-! {k: v}, one pair -/
section
variable {X : Cx} {K : PySem.W.Frag} {W : WX} {a b e : Expr} {ga gb : GR} {pos p : Pos} {k : Nat} {R F H : Hp} {S : Sto}
theorem GS.unhide {D : Addr} {o : HO} (g : GS K (upd R D o) S F H) (n : R D = none) : GS K R S F H :=
  ⟨g.sub, fun a u e => g.rem a u (by rw [upd_ne (ne_of_none e n)]; exact e), g.obj, fun a xs e => g.rtup a xs (by rw [upd_ne (ne_of_none e n)]; exact e)⟩
theorem OnX.hid {σ : L2.St} {E : XP} {D : Addr} {o : HO} (ox : OnX K R F W σ E) (n : R D = none) : OnX K (upd R D o) F W σ E := fun C od gs S' F' H' g s x h => ox C od gs S' F' H' (g.unhide n) s x h
def gDOne (ga gb : GR) : GR := fun Γ S P E => ga Γ S (fun y S1 => gb Γ S1 (fun z S2 => ∃ key, keyG y = some key ∧ ∀ p, S2 p = none → P (.loc p) (sup S2 p (.dct [(key, z)]))) E) E
theorem ge_done (hr : Room k X.A) (ha : GE X W a ga) (hb : GE X W b gb) : GE X W (.Dict [some a] [b] pos) (gDOne ga gb) := by
  constructor
  rintro pins s σ H Q I ⟨R, Γ, S, F, P, E, g, sl, h, on, ox⟩
  have two : pairTrees [some a] [b] X.env pos ≠ [] ∧ (pairTrees [some a] [b] X.env pos).length ≤ 15 := ⟨fun z => (nomatch z), (by decide : 1 ≤ 15)⟩
  rw [arm_eval_Dict, show (evalEachOpt [some a] X.env).zip ((evalEach [b] X.env).map fun v => do let x ← v; standAt pos; pure x) = (pairTrees [some a] [b] X.env pos).map (fun p => (some p.1, p.2)) from rfl, dictDisplay_pairs _ two.1 (show 1 + 1 ≤ 17 by decide)]
  refine wpAny_bind (wpAny_standAt (wpAny_bind (wpAny_subDictH (knd := tupleKind (mixKind X.prog X.w)) (by show X.A.units < cLine; have := hr.un; omega) two.2 ?_)))
  have nD : H s.heap.objs.size = none := I.fresh
  have I1 : Inv X pins σ (upd H s.heap.objs.size (.dT [])) { s with heap := s.heap.push { cls := .type "dict", data := .dict #[] } } := I.laid (t' := s.toks) (fun b o e => Heap.get?_push_of_some _ e) (Nat.le_refl _) (dt_empty s.heap I.big)
  generalize s.heap.objs.size = D at *
  have g1 := g.hide (o := .dT []) nD ndct
  have nR := (g.fresh nD).2.2
  refine pairTrees_cons_walk (thn (ha.at_ I1 g1 sl h (ox.hid nR)) ?_)
  rintro u s2 ⟨y, H2, S2, F2, gy, I2, r2, g2, u2, q2, h2⟩
  refine thn (hb.at_ I2 g2 (sl.up u2) h2 ((ox.go u2).hid nR)) ?_
  rintro w s3 ⟨z, H3, S3, F3, gz, I3, r3, g3, u3, q3, key, ek, h3⟩
  refine pairTrees_nil_walk ?_
  obtain ⟨c, rfl, hc⟩ := keyg_at g3 (q2.up u3) ek
  obtain rfl : u = Value.ref c := r2
  obtain ⟨at_, f, n⟩ := g3.rem D _ upd_same
  obtain ⟨_, low, ys, rel, dd⟩ := dt_of I3.hok at_
  cases rel
  refine ⟨[(key, c, w)], ⟨rfl, rfl, key_of I3.hok hc, trivial⟩, dd, fun h' tk dd' sb => ?_⟩
  refine wpAny_pure ?_
  refine ⟨.ref D, upd H3 D (.dT [(key, z)]), dt_wrote I3 at_ (.cons ⟨rfl, hc, r3⟩ .nil) (by show 1 ≤ sizeLine; decide) dd' sb, rfl, ?_⟩
  have g4 := g3.turn (.dT [(key, z)]) ndct
  have g5 := g4.showO nR (u := .dct [(key, gz)]) ⟨_, upd_same, .cons ⟨rfl, q3⟩ .nil⟩
  exact on (.ref D) _ F3 _ (.loc D) g5 (u2.trans u3) rfl (h3 D n)
end
end LN

namespace LN
open PySem PySem.Spec PyProof.Rows L2
/-! dict(pairs), keys tuples -/
def pairD : D → Option (List L2.Key × D)
  | .tup [kd, vd] => (dkey kd).map fun key => (key, vd)
  | _ => none
def pairsD : List D → Option (List (List L2.Key × D))
  | [] => some []
  | d :: ds => match pairD d, pairsD ds with
    | some p, some ps => some (p :: ps)
    | _, _ => none
def mergeL {κ α : Type} [DecidableEq κ] (acc ps : List (κ × α)) : List (κ × α) := ps.foldl (fun a p => putL a p.1 p.2) acc
section
variable {X : Cx} {K : PySem.W.Frag} {R F H : Hp} {S : Sto} {k : Nat}
theorem pairD_at {v : V} {d : D} {p : List L2.Key × D} (g : GS K R S F H) (r : Rp K F v d) (e : pairD d = some p) : ∃ T b w, v = .ref T ∧ H T = some (.tup [.ref b, w]) ∧ H b = some (.tup (p.1.map kV)) ∧ Rp K F w p.2 := by
  unfold pairD at e
  split at e
  · rename_i kd vd
    obtain ⟨key, q, rfl⟩ := mapS e
    cases r with
    | tup h1 h2 =>
      cases h2 with
      | cons r1 h2 =>
        cases h2 with
        | cons r2 h2 =>
          cases h2
          obtain ⟨b, rfl, hb⟩ := key_at g r1 q
          exact ⟨_, b, _, rfl, g.sub _ _ h1, hb, r2⟩
  · cases e
/-- the pairs as they stand -/
theorem pairs_at {pins : List (Addr × Obj)} {σ : L2.St} {s : Shared} (I : Inv X pins σ H s) (g : GS X.K R S F H) : ∀ {xs : List V} {us : List Value} {ds : List D} {ps : List (List L2.Key × D)}, RpAll X.K F xs ds → Vals xs us → pairsD ds = some ps →
    ∃ ts : List (Addr × List L2.Key × Addr × Value × V), Paired (fun u t => u = Value.ref t.1 ∧ s.heap.IsTuple t.1 #[.ref t.2.2.1, t.2.2.2.1]) us ts ∧ Paired (fun p t => t.2.1 = p.1 ∧ H t.2.2.1 = some (.tup (p.1.map kV)) ∧ RelV t.2.2.2.2 t.2.2.2.1 ∧ Rp X.K F t.2.2.2.2 p.2) ps ts
  | _, _, [], _, .nil, .nil, e => by cases (show some [] = some _ from e); exact ⟨[], .nil, .nil⟩
  | _, _, d :: ds, ps, .cons r rs, .cons ru rus, e => by
    rw [pairsD] at e
    cases q1 : pairD d with
    | none => rw [q1] at e; cases e
    | some p =>
      cases q2 : pairsD ds with
      | none => rw [q1, q2] at e; cases e
      | some qs =>
        rw [q1, q2] at e
        cases e
        obtain ⟨ts, t1, t2⟩ := pairs_at I g rs rus q2
        obtain ⟨T, b, w, rfl, hT, hb, rw'⟩ := pairD_at g r q1
        obtain ⟨its, rv, ist, _⟩ := I.tuple (.inl (.inl hT))
        obtain ⟨u1, u2, rfl, ru1, ru2⟩ := vals2 rv
        obtain rfl : u1 = Value.ref b := ru1
        exact ⟨(T, p.1, b, u2, w) :: ts, .cons ⟨ru, ist⟩ t1, .cons ⟨rfl, hb, ru2, rw'⟩ t2⟩
theorem kt_all : ∀ (ts : List (Addr × List L2.Key × Addr × Value × V)) {kvs : List (List L2.Key × V)} {ys : List (List L2.Key × Addr × Value)}, (∀ t ∈ ts, H t.2.2.1 = some (.tup (t.2.1.map kV)) ∧ RelV t.2.2.2.2 t.2.2.2.1) → KT H kvs ys →
    KT H (ts.foldl (fun a t => putK a t.2.1 t.2.2.2.2) kvs) (storedAllH ys (ts.map fun t => (t.2.1, t.2.2.1, t.2.2.2.1)))
  | [], _, _, _, r => r
  | t :: ts, _, _, h, r => kt_all ts (fun u hu => h u (List.mem_cons_of_mem _ hu)) (r.put t.2.1 (h t List.mem_cons_self).1 (h t List.mem_cons_self).2)
theorem gk_all : ∀ {ps : List (List L2.Key × D)} {ts : List (Addr × List L2.Key × Addr × Value × V)} {kvs : List (List L2.Key × V)} {gvs : List (List L2.Key × G)}, Paired (fun p t => t.2.1 = p.1 ∧ H t.2.2.1 = some (.tup (p.1.map kV)) ∧ RelV t.2.2.2.2 t.2.2.2.1 ∧ Rp K F t.2.2.2.2 p.2) ps ts → GKs K F kvs gvs →
    GKs K F (ts.foldl (fun a t => putK a t.2.1 t.2.2.2.2) kvs) (mergeL gvs (ps.map fun p => (p.1, .dat p.2)))
  | _, _, _, _, .nil, r => r
  | p :: ps, t :: ts, kvs, gvs, .cons h t2, r => by
    obtain ⟨e, _, _, rp⟩ := h
    have := gks_put (k := p.1) (x := .dat p.2) (v := t.2.2.2.2) rp r
    rw [← e] at this
    show GKs K F (ts.foldl _ (putK kvs t.2.1 t.2.2.2.2)) (mergeL (putL gvs p.1 (.dat p.2)) _)
    rw [← e]
    exact gk_all t2 this
theorem put_len : ∀ (ts : List (Addr × List L2.Key × Addr × Value × V)) (kvs : List (List L2.Key × V)), (ts.foldl (fun a t => putK a t.2.1 t.2.2.2.2) kvs).length ≤ kvs.length + ts.length
  | [], kvs => Nat.le_refl _
  | t :: ts, kvs => by
    have h1 := put_len ts (putK kvs t.2.1 t.2.2.2.2)
    have h2 := length_putK kvs t.2.1 t.2.2.2.2
    rw [List.length_cons]
    exact Nat.le_trans h1 (by omega)
def rDOf_ : RC := fun gs S P => match gs with
  | [x] => (match lstOf S x with
    | some xs => (match (allDat xs).bind pairsD with
      | some ps => ps.length ≤ 100000 ∧ ∀ p, S p = none → P (.loc p) (sup S p (.dct (mergeL [] (ps.map fun p => (p.1, .dat p.2)))))
      | none => False)
    | none => False)
  | _ => False
theorem pair_mem {α β : Type} {P : α → β → Prop} : ∀ {as : List α} {bs : List β}, Paired P as bs → ∀ b ∈ bs, ∃ a ∈ as, P a b
  | _, _, .nil, b, hb => nomatch hb
  | _, _, .cons h t, b, hb => by
    rcases List.mem_cons.mp hb with rfl | hb
    · exact ⟨_, List.mem_cons_self, h⟩
    · obtain ⟨a, ha, h⟩ := pair_mem t b hb
      exact ⟨a, List.mem_cons_of_mem _ ha, h⟩
theorem crD_of (hr : Room k X.A) (calm : X.calm = true) : CallR X (.type "dict") (cG X.K rDOf_) := by
  rintro pins s σ H vs us Q I r ⟨R, S, F, P, gs, g, hv, h, on⟩
  unfold rDOf_ at h
  split at h
  · rename_i x
    obtain ⟨v, rfl, hx⟩ := gvs1 hv
    split at h
    · rename_i xs e1
      split at h
      · rename_i ps e2
        obtain ⟨ds, e3, e4⟩ := Option.bind_eq_some_iff.mp e2
        obtain ⟨a, ws, rfl, hA, rws⟩ := lst_of g hx e1
        obtain ⟨u, rfl, ru⟩ := vals1 r
        obtain rfl : u = Value.ref a := ru
        have rp : RpAll X.K F ws ds := dat_gvs (allDat_eq e3 ▸ rws)
        obtain ⟨its, rv, isl, _⟩ := I.list (.inl (.inl hA))
        obtain ⟨ts, t1, t2⟩ := pairs_at I g rp rv e4
        have l1 : its.length = ts.length := Paired.length t1
        have l2 : ps.length = ts.length := Paired.length t2
        let Ts : Nat → Addr := fun j => match ts[j]? with
          | some t => t.1
          | none => 0
        let pv : List (Value × Value) := ts.map fun t => (.ref t.2.2.1, t.2.2.2.1)
        let ph : List (List L2.Key × Addr × Value) := ts.map fun t => (t.2.1, t.2.2.1, t.2.2.2.1)
        have items : PairItems s.heap its.toArray Ts pv := by
          refine ⟨by simp [pv, l1], fun j kk vv hj => ?_⟩
          have hj : (ts[j]?).map (fun t => (Value.ref t.2.2.1, t.2.2.2.1)) = some (kk, vv) := by simpa [pv] using hj
          obtain ⟨t, ht, e5⟩ := Option.map_eq_some_iff.mp hj
          cases e5
          have lt : j < its.length := by rw [l1]; exact (List.getElem?_eq_some_iff.mp ht).1
          have eu : its[j]? = some its[j] := List.getElem?_eq_getElem lt
          obtain ⟨t', ht', e6, e7⟩ := paired_get t1 eu
          rw [ht] at ht'
          cases ht'
          have eT : Ts j = t.1 := by simp only [Ts, ht]
          rw [eT]
          exact ⟨by simpa [← e6] using eu, .inl e7⟩
        have stay : ∀ t ∈ ts, H t.2.2.1 = some (.tup (t.2.1.map kV)) ∧ RelV t.2.2.2.2 t.2.2.2.1 := fun t ht => by
          obtain ⟨p, _, e5, e6, e7, _⟩ := pair_mem t2 t ht
          rw [e5]
          exact ⟨e6, e7⟩
        have few : ph.length ≤ sizeLine := by
          simp only [ph, List.length_map]
          rw [← l2]
          exact Nat.le_trans h.1 (by decide)
        refine call_dict_pairsH (knd := tupleKind (mixKind X.prog X.w)) (ps := ph) (PairArg.list a its.toArray Ts pv) (I.ok.hd calm) (by show X.A.units + 2 < cLine; have := hr.un; omega) ⟨isl, items⟩ ⟨by simp [ph, pv], fun j kk vv hj => ?_⟩ (fun h' same y hy => ?_) (by simpa [ph, pv] using few) (fun h' tk dd same => ?_)
        · have hj : (ts[j]?).map (fun t => (Value.ref t.2.2.1, t.2.2.2.1)) = some (kk, vv) := by simpa [pv] using (show pv[j]? = some (kk, vv) from hj)
          obtain ⟨t, ht, e5⟩ := Option.map_eq_some_iff.mp hj
          cases e5
          exact ⟨t.2.1, t.2.2.1, by simp [ph, ht], rfl⟩
        · obtain ⟨t, ht, rfl⟩ := List.mem_map.mp hy
          obtain ⟨ob, its2, n2, e5, e6, e7, e8⟩ := key_of I.hok (stay t ht).1
          exact ⟨ob, its2, n2, same _ ob (Nat.ne_of_lt (Heap.lt_size e5)) (by simp) e5, e6, e7, e8⟩
        · obtain ⟨ob, es, ep, there, exact_, data, list, _, apart⟩ := dd
          have nD : H s.heap.objs.size = none := I.fresh
          have big : sysModules < s.heap.objs.size := I.big
          have hD : s.heap.objs.size ≤ s.heap.objs.size := Nat.le_refl _
          have kt := kt_all ts stay (kvs := []) (ys := []) .nil
          refine ⟨.ref s.heap.objs.size, upd H s.heap.objs.size (.dT (ts.foldl (fun a t => putK a t.2.1 t.2.2.2.2) [])), ?_, rfl, on (.ref s.heap.objs.size) _ F _ (.loc s.heap.objs.size) (g.alloc (u := .dct (mergeL [] (ps.map fun p => (p.1, .dat p.2)))) nD ⟨_, upd_same, gk_all t2 .nil⟩) (Up.refl _) rfl (h.2 s.heap.objs.size (g.fresh nD).2.1)⟩
          have few2 : (ts.foldl (fun a t => putK a t.2.1 t.2.2.2.2) []).length ≤ sizeLine := by
            refine Nat.le_trans (put_len ts []) ?_
            simpa [ph] using few
          refine I.laid (t' := tk) (fun b u e => same b u (by simp) e) hD ⟨few2, beq_eq_false_iff_ne.mpr (Nat.ne_of_gt big), _, kt.keeps fun c ys ec => ?_, ob, es, ep, there, exact_, data, list, apart⟩
          rw [upd_ne (fun z => by rw [z, nD] at ec; cases ec)]
          exact ec
      · exact h.elim
    · exact h.elim
  · exact h.elim
end
end LN

namespace LN
open PySem PySem.Spec PyProof.Rows L2
/-! any value: data, an empty dict, an object of one own class -/
inductive Th where
  | d (x : PyData)
  | obj
def tyOf : PyData → String
  | .none => "NoneType"
  | .bool _ => "bool"
  | .int _ => "int"
  | .str _ => "str"
  | .list _ => "list"
  | .tuple _ => "tuple"
  | .dict _ => "dict"
/-- what is asked of the one own class -/
structure OwnTy (K : PySem.W.Frag) (C : Addr) : Prop where
  cl : Cls K C
  ha : PySem.W.findIn K (.ref C) "__class__" = some (some (.builtin "object.__class__"))
  hn : PySem.W.specialIn K (.builtin "object.__class__") "__get__" = some (some (.builtin "getset_descriptor.__get__"))
  htk : PySem.W.takesIn K (.builtin "object.__class__") = some true
  hm : PySem.W.mroIn K C (.type "object") = some true
  noInt : PySem.W.kitOne K (.ref C) (.type "int") = some false
  noStr : PySem.W.kitOne K (.ref C) (.type "str") = some false
  noTup : PySem.W.kitOne K (.ref C) (.type "tuple") = some false
inductive AnyT (K : PySem.W.Frag) (C : Addr) (H : Hp) : V → Th → Prop where
  | dp {x : V} {d : PyData} (h : Dp K H x d) : AnyT K C H x (.d d)
  | emp {a : Addr} (h : H a = some (.dK [])) : AnyT K C H (.ref a) (.d (.dict []))
  | obj {a dx : Addr} {fs : List (Str × V)} (h : H a = some (.ins C dx fs)) : AnyT K C H (.ref a) .obj
theorem AnyT.same {K : PySem.W.Frag} {C : Addr} {H H' : Hp} {x : V} {t : Th} (h : AnyT K C H x t) (s : Same H H') : AnyT K C H' x t := by
  cases h with
  | dp h => exact .dp (dp_same s h)
  | emp h => exact .emp (s _ _ h)
  | obj h => exact .obj (s _ _ h)
theorem dp_ty {K : PySem.W.Frag} {H : Hp} {x : V} {d : PyData} (h : Dp K H x d) : TyX K H x (.type (tyOf d)) := by
  cases h with
  | non => exact .base .non
  | bl b => exact .base (.bl b)
  | int i => exact .base (.int i)
  | str z => exact .base (.str z)
  | lst q r =>
    rcases q with (q | ⟨o, q⟩) | ⟨o, its, n, q, c, _⟩
    · exact .base (.lst q)
    · exact .base (.frz q)
    · exact .kList q c
  | tup q r =>
    rcases q with (q | ⟨o, q⟩) | ⟨o, its, n, q, c, _⟩
    · exact .base (.tup q)
    · exact .fTuple q
    · exact .kTuple q c
def gInt : Th → Bool
  | .d (.int _) | .d (.bool _) => true
  | _ => false
def gBool : Th → Bool
  | .d (.bool _) => true
  | _ => false
def gStr : Th → Bool
  | .d (.str _) => true
  | _ => false
def gTup : Th → Bool
  | .d (.tuple _) => true
  | _ => false
def rIsK (K : PySem.W.Frag) (C : Addr) (T : String) (g : Th → Bool) : List V → Hp → VK → Prop := fun xs H Q => ∃ (x : V) (t : Th), xs = [x, .ty T] ∧ AnyT K C H x t ∧ Q (.bl (g t)) H
theorem call_isK {X : Cx} {C : Addr} {T : String} {g : Th → Bool} (O : OwnTy X.K C) (hd : ∀ d, kitB (tyOf d) T = some (g (.d d))) (ho : PySem.W.kitOne X.K (.ref C) (.type T) = some (g .obj)) : CallR X (.builtin "isinstance") (rIsK X.K C T g) := by
  intro pins s σ H xs us Q inv rel want
  obtain ⟨x, t, rfl, any, q⟩ := want
  refine call_isi pins s σ H _ us Q inv rel ?_
  cases any with
  | dp h => exact ⟨x, .ty T, _, _, _, rfl, .ty T, dp_ty h, kit_ty (hd _), q⟩
  | emp h => exact ⟨_, .ty T, _, _, _, rfl, .ty T, .base (.dK h), kit_ty (hd (.dict [])), q⟩
  | obj h => exact ⟨_, .ty T, _, _, _, rfl, .ty T, .base (.ins h O.cl O.ha O.hn O.htk O.hm), ho, q⟩
theorem kit_int : kitB "NoneType" "int" = some false ∧ kitB "bool" "int" = some true ∧ kitB "int" "int" = some true ∧ kitB "str" "int" = some false ∧ kitB "list" "int" = some false ∧ kitB "tuple" "int" = some false ∧ kitB "dict" "int" = some false := by decide +kernel
theorem kit_bool : kitB "NoneType" "bool" = some false ∧ kitB "bool" "bool" = some true ∧ kitB "int" "bool" = some false ∧ kitB "str" "bool" = some false ∧ kitB "list" "bool" = some false ∧ kitB "tuple" "bool" = some false ∧ kitB "dict" "bool" = some false := by decide +kernel
theorem kit_str : kitB "NoneType" "str" = some false ∧ kitB "bool" "str" = some false ∧ kitB "int" "str" = some false ∧ kitB "str" "str" = some true ∧ kitB "list" "str" = some false ∧ kitB "tuple" "str" = some false ∧ kitB "dict" "str" = some false := by decide +kernel
theorem kit_tuple : kitB "NoneType" "tuple" = some false ∧ kitB "bool" "tuple" = some false ∧ kitB "int" "tuple" = some false ∧ kitB "str" "tuple" = some false ∧ kitB "list" "tuple" = some false ∧ kitB "tuple" "tuple" = some true ∧ kitB "dict" "tuple" = some false := by decide +kernel
theorem call_isInt {X : Cx} {C : Addr} (O : OwnTy X.K C) : CallR X (.builtin "isinstance") (rIsK X.K C "int" gInt) := call_isK O (fun d => by obtain ⟨h1, h2, h3, h4, h5, h6, h7⟩ := kit_int; cases d <;> assumption) O.noInt
theorem call_isStr {X : Cx} {C : Addr} (O : OwnTy X.K C) : CallR X (.builtin "isinstance") (rIsK X.K C "str" gStr) := call_isK O (fun d => by obtain ⟨h1, h2, h3, h4, h5, h6, h7⟩ := kit_str; cases d <;> assumption) O.noStr
theorem call_isTup {X : Cx} {C : Addr} (O : OwnTy X.K C) : CallR X (.builtin "isinstance") (rIsK X.K C "tuple" gTup) := call_isK O (fun d => by obtain ⟨h1, h2, h3, h4, h5, h6, h7⟩ := kit_tuple; cases d <;> assumption) O.noTup
/-- whether a whole number is a truth: asked of whole numbers and truths alone -/
def rIsB (K : PySem.W.Frag) : List V → Hp → VK → Prop := fun xs H Q => ∃ (x : V) (d : PyData), xs = [x, .ty "bool"] ∧ Dp K H x d ∧ Q (.bl (gBool (.d d))) H
theorem call_isBool {X : Cx} : CallR X (.builtin "isinstance") (rIsB X.K) := by
  intro pins s σ H xs us Q inv rel want
  obtain ⟨x, d, rfl, h, q⟩ := want
  exact call_isi pins s σ H _ us Q inv rel ⟨x, .ty "bool", _, _, _, rfl, .ty "bool", dp_ty h, kit_ty (by obtain ⟨h1, h2, h3, h4, h5, h6, h7⟩ := kit_bool; cases d <;> assumption), q⟩
/-! the seven kinds -/
def signOk (c : Nat) : Bool := decide (97 ≤ c ∧ c ≤ 122)
def kLabel : PyData → Bool
  | .str x => decide (1 ≤ x.length ∧ x.length ≤ 8) && x.cps.toList.all signOk
  | _ => false
def kWhole : Th → Bool
  | .d (.int _) => true
  | _ => false
def tLabel : Th → Bool
  | .d d => kLabel d
  | _ => false
def tName : Th → Bool
  | .d (.tuple ds) => ds.all kLabel
  | _ => false
def tFull : Th → Bool
  | .d (.tuple ds) => ds.all kLabel && !ds.isEmpty
  | _ => false
def tRange (lo hi : Int) : Th → Bool
  | .d (.int i) => decide (lo ≤ i ∧ i ≤ hi)
  | _ => false
/-- data as the law makes it -/
def ShortT (t : Th) : Prop := ∀ y : Str, t = .d (.str y) → y.length ≤ 100
structure Fit (t : Th) : Prop where
  good : ∀ d, t = .d d → d = .dict [] ∨ Good d 5 sizeLine
  short : ShortT t
  parts : ∀ ds, t = .d (.tuple ds) → ds.length ≤ 1000 ∧ ∀ y : Str, PyData.str y ∈ ds → y.length ≤ 100
def spKind (K : PySem.W.Frag) (C : Addr) (p : Th → Prop) (g : Th → Bool) : Sp := fun vs H Q _ => ∃ (x : V) (t : Th), vs = [x] ∧ AnyT K C H x t ∧ p t ∧ ∀ H', Same H H' → Q (.bl (g t)) H'
def spNumber (K : PySem.W.Frag) (C : Addr) : Sp := fun vs H Q _ => ∃ (x : V) (t : Th) (m : Int), vs = [.int m, x] ∧ AnyT K C H x t ∧ ∀ H', Same H H' → Q (.bl (tRange 0 (m - 1) t)) H'
end LN
namespace LN
open PySem PySem.Spec PyProof.Rows L2
theorem sign_lo (c : Nat) : (!decide (([c] : List Nat) < [97])) = decide (97 ≤ c) := by
  by_cases h : c < 97
  · have a : ([c] : List Nat) < [97] := List.Lex.rel h
    rw [decide_eq_true a, decide_eq_false (by omega)]
    rfl
  · have a : ¬ ([c] : List Nat) < [97] := by
      intro z
      cases z with
      | rel z => exact h z
      | cons z => cases z
    rw [decide_eq_false a, decide_eq_true (by omega)]
    rfl
theorem sign_hi (c : Nat) : (!decide (([122] : List Nat) < [c])) = decide (c ≤ 122) := by
  by_cases h : 122 < c
  · have a : ([122] : List Nat) < [c] := List.Lex.rel h
    rw [decide_eq_true a, decide_eq_false (by omega)]
    rfl
  · have a : ¬ ([122] : List Nat) < [c] := by
      intro z
      cases z with
      | rel z => exact h z
      | cons z => cases z
    rw [decide_eq_false a, decide_eq_true (by omega)]
    rfl
theorem sign_both (c : Nat) : (if decide (97 ≤ c) = true then decide (c ≤ 122) else false) = signOk c := by
  unfold signOk
  by_cases h : 97 ≤ c
  · rw [decide_eq_true h, if_pos rfl]
    exact decide_eq_decide.mpr ⟨fun w => ⟨h, w⟩, fun w => w.2⟩
  · rw [decide_eq_false h, if_neg Bool.false_ne_true]
    exact (decide_eq_false fun w => h w.1).symm
theorem alpha_signs (c : Nat) : decide (c ∈ (Str.ofString "abcdefghijklmnopqrstuvwxyz").cps.toList) = signOk c := by
  have e : (Str.ofString "abcdefghijklmnopqrstuvwxyz").cps.toList = (List.range 26).map (· + 97) := by decide +kernel
  rw [e]
  unfold signOk
  refine decide_eq_decide.mpr ?_
  rw [List.mem_map]
  constructor
  · rintro ⟨k, hk, rfl⟩
    have := List.mem_range.mp hk
    omega
  · intro h
    exact ⟨c - 97, List.mem_range.mpr (by omega), by omega⟩
end LN
namespace LN
open PySem PySem.Spec PyProof.Rows L2
/-- a text of the law: at most ten signs -/
def spText : Sp := fun vs H Q _ => ∃ (b bc : Addr), vs = [.ref b] ∧ Bag b bc H ∧ ∀ H' (x : Str), Drew b bc H H' → Lab x → Q (.str x) H'
def pool : Str := "abcdefghijklmnopqrstuvwxyzA_1 -"
theorem pool_at {i : Nat} (h : i < 31) : ∃ c, pool.cps[i]? = some c ∧ c < 0x110000 := by
  have all : ∀ j, j < 31 → ((pool.cps[j]?).elim false fun c => decide (c < 0x110000)) = true := by decide +kernel
  have := all i h
  cases e : pool.cps[i]? with
  | none => rw [e] at this; cases this
  | some c => rw [e] at this; exact ⟨c, rfl, of_decide_eq_true this⟩
theorem join_ok : ∀ ys : List Str, (∀ y ∈ ys, PyData.strOk y = true ∧ y.length ≤ 1) → PyData.strOk (Str.join (Str.ofString "") ys) = true ∧ (Str.join (Str.ofString "") ys).length ≤ ys.length
  | [], _ => ⟨by decide +kernel, Nat.le_refl _⟩
  | [x], h => h x List.mem_cons_self
  | x :: y :: r, h => by
    have ih := join_ok (y :: r) fun z hz => h z (List.mem_cons_of_mem _ hz)
    have hx := h x List.mem_cons_self
    refine ⟨strOk_cat (strOk_cat hx.1 (by decide +kernel)) ih.1, ?_⟩
    show (x ++ Str.ofString "" ++ Str.join (Str.ofString "") (y :: r)).length ≤ _
    rw [strLen_append, strLen_append]
    have e0 : (Str.ofString "").length = 0 := rfl
    have := ih.2
    have := hx.2
    simp only [List.length_cons] at *
    omega
end LN
namespace LN
open PySem PySem.Spec PyProof.Rows L2
def LabT (t : Th) : Prop := ∀ y : Str, t = .d (.str y) → y.length ≤ 100 ∧ PyData.strOk y = true
theorem Fit.lab {t : Th} (f : Fit t) : LabT t := fun y e => by
  refine ⟨f.short y e, ?_⟩
  rcases f.good _ e with w | w
  · cases w
  · exact w.lay
theorem lay_mem {ds : List PyData} (h : PyData.canLayAll0 ds = true) : ∀ d ∈ ds, d.canLay0 = true := by
  induction ds with
  | nil => intro d hd; exact absurd hd List.not_mem_nil
  | cons e r ih =>
    have h' : (e.canLay0 && PyData.canLayAll0 r) = true := h
    rw [Bool.and_eq_true] at h'
    intro d hd
    rcases List.mem_cons.mp hd with rfl | hd
    · exact h'.1
    · exact ih h'.2 d hd
theorem deep_mem {ds : List PyData} {k : Nat} (h : PyData.depthAll ds ≤ k) : ∀ d ∈ ds, d.depth ≤ k := by
  induction ds with
  | nil => intro d hd; exact absurd hd List.not_mem_nil
  | cons e r ih =>
    have h' : max e.depth (PyData.depthAll r) ≤ k := h
    intro d hd
    rcases List.mem_cons.mp hd with rfl | hd
    · exact Nat.le_trans (Nat.le_max_left _ _) h'
    · exact ih (Nat.le_trans (Nat.le_max_right _ _) h') d hd
theorem shaped_list {ds : List PyData} {k : Nat} (h : ∀ d ∈ ds, d.canLay0 = true) (g : ∀ d ∈ ds, d.depth ≤ k) (hk : k ≤ 60) : SeqAt.shaped (.list ds) = true := by
  unfold SeqAt.shaped
  have a : (PyData.list ds).canLay0 = true := all_lay h
  have b : (PyData.list ds).depth ≤ k + 1 := Nat.succ_le_succ (all_deep g)
  rw [a, decide_eq_true (Nat.le_trans b (by omega))]
  rfl
theorem strOk_mem {y : Str} (h : PyData.strOk y = true) {c : Nat} (hc : c ∈ y.cps.toList) : c < 0x110000 :=
  of_decide_eq_true (Array.all_eq_true_iff_forall_mem.mp (show y.cps.all (· < 0x110000) = true from h) c (Array.mem_def.mpr hc))
theorem eqv_empty {xs : List PyData} : PyData.eqv (.list xs) (.list []) = decide (xs = []) := by
  cases xs with
  | nil => rfl
  | cons a b => rfl
def badSigns (y : Str) (i : Nat) : List Nat := (y.cps.toList.take i).filter fun c => !signOk c
theorem badSigns_nil (y : Str) : decide ((badSigns y y.cps.size).map (fun c => PyData.str ⟨#[c]⟩) = []) = y.cps.toList.all signOk := by
  unfold badSigns
  rw [List.take_of_length_le (by rw [Array.length_toList]; exact Nat.le_refl _)]
  cases h : y.cps.toList.all signOk with
  | true =>
    refine decide_eq_true (List.map_eq_nil_iff.mpr (List.filter_eq_nil_iff.mpr fun c hc => ?_))
    rw [List.all_eq_true.mp h c hc]
    decide
  | false =>
    refine decide_eq_false fun z => ?_
    have e := List.filter_eq_nil_iff.mp (List.map_eq_nil_iff.mp z)
    have : y.cps.toList.all signOk = true := List.all_eq_true.mpr fun c hc => by
      have := e c hc
      cases q : signOk c with
      | true => rfl
      | false => rw [q] at this; exact absurd rfl this
    rw [this] at h
    cases h
def badParts (ds : List PyData) (i : Nat) : List PyData := (ds.take i).filter fun d => !kLabel d
theorem badParts_nil (ds : List PyData) : decide (badParts ds ds.length = []) = ds.all kLabel := by
  unfold badParts
  rw [List.take_length]
  cases h : ds.all kLabel with
  | true =>
    refine decide_eq_true (List.filter_eq_nil_iff.mpr fun c hc => ?_)
    rw [List.all_eq_true.mp h c hc]
    decide
  | false =>
    refine decide_eq_false fun z => ?_
    have e := List.filter_eq_nil_iff.mp z
    have : ds.all kLabel = true := List.all_eq_true.mpr fun c hc => by
      have := e c hc
      cases q : kLabel c with
      | true => rfl
      | false => rw [q] at this; exact absurd rfl this
    rw [this] at h
    cases h
theorem filter_snoc {α : Type} (p : α → Bool) (l : List α) (i : Nat) (x : α) (h : l[i]? = some x) : (l.take (i + 1)).filter p = (l.take i).filter p ++ if p x = true then [x] else [] := by
  rw [List.take_add_one, h, List.filter_append]
  congr 1
  by_cases d : p x = true
  · rw [if_pos d]
    show List.filter p [x] = [x]
    rw [List.filter_cons, if_pos d]
    rfl
  · rw [if_neg d]
    show List.filter p [x] = []
    rw [List.filter_cons, if_neg d]
    rfl
def dueL (m : Int) (t : Th) : List Bool := [kWhole t, tLabel t, tName t, tFull t, tRange 0 999 t, tRange (-1000000) 1000000 t, tRange 0 (m - 1) t]
def spDue (K : PySem.W.Frag) (C : Addr) : Sp := fun vs H Q _ => ∃ (x : V) (t : Th) (m : Int), vs = [.int m, x] ∧ AnyT K C H x t ∧ Fit t ∧ ∀ H' p, Same H H' → H' p = some (.lst ((dueL m t).map V.bl)) → Q (.ref p) H'
end LN
namespace LN
open PySem PySem.Spec PyProof.Rows L2
mutual
def no4 : PyData → Bool
  | .list xs => decide (xs.length ≠ 4) && no4s xs
  | .tuple xs => no4s xs
  | _ => true
def no4s : List PyData → Bool
  | [] => true
  | d :: ds => no4 d && no4s ds
end
section
variable {K : PySem.W.Frag} {H H' : Hp} {b bc : Addr}
mutual
theorem dp_drew (bag : Bag b bc H) (s : Drew b bc H H') : ∀ {d : PyData} {v : V}, Dp K H v d → no4 d = true → Dp K H' v d
  | _, _, .non, _ => .non
  | _, _, .bl x, _ => .bl x
  | _, _, .int i, _ => .int i
  | _, _, .str x, _ => .str x
  | _, _, .lst q r, h => by
    rename_i a xs ds
    have h' : (decide (ds.length ≠ 4) && no4s ds) = true := h
    rw [Bool.and_eq_true] at h'
    have n4 : ds.length ≠ 4 := of_decide_eq_true h'.1
    have ne : a ≠ b ∨ ∃ o its n, K.lookup a = some o ∧ o.cls = .type "list" ∧ o.dict = Option.none ∧ o.data = .seq its n ∧ its.size ≤ sizeLine ∧ Vals xs its.toList := by
      rcases q with (q | ⟨o, q⟩) | q
      · refine .inl fun e => ?_
        obtain ⟨x0, x1, x2, ns, _, hb, _⟩ := bag
        rw [e, hb] at q
        cases q
        have := dpa_len r
        exact n4 this.symm
      · refine .inl fun e => ?_
        obtain ⟨x0, x1, x2, ns, _, hb, _⟩ := bag
        rw [e, hb] at q
        cases q
      · exact .inr q
    refine .lst ?_ (dpa_drew bag s r h'.2)
    rcases ne with ne | q2
    · exact drew_seq s ne q
    · exact .inr q2
  | _, _, .tup q r, h => by
    refine .tup ?_ (dpa_drew bag s r h)
    rcases q with (q | ⟨o, q⟩) | q
    · obtain ⟨zs, hb⟩ := bag.lst
      exact .inl (.inl (s.keep _ _ (ne_of q hb (by intro z; cases z)) q))
    · obtain ⟨zs, hb⟩ := bag.lst
      exact .inl (.inr ⟨o, s.keep _ _ (ne_of q hb (by intro z; cases z)) q⟩)
    · exact .inr q
theorem dpa_drew (bag : Bag b bc H) (s : Drew b bc H H') : ∀ {ds : List PyData} {vs : List V}, DpAll K H vs ds → no4s ds = true → DpAll K H' vs ds
  | _, _, .nil, _ => .nil
  | _, _, .cons q r, h => by
    have h' : (no4 _ && no4s _) = true := h
    rw [Bool.and_eq_true] at h'
    exact .cons (dp_drew bag s q h'.1) (dpa_drew bag s r h'.2)
end
end
/-- a value that a law may hand to anything -/
structure Some_ (K : PySem.W.Frag) (C : Addr) (H : Hp) (x : V) (d : PyData) : Prop where
  any : AnyT K C H x (.d d)
  fit : Fit (.d d)
  four : no4 d = true
theorem Some_.same {K : PySem.W.Frag} {C : Addr} {H H' : Hp} {x : V} {d : PyData} (h : Some_ K C H x d) (s : Same H H') : Some_ K C H' x d := ⟨h.any.same s, h.fit, h.four⟩
theorem Some_.drew {K : PySem.W.Frag} {C b bc : Addr} {H H' : Hp} {x : V} {d : PyData} (h : Some_ K C H x d) (bag : Bag b bc H) (s : Drew b bc H H') : Some_ K C H' x d := by
  refine ⟨?_, h.fit, h.four⟩
  cases h.any with
  | dp q => exact .dp (dp_drew bag s q h.four)
  | emp q =>
    obtain ⟨zs, hb⟩ := bag.lst
    exact .emp (s.keep _ _ (ne_of q hb (by intro z; cases z)) q)
theorem fit_of {d : PyData} (g : Good d 5 sizeLine) (s : ∀ y : Str, d = .str y → y.length ≤ 100) (p : ∀ ds, d = .tuple ds → ds.length ≤ 1000 ∧ ∀ y : Str, PyData.str y ∈ ds → y.length ≤ 100) : Fit (.d d) :=
  ⟨fun e h => by cases h; exact .inr g, fun y h => by cases h; exact s y rfl, fun ds h => by cases h; exact p ds rfl⟩
theorem fit_emp : Fit (.d (.dict [])) := ⟨(fun e h => by cases h; exact .inl rfl), (fun y h => by cases h), (fun ds h => by cases h)⟩
theorem Good.any_int {i : Int} (h : i.natAbs.log2 < 1920) : Good (.int i) 0 sizeLine := ⟨rfl, decide_eq_true h, Nat.le_refl _, int_text_fits h⟩
theorem some_int {K : PySem.W.Frag} {C : Addr} {H : Hp} {i : Int} (h : i.natAbs.log2 < 1920) : Some_ K C H (.int i) (.int i) :=
  ⟨.dp (.int i), fit_of ((Good.any_int h).mono (by decide) (Nat.le_refl _)) (fun y e => by cases e) (fun ds e => by cases e), rfl⟩
theorem Good.lab {x : Str} (h : Lab x) : Good (.str x) 0 202 := Good.str h.ok h.few
theorem some_str {K : PySem.W.Frag} {C : Addr} {H : Hp} {x : Str} (h : Lab x) : Some_ K C H (.str x) (.str x) :=
  ⟨.dp (.str x), fit_of ((Good.lab h).mono (by decide) (by decide)) (fun y e => by cases e; have := h.few; omega) (fun ds e => by cases e), rfl⟩
theorem some_flat {K : PySem.W.Frag} {C : Addr} {H : Hp} {x : V} {d : PyData} (h : Dp K H x d) (g : Good d 5 sizeLine) (f : no4 d = true) (s : ∀ y : Str, d ≠ .str y) (p : ∀ ds, d ≠ .tuple ds) : Some_ K C H x d :=
  ⟨.dp h, fit_of g (fun y e => absurd e (s y)) (fun ds e => absurd e (p ds)), f⟩
theorem some_tup {K : PySem.W.Frag} {C : Addr} {H : Hp} {a : Addr} {xs : List V} {ds : List PyData} (q : SqT K H a xs) (r : DpAll K H xs ds) (g : ∀ d ∈ ds, Good d 3 2100) (l : ds.length ≤ 200) (f : no4s ds = true) (s : ∀ y : Str, PyData.str y ∈ ds → y.length ≤ 100) : Some_ K C H (.ref a) (.tuple ds) :=
  ⟨.dp (.tup q r), fit_of ((Good.tuple g l).mono (by decide) (by decide)) (fun y e => by cases e) (fun es e => by cases e; exact ⟨by omega, s⟩), f⟩
theorem good_str {l : List Str} (h : Labs l) : ∀ d ∈ l.map PyData.str, Good d 3 2100 := fun d hd => by
  obtain ⟨x, hx, rfl⟩ := List.mem_map.mp hd
  exact (Good.lab (h x hx)).mono (by decide) (by decide)
theorem no4_strs : ∀ l : List Str, no4s (l.map PyData.str) = true
  | [] => rfl
  | x :: l => no4_strs l
theorem few_strs {l : List Str} (h : Labs l) : ∀ y : Str, PyData.str y ∈ l.map PyData.str → y.length ≤ 100 := fun y hy => by
  obtain ⟨x, hx, e⟩ := List.mem_map.mp hy
  have e' := PyData.str.inj e
  have := (h x hx).few
  rw [← e']
  omega
def spThing (K : PySem.W.Frag) (C : Addr) : Sp := fun vs H Q _ => ∃ (b bc : Addr), vs = [.ref b] ∧ Bag b bc H ∧ ∀ H' x d, Drew b bc H H' → Some_ K C H' x d → Q x H'
end LN
namespace LN
open PySem PySem.Spec PyProof.Rows L2
theorem no4_snoc : ∀ ws : List Str, no4s (ws.map PyData.str ++ [.int 3]) = true
  | [] => rfl
  | x :: l => no4_snoc l
end LN
namespace LN
open PySem PySem.Spec PyProof.Rows L2
def spValues : Sp := fun vs H Q _ => ∃ (a : Addr), vs = [.ref a] ∧ H a = some (.dK []) ∧ ∀ H', Same H H' → Q (.bl true) H'
def spZone0 (C : Addr) : Sp := fun vs H Q _ => ∃ (p dx a : Addr), vs = [.ref p, .ref a] ∧ H p = some (.ins C dx []) ∧ H a = some (.dK []) ∧ ∀ H' fs, H' p = some (.ins C dx fs) → (∀ b o, H b = some o → b ≠ p → H' b = some o) → Q .non H'
def tNeverE : TE := fun _ _ _ => False
theorem pe_never {X : Cx} {e : Expr} : PE X e tNeverE := ⟨fun _ _ _ _ _ _ h => h.elim⟩
theorem fit_obj : Fit .obj := ⟨(fun e h => by cases h), (fun y h => by cases h), (fun ds h => by cases h)⟩
section
variable {X : Cx}
theorem cr_reprA {C : Addr} (quiet : Quiet X.A) (hu : X.A.units + 70 < cLine) : CallR X (.builtin "repr") (fun xs H Q => ∃ x d, xs = [x] ∧ AnyT X.K C H x (.d d) ∧ Fit (.d d) ∧ Q (.str d.shown) H) := by
  intro pins s σ H xs us Q inv rel want
  obtain ⟨x, d, rfl, any, fit, q⟩ := want
  cases any with
  | dp h =>
    have g : Good d 5 sizeLine := (fit.good _ rfl).elim (fun w => by rw [w] at h; cases h) id
    exact cr_repr quiet hu pins s σ H _ us Q inv rel ⟨x, d, rfl, h, g.shows, g.noDict, Nat.le_trans g.deep (by decide), g.len, q⟩
  | emp h =>
    rename_i a
    obtain ⟨u, rfl, ru⟩ := vals1 rel
    obtain rfl : u = Value.ref a := ru
    obtain ⟨_, off, vs, kv, o, es, ep, ho, ex, hd, _, prs, _⟩ := dk_of inv.hok h
    cases kv
    have len := prs.length
    have nil : es.toList = [] := List.length_eq_zero_iff.mp len
    have rd : Reads s.heap (.ref a) (.dict []) (a :: [] ++ []) := .dict ho ex.1 hd (by rw [nil]; exact .nil) (by rw [nil]; exact .nil)
    refine repr_of_reads' rd rfl (fun _ m => ?_) quiet (by show X.A.units + (1 + 1) < cLine; omega) (fun _ _ e => e) ?_ (by decide +kernel)
    · have := beq_eq_false_iff_ne.mp off
      simp only [List.append_nil, List.mem_singleton] at m
      exact this m.symm
    intro h' u tk hk
    exact ⟨.str (PyData.dict []).shown, H, inv.un (t' := tk) (Un.kept hk) (inv.hok.kept hk), ⟨u, rfl⟩, q⟩
end
end LN

/-! sets of tuples whose items are keys of any one kind (texts) -/
namespace LN
open PySem PySem.Spec PyProof.Rows L2
/-- the items tell at once what a set's search asks of them -/
structure Tells {P : Program} {w : World} {κ : Type} [DecidableEq κ] (kd : PySem.KeyKind P w κ) : Prop where
  cls : ∀ (k : κ) (v : Value) (n : Nat), kd.is k v = true → ofAClassStatement n v = pure false
  val : ∀ (k : κ) (v : Value) (n : Nat), kd.is k v = true → ∃ b, hashByValue n v = pure b
theorem strs_tell (P : Program) (w : World) : Tells (PySem.strKind P w) := by
  constructor
  · intro k v n h
    obtain ⟨t, rfl⟩ := Value.isStrOf_shape (show Value.isStrOf k v = true from h)
    cases n <;> rfl
  · intro k v n h
    obtain ⟨t, rfl⟩ := Value.isStrOf_shape (show Value.isStrOf k v = true from h)
    refine ⟨false, ?_⟩
    cases n <;> rfl
section
variable {P : Program} {w : World} {κ : Type} [DecidableEq κ] {kd : PySem.KeyKind P w κ} {A : Around} {E : Value → Shared → Prop} {s : Shared}
theorem items_all {k : List κ} {vs : List Value} {φ : Value → Prop} (tell : ∀ x v, kd.is x v = true → φ v) (its : PySem.ItemsAre kd k vs) : ∀ v ∈ vs, φ v := by
  induction its with
  | nil => exact fun v hv => absurd hv List.not_mem_nil
  | @cons x u ks us h1 _ ih => exact fun v hv => (List.mem_cons.mp hv).elim (fun e => e ▸ tell x u h1) (ih v)
theorem cls_of (T : Tells kd) {k : List κ} {b : Addr} {Q : Bool → Shared → Prop} (hk : PySem.IsTupleKey kd s.heap k b) (h : Q false s) : wpAny (model P w) A (ofAClassStatement 8 (.ref b)) Q E s := by
  have isT := hk.typeIs
  obtain ⟨o, items, n, ho, _, hd, its⟩ := hk
  have quietly : ∀ v ∈ items.toList, ofAClassStatement 7 v = pure false := items_all (fun x v hx => T.cls x v 7 hx) its
  unfold ofAClassStatement
  refine wpAny_bind (wpAny_typeOf isT ?_)
  dsimp only
  have yes : (("tuple" : String) == "tuple") = true := by decide
  simp only [yes, if_true, Bool.not_true, Bool.false_eq_true, if_false]
  try refine wpAny_bind (wpAny_pure ?_)
  try simp only [Bool.not_true, Bool.false_eq_true, if_false]
  show wpAny _ _ (seqItems? (.ref b) >>= _) _ _ s
  refine wpAny_bind (wpAny_seqItems ho hd ?_)
  dsimp only
  refine wpAny_bind ?_
  show wpAny _ _ (forIn items _ _) _ _ s
  rw [← Array.forIn_toList]
  apply wpAny_forIn_list _ (fun rest r s' => r.1 = none ∧ s' = s ∧ ∀ v ∈ rest, ofAClassStatement 7 v = pure false) _ _ _ _ _ ⟨rfl, rfl, quietly⟩
  · rintro v rest r s' ⟨e1, rfl, all⟩
    rw [all v List.mem_cons_self]
    refine wpAny_bind (wpAny_pure ?_)
    simp only [Bool.false_eq_true, if_false]
    exact wpAny_pure ⟨rfl, rfl, fun u hu => all u (List.mem_cons_of_mem _ hu)⟩
  · rintro ⟨r1, r2⟩ s' ⟨e1, rfl, _⟩
    obtain rfl : r1 = none := e1
    exact wpAny_pure h
theorem val_of (T : Tells kd) {k : List κ} {b : Addr} {Q : Bool → Shared → Prop} (hk : PySem.IsTupleKey kd s.heap k b) (h : ∀ c, Q c s) : wpAny (model P w) A (hashByValue 8 (.ref b)) Q E s := by
  have isT := hk.typeIs
  obtain ⟨o, items, n, ho, _, hd, its⟩ := hk
  have known : ∀ v ∈ items.toList, ∃ c, hashByValue 7 v = pure c := items_all (fun x v hx => T.val x v 7 hx) its
  unfold hashByValue
  refine wpAny_bind (wpAny_specialOf isT F.slot_tuple_hash.lookup ?_)
  show wpAny _ _ (seqItems? (.ref b) >>= _) _ _ s
  refine wpAny_bind (wpAny_seqItems ho hd ?_)
  refine wpAny_bind ?_
  show wpAny _ _ (forIn items _ _) _ _ s
  rw [← Array.forIn_toList]
  apply wpAny_forIn_list _ (fun rest r s' => r.1 = none ∧ s' = s ∧ ∀ v ∈ rest, ∃ c, hashByValue 7 v = pure c) _ _ _ _ _ ⟨rfl, rfl, known⟩
  · rintro v rest r s' ⟨e1, rfl, all⟩
    obtain ⟨c, ec⟩ := all v List.mem_cons_self
    rw [ec]
    refine wpAny_bind (wpAny_pure ?_)
    cases c with
    | true =>
      simp only [Bool.not_true, Bool.false_eq_true, if_false]
      exact wpAny_pure ⟨rfl, rfl, fun u hu => all u (List.mem_cons_of_mem _ hu)⟩
    | false =>
      simp only [Bool.not_false, if_true]
      exact wpAny_pure (wpAny_pure (h false))
  · rintro ⟨r1, r2⟩ s' ⟨e1, rfl, _⟩
    obtain rfl : r1 = none := e1
    exact wpAny_pure (h true)
/-- nothing of the table is seen by a search among such tuples -/
theorem unseen (T : Tells kd) {k : List κ} {b : Addr} {Q : Bool → Shared → Prop} (hk : PySem.IsTupleKey kd s.heap k b) {ys : List Value} (hy : ∀ y ∈ ys, ∃ l c, y = Value.ref c ∧ PySem.IsTupleKey kd s.heap l c) (h : Q false s) :
    wpAny (model P w) A (searchCouldBeSeen (.ref b) ys) Q E s := by
  unfold searchCouldBeSeen
  refine wpAny_bind ?_
  apply wpAny_forIn_list _ (fun rest r s' => r.1 = none ∧ s' = s ∧ ∀ y ∈ rest, ∃ l c, y = Value.ref c ∧ PySem.IsTupleKey kd s.heap l c) _ _ _ _ _ ⟨rfl, rfl, hy⟩
  · rintro v rest r s' ⟨e1, rfl, all⟩
    obtain ⟨l, c, rfl, hc⟩ := all v List.mem_cons_self
    have on : ∀ y ∈ rest, ∃ l c, y = Value.ref c ∧ PySem.IsTupleKey kd s'.heap l c := fun u hu => all u (List.mem_cons_of_mem _ hu)
    dsimp only
    cases same : (b == c || (carriedByValue (.ref b) && carriedByValue (.ref c))) with
    | true =>
      simp only [if_true]
      exact wpAny_pure ⟨rfl, rfl, on⟩
    | false =>
      simp only [Bool.false_eq_true, if_false]
      refine wpAny_bind (wpAny_eqIsQuiet_tuple hk ?_)
      simp only [Bool.not_true, Bool.false_eq_true, if_false]
      refine wpAny_bind (wpAny_eqIsQuiet_tuple hc ?_)
      simp only [Bool.not_true, Bool.false_eq_true, if_false]
      refine wpAny_bind (cls_of T hk ?_)
      simp only [Bool.false_eq_true, if_false]
      refine wpAny_bind (cls_of T hc ?_)
      simp only [Bool.false_eq_true, if_false]
      exact wpAny_pure ⟨rfl, rfl, on⟩
  · rintro ⟨r1, r2⟩ s' ⟨e1, rfl, _⟩
    obtain rfl : r1 = none := e1
    exact wpAny_pure h
end
/-! the set: its tuples in the order of the table -/
section
variable {P : Program} {w : World} {κ : Type} [DecidableEq κ]
abbrev hsh (kd : PySem.KeyKind P w κ) (p : Addr × List κ) : Int := PySem.tupleKeyHash kd p.2
structure TSet (kd : PySem.KeyKind P w κ) (h : Heap) (a : Addr) (L : List (Addr × List κ)) (es : Array (Int × Value)) (ep : Nat) (t : SetTable) : Prop where
  there : ∃ o, h.get? a = some o ∧ o.ExactSet ∧ o.data = .set es ep t
  rows : es.toList = L.map fun p => (hsh kd p, Value.ref p.1)
  table : TabOk t (L.map (hsh kd))
  once : (L.map (·.2)).Nodup
  keys : ∀ p ∈ L, PySem.IsTupleKey kd h p.2 p.1
  loose : L.length * 5 < t.mask * 3
  few : L.length < 64
  led : w.params.followText "set-order" = true ∨ t.led = true
variable {kd : PySem.KeyKind P w κ} {h : Heap} {a : Addr} {L : List (Addr × List κ)} {es : Array (Int × Value)} {ep : Nat} {t : SetTable}
theorem TSet.size (T : TSet kd h a L es ep t) : es.size = L.length := by
  rw [← Array.length_toList, T.rows, List.length_map]
theorem TSet.places (T : TSet kd h a L es ep t) : t.place.size = L.length := by
  have := T.table.sz
  rw [List.length_map] at this
  exact this
theorem TSet.fits (T : TSet kd h a L es ep t) : t.fits es.size = true := by
  have e1 := T.places
  have e2 := T.size
  have e3 := T.loose
  simp only [SetTable.fits, SetTable.fill, T.table.dm, Bool.and_eq_true, beq_iff_eq, decide_eq_true_eq]
  show t.place.size = es.size ∧ t.place.size + 0 ≤ t.mask
  omega
theorem TSet.at_ (T : TSet kd h a L es ep t) {i : Nat} {p : Addr × List κ} (e : L[i]? = some p) : es[i]? = some (hsh kd p, Value.ref p.1) := by
  rw [← Array.getElem?_toList, T.rows, List.getElem?_map, e]
  rfl
theorem TSet.stays (T : TSet kd h a L es ep t) : (¬ t.gaveWay = true) := by
  have odd := mask_odd T.table.mok
  simp only [SetTable.gaveWay, odd]
  decide
/-- no dummy is met on the way -/
theorem no_dummy (m : Nat) : ∀ (n : Nat) (p : SetTable.Probe), p.dummy = none → (L2.nth m p n).dummy = none
  | 0, _, e => e
  | n + 1, p, e => no_dummy m n (adv m p) (by unfold adv; split <;> exact e)
/-- the c-th step of the way of a hash -/
abbrev trail (t : SetTable) (h : Int) (c : Nat) : SetTable.Probe := L2.nth t.mask (runAt t.mask (SetTable.bits h % (t.mask + 1)) (SetTable.bits h)) c
theorem trail_on (t : SetTable) (h : Int) (c q : Nat) : L2.nth t.mask (trail t h c) q = trail t h (c + q) := (nth_add t.mask c _ q).symm
variable {A : Around} {E : Value → Shared → Prop} {s : Shared}
/-- where the key k, if it is there, is still to be met from the c-th step on -/
def Ahead (kd : PySem.KeyKind P w κ) (t : SetTable) (L : List (Addr × List κ)) (k : List κ) (K c : Nat) : Prop :=
  ∀ (i : Nat) (p : Addr × List κ), L[i]? = some p → p.2 = k → ∃ c', c ≤ c' ∧ c' < K ∧ t.place.toList[i]? = some (way t.mask (PySem.tupleKeyHash kd k) c')
theorem search_on (tells : Tells kd) (T : TSet kd s.heap a L es ep t) {x : Addr} {k : List κ} (hx : PySem.IsTupleKey kd s.heap k x) (room : A.units < cLine) {K : Nat} (short : K < 10 * SetTable.turns t.mask)
    (gap : way t.mask (PySem.tupleKeyHash kd k) K ∉ t.place.toList) (full : ∀ c, c < K → way t.mask (PySem.tupleKeyHash kd k) c ∈ t.place.toList) {Q : SetFound → Shared → Prop}
    (found : k ∈ L.map (·.2) → Q (.there none) s) (new : k ∉ L.map (·.2) → Q (.free (way t.mask (PySem.tupleKeyHash kd k) K) false) s) :
    ∀ (f c : Nat) (from_ : Option SetTable.Probe), from_.getD (t.probeStart (PySem.tupleKeyHash kd k)) = trail t (PySem.tupleKeyHash kd k) c → c ≤ K → K - c < f → Ahead kd t L k K c →
      wpAny (model P w) A (setSearchFrom a (.ref x) (PySem.tupleKeyHash kd k) true f from_) Q E s := by
  intro f
  induction f with
  | zero => exact fun c _ _ _ lt _ => absurd lt (Nat.not_lt_zero _)
  | succ f again =>
    intro c from_ at_ le lt ahead
    obtain ⟨o, ho, exact_, data⟩ := T.there
    rw [setSearchFrom_succ]
    apply wpAny_bind
    apply wpAny_setState_of ho data T.fits
    dsimp only
    refine wp_if_neg T.stays ?_
    try refine wpAny_bind (wpAny_pure ?_)
    generalize hh : PySem.tupleKeyHash kd k = hk at *
    have step : ∀ q, (L2.nth t.mask (trail t hk c) q).j = way t.mask hk (c + q) := fun q => congrArg SetTable.Probe.j (trail_on t hk c q)
    have reachK : c + (K - c) = K := by omega
    have hashes : ∀ (i : Nat) (p : Addr × List κ), L[i]? = some p → (fun i => (es[i]?.map (·.1)).getD 0) i = hsh kd p := by
      intro i p e
      show (es[i]?.map (·.1)).getD 0 = _
      rw [T.at_ e]
      rfl
    have met := go_spec t T.table.ris T.table.dm (fun i => (es[i]?.map (·.1)).getD 0) hk (10 * SetTable.turns t.mask) (K - c) (trail t hk c) (no_dummy _ _ _ rfl) (by omega)
      (fun q lt' => by rw [step]; exact full (c + q) (by omega)) (by rw [step, reachK]; exact gap)
    rcases met with ⟨q, i, qlt, place, same, before, probe⟩ | ⟨before, probe⟩
    · have cand : t.probe (fun i => (es[i]?.map (·.1)).getD 0) hk (from_.getD (t.probeStart hk)) = some (.candidate (way t.mask hk (c + q)) i (trail t hk (c + (q + 1)))) := by
        rw [at_, ← step, ← trail_on]
        exact probe
      rw [cand]
      dsimp only
      rw [step] at place
      have il : i < L.length := by
        have := (List.getElem?_eq_some_iff.mp place).1
        rw [Array.length_toList, T.places] at this
        exact this
      obtain ⟨p, hp⟩ : ∃ p, L[i]? = some p := ⟨_, List.getElem?_eq_getElem il⟩
      have pin : p ∈ L := List.mem_of_getElem? hp
      have live : t.slot (way t.mask hk (c + q)) = .live i := slot_live T.table.ris place
      have rest : wpAny (model P w) A (searchRest a (.ref x) hk true f es t (way t.mask hk (c + q)) i (trail t hk (c + (q + 1)))) Q E s := by
        unfold searchRest
        rw [T.at_ hp]
        dsimp only
        refine wpAny_bind (wpAny_holding (wpAny_eqBool_tuple room (T.keys p pin) hx ?_))
        apply wpAny_bind
        apply wpAny_setState_of ho data T.fits
        dsimp only
        by_cases eq : p.2 = k
        · refine wp_if_pos (by simp [eq]) (wpAny_pure (found (List.mem_map.mpr ⟨p, pin, eq⟩)))
        · refine wp_if_neg (by simp [eq]) ?_
          try refine wpAny_bind (wpAny_pure ?_)
          rw [sameMem]
          dsimp only
          simp only [if_true, live, T.at_ hp]
          refine wpAny_bind (wpAny_isSame_ref_self (wpAny_bind (wpAny_pure ?_)))
          simp only [if_true]
          refine wp_if_neg (by simp [eq]) ?_
          refine again (c + (q + 1)) _ rfl (by omega) (by omega) ?_
          intro j p' hj e'
          obtain ⟨c', l1, l2, l3⟩ := ahead j p' hj e'
          rw [hh] at l3 ⊢
          refine ⟨c', ?_, l2, l3⟩
          have notBefore : ¬ c' < c + q := fun z => by
            refine before (c' - c) j (by omega) ?_ ?_
            · rw [step, show c + (c' - c) = c' by omega]
              exact l3
            · exact (hashes j p' hj).trans ((congrArg (PySem.tupleKeyHash kd) e').trans hh)
          have notHere : c' ≠ c + q := fun z => by
            rw [z] at l3
            have two := slot_live T.table.ris l3
            rw [live] at two
            injection two with two
            rw [← two, hp] at hj
            cases hj
            exact eq e'
          omega
      cases led : t.led with
      | true =>
        refine wp_if_neg (by simp) ?_
        try refine wpAny_bind (wpAny_pure ?_)
        exact rest
      | false =>
        refine wp_if_pos (by simp) ?_
        refine wpAny_bind (unseen tells hx (fun y hy => ?_) ?_)
        · obtain ⟨z, hz, rfl⟩ := List.mem_map.mp hy
          have inside : z ∈ es.toList := by
            have : z ∈ es ∧ z.1 = hk := by simpa using hz
            simpa using this.1
          rw [T.rows] at inside
          obtain ⟨p2, in2, rfl⟩ := List.mem_map.mp inside
          exact ⟨p2.2, p2.1, rfl, T.keys p2 in2⟩
        · refine wp_if_neg (by decide) ?_
          try refine wpAny_bind (wpAny_pure ?_)
          exact rest
    · have gone : t.probe (fun i => (es[i]?.map (·.1)).getD 0) hk (from_.getD (t.probeStart hk)) = some (.empty (way t.mask hk K) none) := by
        rw [at_, show way t.mask hk K = (L2.nth t.mask (trail t hk c) (K - c)).j by rw [step, reachK]]
        exact probe
      rw [gone]
      dsimp only
      apply wpAny_pure
      apply new
      intro inside
      obtain ⟨p0, in0, e0⟩ := List.mem_map.mp inside
      obtain ⟨i0, hi0⟩ := List.getElem?_of_mem in0
      obtain ⟨c', l1, l2, l3⟩ := ahead i0 p0 hi0 e0
      rw [hh] at l3
      refine before (c' - c) i0 (by omega) ?_ ?_
      · rw [step, show c + (c' - c) = c' by omega]
        exact l3
      · exact (hashes i0 p0 hi0).trans ((congrArg (PySem.tupleKeyHash kd) e0).trans hh)
/-- the search of a set that is to get a tuple -/
theorem search_for (tells : Tells kd) (T : TSet kd s.heap a L es ep t) {x : Addr} {k : List κ} (hx : PySem.IsTupleKey kd s.heap k x) (room : A.units < cLine) {Q : SetFound → Shared → Prop}
    (found : k ∈ L.map (·.2) → Q (.there none) s)
    (new : ∀ K, k ∉ L.map (·.2) → way t.mask (PySem.tupleKeyHash kd k) K ∉ t.place.toList → (∀ c, c < K → way t.mask (PySem.tupleKeyHash kd k) c ∈ t.place.toList) → Q (.free (way t.mask (PySem.tupleKeyHash kd k) K) false) s) :
    wpAny (model P w) A (setSearch a (.ref x) (PySem.tupleKeyHash kd k) true) Q E s := by
  have loose := T.loose
  have few : (L.map (hsh kd)).length ≤ t.mask := by
    rw [List.length_map]
    omega
  obtain ⟨K, short, gap, full⟩ := T.table.first few (PySem.tupleKeyHash kd k)
  have turns : 10 * SetTable.turns t.mask ≤ 1420 := by
    unfold SetTable.turns
    rcases T.table.mok with e | e | e <;> omega
  unfold setSearch
  refine search_on tells T hx room short gap full found (fun no => new K no gap full) 100000 0 none rfl (Nat.zero_le _) (by omega) ?_
  intro i p hp e
  have hi : (L.map (hsh kd))[i]? = some (PySem.tupleKeyHash kd k) := by
    rw [List.getElem?_map, hp, ← e]
    rfl
  have il : i < t.place.toList.length := by
    rw [Array.length_toList, T.places]
    exact (List.getElem?_eq_some_iff.mp hp).1
  have hj := List.getElem?_eq_getElem il
  obtain ⟨c, lt, eq⟩ := T.table.before gap hi hj
  exact ⟨c, Nat.zero_le _, lt, by rw [hj, eq]⟩
theorem key_same {h h' : Heap} {k : List κ} {a b : Addr} {o : Obj} {es : Array (Int × Value)} {ep : Nat} {t : SetTable} (hb : PySem.IsTupleKey kd h k b) (ho : h.get? a = some o) (hd : o.data = .set es ep t) (same : Heap.SameBut a h h') : PySem.IsTupleKey kd h' k b := by
  obtain ⟨u, items, n, hu, c, d, its⟩ := hb
  refine ⟨u, items, n, (same.2 b fun z => ?_).trans hu, c, d, its⟩
  rw [z, ho] at hu
  cases hu
  rw [hd] at d
  cases d
theorem rows_in (L : List (Addr × List κ)) (n : Nat) (p : Addr × List κ) : (L.take n ++ p :: L.drop n).map (fun p => (hsh kd p, Value.ref p.1)) = (L.map fun p => (hsh kd p, Value.ref p.1)).take n ++ (hsh kd p, Value.ref p.1) :: (L.map fun p => (hsh kd p, Value.ref p.1)).drop n := by
  rw [List.map_append, List.map_cons, List.map_take, List.map_drop]
/-- the rows put in another order -/
theorem rows_order (L : List (Addr × List κ)) (es : Array (Int × Value)) (order : Array Nat) (rows : es.toList = L.map fun p => (hsh kd p, Value.ref p.1)) (perm : order.toList.Perm (List.range L.length)) :
    ∃ M : List (Addr × List κ), (order.filterMap (es[·]?)).toList = M.map (fun p => (hsh kd p, Value.ref p.1)) ∧ M.Perm L ∧ M.map (hsh kd) = order.toList.map fun i => (es.map (·.1)).getD i 0 := by
  have all : ∀ l : List Nat, (∀ i ∈ l, i < L.length) → l.filterMap (fun i => es[i]?) = (l.filterMap fun i => L[i]?).map (fun p => (hsh kd p, Value.ref p.1)) ∧ (l.filterMap fun i => L[i]?).map (hsh kd) = l.map fun i => (es.map (·.1)).getD i 0 := by
    intro l
    induction l with
    | nil => exact fun _ => ⟨rfl, rfl⟩
    | cons i l ih =>
      intro lt
      obtain ⟨e1, e2⟩ := ih fun j hj => lt j (List.mem_cons_of_mem _ hj)
      have il : i < L.length := lt i List.mem_cons_self
      have at_ : L[i]? = some L[i] := List.getElem?_eq_getElem il
      have row : es[i]? = some (hsh kd L[i], Value.ref (L[i]).1) := by
        rw [← Array.getElem?_toList, rows, List.getElem?_map, at_]
        rfl
      have first : (es.map (·.1)).getD i 0 = hsh kd L[i] := by
        rw [Array.getD_eq_getD_getElem?, Array.getElem?_map, row]
        rfl
      rw [List.filterMap_cons_some row, List.filterMap_cons_some at_, List.map_cons, List.map_cons, List.map_cons, e1, e2, first]
      exact ⟨rfl, rfl⟩
  obtain ⟨e1, e2⟩ := all order.toList fun i hi => List.mem_range.mp (perm.mem_iff.mp hi)
  refine ⟨order.toList.filterMap fun i => L[i]?, by rw [Array.toList_filterMap]; exact e1, ?_, e2⟩
  have whole : ∀ n, n ≤ L.length → (List.range n).filterMap (fun i => L[i]?) = L.take n := by
    intro n
    induction n with
    | zero => exact fun _ => rfl
    | succ n ih =>
      intro lt
      have at_ : L[n]? = some (L[n]'lt) := List.getElem?_eq_getElem lt
      rw [List.range_succ, List.filterMap_append, ih (Nat.le_of_lt lt), List.take_succ, at_, List.filterMap_cons_some at_]
      rfl
  have perm2 := perm.filterMap fun i => L[i]?
  rw [whole L.length (Nat.le_refl _), List.take_length] at perm2
  exact perm2
theorem relaid (T : PySem.Heap) : True := trivial
/-- the table is laid anew -/
theorem relay_on {o : Obj} (ho : s.heap.get? a = some o) (ex : o.ExactSet) (hd : o.data = .set es ep t) (rows : es.toList = L.map fun p => (hsh kd p, Value.ref p.1)) (places : t.place.size = L.length) (clean : t.dummies = #[]) (fit : L.length ≤ t.mask)
    (once : (L.map (·.2)).Nodup) (keys : ∀ p ∈ L, PySem.IsTupleKey kd s.heap p.2 p.1) (few : L.length < 64) {wanted M : Nat} (is : SetTable.sizeAbove wanted - 1 = M) (ok : MaskOk M) (most : SetTable.sizeAbove wanted ≤ 128) (loose : L.length * 5 < M * 3) (ld : w.params.followText "set-order" = true ∨ t.led = true) {Q : Unit → Shared → Prop}
    (go : ∀ h' L' es' ep' t', Heap.SameBut a s.heap h' → TSet kd h' a L' es' ep' t' → L'.Perm L → Q () { s with heap := h' }) : wpAny (model P w) A (setRelay a wanted) Q E s := by
  have size : es.size = L.length := by rw [← Array.length_toList, rows, List.length_map]
  have fits : t.fits es.size = true := by
    simp only [SetTable.fits, SetTable.fill, clean, Bool.and_eq_true, beq_iff_eq, decide_eq_true_eq]
    show t.place.size = es.size ∧ t.place.size + 0 ≤ t.mask
    omega
  obtain ⟨t', order, laid, perm, table, mask, eled, _, _⟩ := relaid_ok t (hs := es.map (·.1)) (wanted := wanted) is ok (by rw [Array.size_map, size]; omega)
  rw [Array.size_map, size] at perm
  obtain ⟨N, r1, r2, r3⟩ := rows_order L es order rows perm
  rw [← r3] at table
  have size2 : (order.filterMap (es[·]?)).size = es.size := by rw [← Array.length_toList, r1, List.length_map, r2.length_eq, size]
  rw [setRelay_eq]
  apply wpAny_bind
  apply wpAny_setState_of ho hd fits
  dsimp only
  refine wp_if_neg (by rw [sizeLine_eq]; omega) ?_
  try refine wpAny_bind (wpAny_pure ?_)
  rw [laid]
  dsimp only
  apply wpAny_bind
  refine wp_if_neg (by rw [size2]; simp) ?_
  try refine wpAny_bind (wpAny_pure ?_)
  apply wpAny_pure
  dsimp only
  apply wpAny_storeSet_of ho hd _ (by rw [size2, size, sizeLine_eq]; omega)
  have same : Heap.SameBut a s.heap (s.heap.update a (Obj.putSet (order.filterMap (es[·]?)) t')) := Heap.SameBut.update ..
  refine go _ N _ (ep + 1) t' same ⟨⟨_, store_at ho hd, ⟨ex.1, ex.2.1, ex.2.2⟩, rfl⟩, r1, table, (r2.map (·.2)).nodup_iff.mpr once, fun p hp => key_same (keys p (r2.mem_iff.mp hp)) ho hd same, ?_, by rw [r2.length_eq]; exact few, by rw [eled]; exact ld⟩ r2
  rw [r2.length_eq, mask]
  exact loose
/-- a tuple is added -/
theorem add_on (tells : Tells kd) (T : TSet kd s.heap a L es ep t) {x : Addr} {k : List κ} (hx : PySem.IsTupleKey kd s.heap k x) (room : A.units < cLine) (few : L.length + 1 < 64) {Q : Bool → Shared → Prop}
    (go : ∀ b h' L' es' ep' t', Heap.SameBut a s.heap h' → TSet kd h' a L' es' ep' t' → (k ∈ L.map (·.2) → L' = L) → (k ∉ L.map (·.2) → L'.Perm ((x, k) :: L)) → Q b { s with heap := h' }) :
    wpAny (model P w) A (setAddHashed a (.ref x) (PySem.tupleKeyHash kd k)) Q E s := by
  obtain ⟨o, ho, ex, hd⟩ := T.there
  have size := T.size
  have loose := T.loose
  unfold setAddHashed
  apply wpAny_holding
  rw [show (100000 : Nat) = 99999 + 1 from rfl, setAddHashedIn_succ]
  apply wpAny_bind
  apply wpAny_setState_of ho hd T.fits
  dsimp only
  refine wp_if_neg (by simp [byScan, Value.scannable]) ?_
  try refine wpAny_bind (wpAny_pure ?_)
  refine wpAny_bind (search_for tells T hx room (fun there => ?_) fun K no gap full => ?_)
  · dsimp only
    exact wpAny_pure (go false s.heap L es ep t (Heap.SameBut.refl a s.heap) T (fun _ => rfl) fun z => absurd there z)
  dsimp only
  apply wpAny_bind
  apply wpAny_setState_of ho hd T.fits
  dsimp only
  obtain ⟨q1, q2, q3, q4, q5, q6, q7, q8, q9⟩ := T.table.put gap full
  generalize hpt : t.put (way t.mask (PySem.tupleKeyHash kd k) K) = pt at *
  obtain ⟨t1, n⟩ := pt
  dsimp only at q1 q3 q4 q5 q6 q7 q8 q9 ⊢
  subst q1
  generalize hn : SetTable.below t.place (way t.mask (PySem.tupleKeyHash kd k) K) = n at *
  have perm := put_perm L n (x, k)
  have rows1 : (SetTable.insertAt es n (PySem.tupleKeyHash kd k, Value.ref x)).toList = (L.take n ++ (x, k) :: L.drop n).map fun p => (hsh kd p, Value.ref p.1) := by
    rw [SetTable.toList_insertAt, rows_in, T.rows]
  have table1 : TabOk t1 ((L.take n ++ (x, k) :: L.drop n).map (hsh kd)) := by
    rw [List.map_append, List.map_cons, List.map_take, List.map_drop]
    exact q3
  have len1 : (L.take n ++ (x, k) :: L.drop n).length = L.length + 1 := perm.length_eq
  have once1 : ((L.take n ++ (x, k) :: L.drop n).map (·.2)).Nodup := by
    refine (perm.map (·.2)).nodup_iff.mpr ?_
    rw [List.map_cons]
    exact List.nodup_cons.mpr ⟨no, T.once⟩
  have keys0 : ∀ p ∈ L.take n ++ (x, k) :: L.drop n, PySem.IsTupleKey kd s.heap p.2 p.1 := fun p hp => (List.mem_cons.mp (perm.mem_iff.mp hp)).elim (fun e => by rw [e]; exact hx) (T.keys p)
  generalize hes : SetTable.insertAt es n (PySem.tupleKeyHash kd k, Value.ref x) = es1 at *
  generalize hL : L.take n ++ (x, k) :: L.drop n = L1 at *
  -- whether the tuple hashes by its value: any answer
  have store : ∀ t2 : SetTable, t2.place = t1.place → t2.dummies = t1.dummies → t2.mask = t1.mask → t2.tooFull = t1.tooFull → t2.led = t1.led → wpAny (model P w) A (do
      storeSet a es1 t2
      if !false && t2.tooFull then setRelay a (SetTable.grown (es.size + 1))
      return true) Q E s := by
    intro t2 p2 d2 m2 f2 e2
    have ld2 : w.params.followText "set-order" = true ∨ t2.led = true := by rw [e2, q5]; exact T.led
    have table2 : TabOk t2 (L1.map (hsh kd)) := ⟨by rw [p2]; exact table1.ris, by rw [d2]; exact table1.dm, by rw [p2]; exact table1.sz, by rw [m2]; exact table1.mok, by rw [p2, m2]; exact table1.bd, by rw [p2, m2]; exact table1.reach⟩
    have size1 : es1.size = L.length + 1 := by rw [← Array.length_toList, rows1, List.length_map, len1]
    apply wpAny_bind
    apply wpAny_storeSet_of ho hd _ (by rw [size1, sizeLine_eq]; omega)
    have same : Heap.SameBut a s.heap (s.heap.update a (Obj.putSet es1 t2)) := Heap.SameBut.update ..
    have ho1 := store_at (es' := es1) (t' := t2) ho hd
    generalize s.heap.update a (Obj.putSet es1 t2) = h1 at same ho1 ⊢
    have keys1 : ∀ p ∈ L1, PySem.IsTupleKey kd h1 p.2 p.1 := fun p hp => key_same (keys0 p hp) ho hd same
    have mask2 : t2.mask = t.mask := m2.trans q4
    have full1 : t1.tooFull = decide ((L.length + 1) * 5 ≥ t.mask * 3) := by
      unfold SetTable.tooFull
      rw [q9, q4, List.length_map]
    cases full : t1.tooFull with
    | false =>
      rw [f2, full]
      simp only [Bool.and_false, Bool.false_eq_true, if_false]
      try refine wpAny_bind (wpAny_pure ?_)
      refine wpAny_pure (go true h1 L1 es1 (ep + 1) t2 same ⟨⟨_, ho1, ⟨ex.1, ex.2.1, ex.2.2⟩, rfl⟩, rows1, table2, once1, keys1, ?_, by rw [len1]; exact few, ld2⟩ (fun z => absurd z no) fun _ => perm)
      rw [full] at full1
      have := of_decide_eq_false full1.symm
      rw [len1, mask2]
      omega
    | true =>
      rw [f2, full]
      simp only [Bool.not_false, Bool.and_true, if_true]
      rw [full] at full1
      have over := of_decide_eq_true full1.symm
      have places2 : t2.place.size = L1.length := by rw [table2.sz, List.length_map]
      have again : ∀ M, SetTable.sizeAbove (SetTable.grown (L.length + 1)) - 1 = M → MaskOk M → SetTable.sizeAbove (SetTable.grown (L.length + 1)) ≤ 128 → (L.length + 1) * 5 < M * 3 → L.length + 1 ≤ t.mask →
          wpAny (model P w) A (do
            setRelay a (SetTable.grown (L.length + 1))
            return true) Q E { s with heap := h1 } := by
        intro M is ok most loose1 fit
        apply wpAny_bind
        refine relay_on (s := { s with heap := h1 }) ho1 ⟨ex.1, ex.2.1, ex.2.2⟩ rfl rows1 places2 table2.dm (by rw [len1, mask2]; exact fit) once1 keys1 (by rw [len1]; exact few) is ok most (by rw [len1]; exact loose1) ld2 ?_
        intro h2 L2 es2 ep2 t3 same2 T2 perm2
        exact wpAny_pure (go true h2 L2 es2 ep2 t3 (same.trans same2) T2 (fun z => absurd z no) fun _ => perm2.trans perm)
      rw [size]
      rcases T.table.mok with e | e | e
      · have l4 : L.length = 4 := by rw [e] at over loose; omega
        exact again 31 (by rw [l4, size_20]) (.inr (.inl rfl)) (by rw [l4, size_20]; decide) (by omega) (by omega)
      · have l18 : L.length = 18 := by rw [e] at over loose; omega
        exact again 127 (by rw [l18, size_76]) (.inr (.inr rfl)) (by rw [l18, size_76]; decide) (by omega) (by omega)
      · rw [e] at over
        omega
  cases plain : t1.plain with
  | true =>
    simp only [if_true]
    apply wpAny_bind
    refine val_of tells hx fun c => ?_
    cases c with
    | true => exact store t1 rfl rfl rfl rfl rfl
    | false => exact store { t1 with plain := false } rfl rfl rfl rfl rfl
  | false =>
    simp only [Bool.false_eq_true, if_false]
    refine wpAny_bind (wpAny_pure ?_)
    exact store t1 rfl rfl rfl rfl rfl
end
end LN

namespace LN
open PySem PySem.Spec PyProof.Rows L2
/-- the set L has got the first i of these tuples -/
structure Has {κ : Type} (ks : List (Addr × List κ)) (i : Nat) (L : List (Addr × List κ)) : Prop where
  from_ : ∀ p ∈ L, p ∈ ks.take i
  all : ∀ k, k ∈ L.map (·.2) ↔ k ∈ (ks.take i).map (·.2)
  few : L.length ≤ i
theorem Has.none {κ : Type} (ks : List (Addr × List κ)) : Has ks 0 [] := ⟨fun _ h => absurd h List.not_mem_nil, fun k => by simp, Nat.le_refl _⟩
theorem Has.next {κ : Type} [DecidableEq κ] {ks L L' : List (Addr × List κ)} {i : Nat} {p : Addr × List κ} (h : Has ks i L) (e : ks[i]? = some p) (old : p.2 ∈ L.map (·.2) → L' = L) (new : p.2 ∉ L.map (·.2) → L'.Perm (p :: L)) : Has ks (i + 1) L' := by
  have tk : ks.take (i + 1) = ks.take i ++ [p] := by
    rw [List.take_succ, e]
    rfl
  have all : ∀ k, k ∈ (ks.take (i + 1)).map (·.2) ↔ k ∈ (ks.take i).map (·.2) ∨ k = p.2 := fun k => by
    rw [tk, List.map_append, List.mem_append]
    simp
  by_cases there : p.2 ∈ L.map (·.2)
  · rw [old there]
    refine ⟨fun q hq => ?_, fun k => ?_, Nat.le_succ_of_le h.few⟩
    · rw [tk]
      exact List.mem_append_left _ (h.from_ q hq)
    · rw [all, ← h.all]
      exact ⟨.inl, fun z => z.elim id fun z => z ▸ there⟩
  · have pm := new there
    refine ⟨fun q hq => ?_, fun k => ?_, ?_⟩
    · rw [tk]
      rcases List.mem_cons.mp (pm.mem_iff.mp hq) with z | z
      · rw [z]
        exact List.mem_append_right _ List.mem_cons_self
      · exact List.mem_append_left _ (h.from_ q z)
    · rw [all, ← h.all, (pm.map (·.2)).mem_iff, List.map_cons, List.mem_cons]
      exact ⟨fun z => z.elim .inr .inl, fun z => z.elim .inr .inl⟩
    · rw [pm.length_eq]
      exact Nat.succ_le_succ h.few
section
variable {P : Program} {w : World} {κ : Type} [DecidableEq κ] {kd : PySem.KeyKind P w κ} {A : Around} {E : Value → Shared → Prop} {s : Shared}
theorem key_keep {h h' : Heap} {k : List κ} {b : Addr} (x : PySem.IsTupleKey kd h k b) (on : ∀ c o, h.get? c = some o → h'.get? c = some o) : PySem.IsTupleKey kd h' k b := by
  obtain ⟨o, items, n, ho, r⟩ := x
  exact ⟨o, items, n, on b o ho, r⟩
theorem TSet.keep {h h' : Heap} {a : Addr} {L : List (Addr × List κ)} {es : Array (Int × Value)} {ep : Nat} {t : SetTable} (T : TSet kd h a L es ep t) (on : ∀ o, h.get? a = some o → h'.get? a = some o) (keys : ∀ p ∈ L, PySem.IsTupleKey kd h' p.2 p.1) : TSet kd h' a L es ep t := by
  obtain ⟨o, ho, r⟩ := T.there
  exact ⟨⟨o, on o ho, r⟩, T.rows, T.table, T.once, keys, T.loose, T.few, T.led⟩
theorem tset_new {h : Heap} {a : Addr} {b : Bool} (ho : h.get? a = some { cls := .type "set", dict := none, data := .set #[] 0 (.fresh 0 0 b) }) (hb : w.params.followText "set-order" = true ∨ b = true) : TSet kd h a [] #[] 0 (.fresh 0 0 b) := by
  refine ⟨⟨_, ho, ⟨rfl, rfl, rfl⟩, rfl⟩, rfl, ⟨List.Pairwise.nil, rfl, rfl, .inl rfl, fun x hx => absurd hx (by show x ∉ ([] : List Nat); exact List.not_mem_nil), fun i h j hi => by simp at hi⟩, List.nodup_nil, fun p hp => absurd hp List.not_mem_nil, ?_, ?_, hb⟩
  · show 0 * 5 < 7 * 3
    decide
  · show 0 < 64
    decide
/-- the loop of a set's update, over anything that walks -/
theorem update_on (tells : Tells kd) {I : Addr} {fp wr : List Addr} {g : Array GenState → Array GenState → Prop} {n : Nat} {Pv : Nat → Value → Prop} {St : Nat → Shared → Prop} {R : Result → Shared → Prop} (Wk : WalksS P w A.in1 I fp wr g n Pv St) (S : Addr) (apart : S ∉ fp)
    (ks : List (Addr × List κ)) (many : n = ks.length) (few : ks.length < 64) (item : ∀ i v, Pv i v → ∃ p, ks[i]? = some p ∧ v = .ref p.1) (h0 : Heap) (keys : ∀ p ∈ ks, PySem.IsTupleKey kd h0 p.2 p.1) (newS : h0.get? S = none) (newW : ∀ b ∈ wr, h0.get? b = none) (room : A.in1.units < cLine) :
    ∀ (j i : Nat) (s : Shared), n - i = j → i ≤ n → St i s → (∀ b o, h0.get? b = some o → s.heap.get? b = some o) → (∃ L es ep t, TSet kd s.heap S L es ep t ∧ Has ks i L) →
      (∀ s' L es ep t, Moved (S :: wr) g s s' → TSet kd s'.heap S L es ep t → Has ks n L → (∀ b o, h0.get? b = some o → s'.heap.get? b = some o) → R (.ok (.ret .none)) s') →
      codeAny (model P w) A (.builtin "set.update.loop" ⟨[.ref S, .ref I], []⟩) R s := by
  have apartW : S ∉ wr := fun z => apart (Wk.sub _ z)
  have wider : ∀ b ∈ wr, b ∈ S :: wr := fun b hb => List.mem_cons_of_mem _ hb
  have kept : ∀ {s s' : Shared}, Moved wr g s s' → (∀ b o, h0.get? b = some o → s.heap.get? b = some o) → ∀ b o, h0.get? b = some o → s'.heap.get? b = some o := by
    intro s s' mv on b o e
    exact mv.heap b o (fun hb => by rw [newW b hb] at e; cases e) (on b o e)
  intro j
  induction j with
  | zero =>
    intro i s hj hi st on ⟨L, es, ep, t, T, has⟩ go
    obtain rfl : i = n := by omega
    refine codeAny_builtin F.entry_set_update_loop ?_
    rw [Around.under_plainId F.plain_set_update_loop _]
    show wpAny _ A.in1 (pyNext (.ref I) >>= _) _ _ s
    refine wpAny_bind (Wk.done s _ _ st fun s' mv => ?_)
    show wpAny _ A.in1 (ret Value.none) _ _ s'
    have on' := kept mv on
    refine wpAny_pure (go s' L es ep t (mv.mono wider) (T.keep (fun o e => mv.heap S o apartW e) fun p hp => ?_) has on')
    exact key_keep (keys p (List.mem_of_mem_take (has.from_ p hp))) on'
  | succ j ih =>
    intro i s hj hi st on ⟨L, es, ep, t, T, has⟩ go
    have lt : i < n := by omega
    refine codeAny_builtin F.entry_set_update_loop ?_
    rw [Around.under_plainId F.plain_set_update_loop _]
    show wpAny _ A.in1 (pyNext (.ref I) >>= _) _ _ s
    refine wpAny_bind (Wk.item i s _ _ lt st fun v s' hv st' mv => ?_)
    obtain ⟨p, hp, rfl⟩ := item i v hv
    have on' := kept mv on
    have T' : TSet kd s'.heap S L es ep t := T.keep (fun o e => mv.heap S o apartW e) fun q hq => key_keep (keys q (List.mem_of_mem_take (has.from_ q hq))) on'
    have hx : PySem.IsTupleKey kd s'.heap p.2 p.1 := key_keep (keys p (List.mem_of_getElem? hp)) on'
    show wpAny _ A.in1 (holding [Value.ref p.1] (setAdd S (.ref p.1)) >>= _) _ _ s'
    refine wpAny_bind (wpAny_holding ?_)
    unfold setAdd
    apply wpAny_holding
    refine wpAny_bind (wpAny_pyHash_tuple room hx ?_)
    have := has.few
    refine add_on (s := { s' with toks := s'.toks + (p.2.length + 1) }) tells T' hx room (by omega) fun b h' L' es' ep' t' same T2 old new => ?_
    have has' : Has ks (i + 1) L' := has.next hp old new
    have off : ∀ b o, b ≠ S → s'.heap.get? b = some o → h'.get? b = some o := fun b o z e => (same.2 b z).trans e
    have on2 : ∀ b o, h0.get? b = some o → h'.get? b = some o := fun b o e => off b o (fun z => by rw [z, newS] at e; cases e) (on' b o e)
    refine wpAny_pure ⟨plainId_quiet F.plain_set_update_loop _, ih (i + 1) _ (by omega) lt (Wk.frame _ s' _ _ st' (Nat.le_add_right _ _) fun b hb o e => off b o (fun z => apart (z ▸ hb)) e) on2 ⟨L', es', ep', t', T2, has'⟩ ?_⟩
    intro s'' L2 es2 ep2 t2 mv2 T3 has2 on3
    exact go s'' L2 es2 ep2 t2 (Moved.trans Wk.gtrans ((mv.mono wider).then_heap (Nat.le_add_right _ _) fun b o hb e => off b o (fun z => hb (z ▸ List.mem_cons_self)) e) mv2) T3 has2 on3
/-- a sequence at l of these items, of the class c, and how it is walked -/
structure Src (P : Program) (w : World) (c : String) (l : Addr) (items : Array Value) : Prop where
  sets : isSubtype (.type c) (.type "set") = pure false
  frozen : isSubtype (.type c) (.type "frozenset") = pure false
  dict : (Value.type c == Value.type "dict") = false
  iter : ∀ (A : Around) (s : Shared) (E : Value → Shared → Prop) (Q : Value → Shared → Prop), A.handled = none → (∃ o n, s.heap.get? l = some o ∧ o.cls = .type c ∧ o.data = .seq items n) → l < s.heap.objs.size →
    (∀ (I : Addr) (fp wr : List Addr) (g : Array GenState → Array GenState → Prop) (St : Nat → Shared → Prop) (s' : Shared), WalksS P w A I fp wr g items.size (fun i v => items[i]? = some v) St → I = s.heap.objs.size → (∀ b ∈ fp, b = s.heap.objs.size ∨ b = l) → (∀ b ∈ wr, b = s.heap.objs.size) → St 0 s' →
      (∀ b o, s.heap.get? b = some o → s'.heap.get? b = some o) → s'.gens = s.gens → s'.drawn = s.drawn → s'.os = s.os → Q (.ref I) s') → wpAny (model P w) A (pyIter (.ref l)) Q E s
end
end LN

namespace LN
open PySem PySem.Spec PyProof.Rows L2
/-- a list or a tuple at l, and what is said of how it is walked -/
def seqOb (c : String) (items : Array Value) (dd : Option Addr) (n : Nat) (sl : Array (Option Value)) : Obj := { cls := .type c, dict := dd, data := .seq items n, slots := sl }
def itOb (i : String) (l : Addr) : Obj := { cls := .type i, data := .fields #[.ref l, .int 0 0] }
structure Seqs (P : Program) (w : World) (c i : String) : Prop where
  noSet : isSubtype (.type c) (.type "set") = pure false
  noFroz : isSubtype (.type c) (.type "frozenset") = pure false
  noDict : (Value.type c == Value.type "dict") = false
  start : ∀ (A : Around) (E Q : Value → Shared → Prop) (s : Shared) (l : Addr) items dd n sl, s.heap.get? l = some (seqOb c items dd n sl) → Q (.ref s.heap.objs.size) { s with heap := s.heap.push (itOb i l) } → wpAny (model P w) A (pyIter (.ref l)) Q E s
  walk : ∀ (A : Around) (I l : Addr) (items : Array Value), A.handled = none → l ≠ I → ∃ (g : Array GenState → Array GenState → Prop) (St : Nat → Shared → Prop), WalksS P w A I [I, l] [I] g items.size (fun i v => items[i]? = some v) St ∧ (∀ a b, g a b → b = a) ∧
    ∀ (s : Shared) dd n sl, s.heap.get? I = some (itOb i l) → s.heap.get? l = some (seqOb c items dd n sl) → St 0 s
theorem seqs_list (P : Program) (w : World) : Seqs P w "list" "list_iterator" where
  noSet := F.sub_list_set
  noFroz := F.sub_list_frozenset
  noDict := by decide
  start := fun A E Q s l items dd n sl h q => wpAny_pyIter_list ⟨_, h, rfl, n, rfl⟩ q
  walk := fun A I l items h ne => ⟨_, _, (Walks.list h I l ne items).toS, fun a b e => e, fun s dd n sl h1 h2 => ⟨⟨_, h1, rfl, rfl⟩, ⟨_, h2, rfl, n, rfl⟩⟩⟩
theorem seqs_tuple (P : Program) (w : World) : Seqs P w "tuple" "tuple_iterator" where
  noSet := F.sub_tuple_set
  noFroz := F.sub_tuple_frozenset
  noDict := by decide
  start := fun A E Q s l items dd n sl h q => wpAny_pyIter_tuple ⟨_, h, rfl, n, rfl⟩ q
  walk := fun A I l items h ne => ⟨_, _, (Walks.tuple h I l ne items).toS, fun a b e => e, fun s dd n sl h1 h2 => ⟨⟨_, h1, rfl, rfl⟩, ⟨_, h2, rfl, n, rfl⟩⟩⟩
section
variable {P : Program} {w : World} {κ : Type} [DecidableEq κ] {kd : PySem.KeyKind P w κ} {A : Around} {E : Value → Shared → Prop} {s : Shared}
/-- a new set, empty -/
def noneOb (b : Bool) : Obj := { cls := .type "set", dict := none, data := .set #[] 0 (.fresh 0 0 b) }
set_option maxHeartbeats 3200000 in
/-- set(l), l a list or a tuple of such tuples -/
theorem call_set_on (tells : Tells kd) {c i : String} (Z : Seqs P w c i) {l : Addr} {items : Array Value} {dd : Option Addr} {m : Nat} {sl : Array (Option Value)} (ks : List (Addr × List κ)) {Q : Value → Shared → Prop} (calm : A.handled = none)
    (there : s.heap.get? l = some (seqOb c items dd m sl)) (its : items.toList = ks.map fun p => Value.ref p.1) (keys : ∀ p ∈ ks, PySem.IsTupleKey kd s.heap p.2 p.1) (few : ks.length < 64) (room : A.units + 3 < cLine)
    (go : ∀ (h' : Heap) (tk : Nat) L es ep t, TSet kd h' s.heap.objs.size L es ep t → Has ks ks.length L → (∀ b o, s.heap.get? b = some o → h'.get? b = some o) → Q (.ref s.heap.objs.size) { s with heap := h', toks := tk }) :
    wpAny (model P w) A (call (.type "set") [.ref l]) Q E s := by
  have many : items.size = ks.length := by
    have e := congrArg List.length its
    simpa using e
  obtain ⟨cc, tl, mro⟩ := F.called_set.mro
  have hmade := F.called_set.made; have hsub := F.called_set.sub
  refine wpAny_call (codeAny_of_tree ?_); show wpAny _ _ (callAny (.type "set") _) _ _ _
  refine wpAny_pure ⟨Code.quiet_builtin _ (by decide +kernel), codeAny_builtin F.entry_type_call ?_⟩; rw [Around.under_plain (weight_type_call_type "set" [.ref l] []) rfl]
  have h1 := F.called_set.notType; have h2 := F.called_set.canCreate; have h3 := F.typeCall_set_1 (.ref l)
  repeat (any_goals (first | assumption | wp_step))
  let led : Bool := !w.params.followText "set-order"
  refine codeAny_mono (code_set_led1 (.ref l) (E := E) (Q₁ := fun ob s₁ => ob = .ref s.heap.objs.size ∧ s₁ = { s with heap := s.heap.push (noneOb led) }) ⟨rfl, rfl⟩) fun r s₁ got => ?_
  cases r with
  | error e => exact got
  | ok fl =>
    cases fl with
    | next => exact got.elim
    | brk => exact got.elim
    | cont => exact got.elim
    | ret ob =>
      obtain ⟨rfl, rfl⟩ := got
      have atS : (s.heap.push (noneOb led)).get? s.heap.objs.size = some (noneOb led) := Heap.get?_push_size _ rfl
      have tyS : Shared.TypeIs { s with heap := s.heap.push (noneOb led) } (.ref s.heap.objs.size) "set" := ⟨_, atS, rfl⟩
      have hli := F.called_set.init.lookup; have hbi := F.called_set.init.bind (.ref s.heap.objs.size)
      repeat (any_goals (first | assumption | wp_step))
      refine codeAny_mono (codeAny_call_builtin (R := wants (fun r s₂ => r = .none ∧ ∃ h' tk L es ep t, s₂ = { s with heap := h', toks := tk } ∧ TSet kd h' s.heap.objs.size L es ep t ∧ Has ks ks.length L ∧ (∀ b o, s.heap.get? b = some o → h'.get? b = some o)) E)
        F.called_set.init.plain F.entry_set_init (check_set_init_1 tyS ?_)) fun r₂ s₂ got₂ => ?_
      · have hol' : (s.heap.push (noneOb led)).get? l = some { cls := .type c, dict := dd, data := .seq items m, slots := sl } := Heap.get?_push_of_some _ there
        have hsls := Z.noSet; have hslf := Z.noFroz; have hne := Z.noDict
        unfold Builtin.«set.__init__» noKeywords Builtin.Frozenset.updateFrom
        generalize hPI : pyIter = PI
        wp_walk
        subst hPI
        refine Z.start _ _ _ _ l items dd m sl hol' ?_
        refine wpAny_bind (wpAny_runValue ?_)
        have below : l < s.heap.objs.size := Heap.lt_size there
        have grown : (s.heap.push (noneOb led)).objs.size = s.heap.objs.size + 1 := Heap.size_push ..
        have calm3 : A.in1.in1.in1.handled = none := by simp [calm]
        obtain ⟨g, St, W, gs, st0⟩ := Z.walk A.in1.in1.in1 (s.heap.push (noneOb led)).objs.size l items calm3 (by rw [grown]; exact Nat.ne_of_lt (Nat.lt_succ_of_lt below))
        have gone : ∀ b, s.heap.objs.size ≤ b → s.heap.get? b = none := fun b hb => by
          cases q : s.heap.get? b with
          | none => rfl
          | some o => exact absurd (Heap.lt_size q) (Nat.not_lt.mpr hb)
        have item : ∀ (j : Nat) (v : Value), items[j]? = some v → ∃ p, ks[j]? = some p ∧ v = .ref p.1 := fun j v hv => by
          have q : (ks.map fun p => Value.ref p.1)[j]? = some v := by
            rw [← its, Array.getElem?_toList]
            exact hv
          rw [List.getElem?_map] at q
          obtain ⟨p, e1, e2⟩ := Option.map_eq_some_iff.mp q
          exact ⟨p, e1, e2.symm⟩
        have apart : s.heap.objs.size ∉ [(s.heap.push (noneOb led)).objs.size, l] := by
          rw [grown]
          intro z
          rcases List.mem_cons.mp z with z | z
          · exact Nat.ne_of_lt (Nat.lt_succ_self _) z
          · rw [List.mem_singleton] at z
            exact Nat.ne_of_gt below z
        refine update_on tells W s.heap.objs.size apart ks many few item s.heap keys (gone _ (Nat.le_refl _)) (fun b hb => gone b (by rw [List.mem_singleton.mp hb, grown]; exact Nat.le_succ _)) (by show A.units + 1 + 1 + 1 < cLine; omega) (items.size - 0) 0 _ (by omega) (Nat.zero_le _)
          (st0 _ dd m sl (Heap.get?_push_size _ rfl) (Heap.get?_push_of_some _ hol')) (fun b o e => Heap.get?_push_of_some _ (Heap.get?_push_of_some _ e)) ⟨[], #[], 0, _, tset_new (Heap.get?_push_of_some _ atS) (by show _ ∨ (!w.params.followText "set-order") = true; cases w.params.followText "set-order" <;> simp), Has.none ks⟩ ?_
        intro s' L es ep t mv T has on
        obtain ⟨h', g2, d', tk', os'⟩ := s'
        have eg : g2 = s.gens := gs _ _ mv.gens
        have ed : d' = s.drawn := mv.drawn
        have eo : os' = s.os := mv.os
        subst eg; subst ed; subst eo
        show wpAny _ _ _ _ _ _
        refine wpAny_pure ?_
        show wpAny _ _ (ret Value.none) _ _ _
        rw [many] at has
        exact wpAny_pure ⟨rfl, h', tk', L, es, ep, t, rfl, T, has, on⟩
      · cases r₂ with
        | error e => exact got₂
        | ok fl₂ =>
          cases fl₂ with
          | next => exact got₂.elim
          | brk => exact got₂.elim
          | cont => exact got₂.elim
          | ret r =>
            obtain ⟨rfl, h', tk, L, es, ep, t, rfl, T, has, on⟩ := got₂
            repeat (any_goals (first | assumption | wp_step))
            exact go _ _ _ _ _ _ T has on
end
end LN

namespace LN
open PySem PySem.Spec PyProof.Rows L2
/-! how many different ones there are -/
theorem nodup_size {α : Type} [DecidableEq α] : ∀ {l m : List α}, l.Nodup → (∀ x ∈ l, x ∈ m) → l.length ≤ m.length ∧ (l.length = m.length → m.Nodup)
  | [], m, _, _ => ⟨Nat.zero_le _, fun e => by
      have : m = [] := List.length_eq_zero_iff.mp e.symm
      rw [this]
      exact List.nodup_nil⟩
  | x :: l, m, hn, hs => by
    obtain ⟨nx, nl⟩ := List.nodup_cons.mp hn
    have hx : x ∈ m := hs x List.mem_cons_self
    have sub : ∀ y ∈ l, y ∈ m.erase x := fun y hy => (List.mem_erase_of_ne (fun z : y = x => nx (by rw [← z]; exact hy))).mpr (hs y (List.mem_cons_of_mem _ hy))
    obtain ⟨h1, h2⟩ := nodup_size (l := l) (m := m.erase x) nl sub
    have le : (m.erase x).length = m.length - 1 := List.length_erase_of_mem hx
    have pos : 0 < m.length := List.length_pos_of_mem hx
    refine ⟨by rw [List.length_cons]; omega, fun e => ?_⟩
    rw [List.length_cons] at e
    have ne : (m.erase x).Nodup := h2 (by omega)
    have notin : x ∉ m.erase x := fun z => by
      have : (x :: l).length ≤ (m.erase x).length := (nodup_size' (x := x) (l := l) (m := m.erase x) hn fun y hy => (List.mem_cons.mp hy).elim (fun e => e ▸ z) (sub y))
      rw [List.length_cons] at this
      omega
    exact (List.perm_cons_erase hx).nodup_iff.mpr (List.nodup_cons.mpr ⟨notin, ne⟩)
where
  nodup_size' {α : Type} [DecidableEq α] {x : α} : ∀ {l m : List α}, (x :: l).Nodup → (∀ y ∈ x :: l, y ∈ m) → (x :: l).length ≤ m.length := fun {l m} h s => by
    have gen : ∀ (l m : List α), l.Nodup → (∀ y ∈ l, y ∈ m) → l.length ≤ m.length := by
      intro l
      induction l with
      | nil => exact fun m _ _ => Nat.zero_le _
      | cons a l ih =>
        intro m hn hs
        obtain ⟨na, nl⟩ := List.nodup_cons.mp hn
        have ha : a ∈ m := hs a List.mem_cons_self
        have := ih (m.erase a) nl fun y hy => (List.mem_erase_of_ne (fun z : y = a => na (by rw [← z]; exact hy))).mpr (hs y (List.mem_cons_of_mem _ hy))
        have le : (m.erase a).length = m.length - 1 := List.length_erase_of_mem ha
        have pos : 0 < m.length := List.length_pos_of_mem ha
        rw [List.length_cons]
        omega
    exact gen _ _ h s
/-- a set at a, of n things -/
def setN (a : Addr) (n : Nat) : HO := .ext fun h => n < 64 ∧ ∃ o es ep t, h.get? a = some o ∧ o.ExactSet ∧ o.data = .set es ep t ∧ t.fits es.size = true ∧ es.size = n
section
variable {P : Program} {w : World} {κ : Type} [DecidableEq κ] {kd : PySem.KeyKind P w κ}
theorem setN_ok {H : Hp} {h : Heap} {a : Addr} {L : List (Addr × List κ)} {es : Array (Int × Value)} {ep : Nat} {t : SetTable} (T : TSet kd h a L es ep t) : ObjOk P w H h a (setN a L.length) := by
  obtain ⟨o, ho, ex, hd⟩ := T.there
  refine ⟨⟨T.few, o, es, ep, t, ho, ex, hd, T.fits, T.size⟩, ⟨o, ho⟩, fun h1 h2 q st => ?_⟩
  obtain ⟨few, o', es', ep', t', ho', r⟩ := q
  exact ⟨few, o', es', ep', t', st o' ho', r⟩
end
theorem strs_are {P : Program} {w : World} : ∀ {ks : List Str} {us : List Value}, Vals (ks.map V.str) us → PySem.ItemsAre (PySem.strKind P w) ks us
  | [], _, .nil => .nil
  | x :: ks, _, .cons h t => .cons (by
      obtain ⟨t', rfl⟩ := h
      show Value.isStrOf x (.str x t') = true
      simp [Value.isStrOf]) (strs_are t)
theorem refs_are {α : Type} : ∀ {ks : List (Addr × α)} {us : List Value}, Vals (ks.map fun p => V.ref p.1) us → us = ks.map fun p => Value.ref p.1
  | [], _, .nil => rfl
  | p :: ks, _, .cons h t => by
    cases (show _ = Value.ref p.1 from h)
    rw [List.map_cons, ← refs_are t]
section
variable {X : Cx}
theorem inv_key {pins : List (Addr × Obj)} {σ : L2.St} {H : Hp} {s : Shared} {b : Addr} {k : List Str} (I : Inv X pins σ H s) (h : SqT X.K H b (k.map V.str)) : PySem.IsTupleKey (PySem.strKind X.prog X.w) s.heap k b := by
  obtain ⟨its, r, ⟨o, ho, hc, n, hd⟩, _⟩ := I.tuple h
  exact ⟨o, its.toArray, n, ho, hc, hd, by simpa using strs_are r⟩
/-- set(xs), xs a list or a tuple of names -/
def rSetN (K : PySem.W.Frag) : List V → Hp → VK → Prop := fun xs H Q => ∃ (l : Addr) (ks : List (Addr × List Str)), xs = [.ref l] ∧ (SqL K H l (ks.map fun p => V.ref p.1) ∨ SqT K H l (ks.map fun p => V.ref p.1)) ∧ (∀ p ∈ ks, SqT K H p.1 (p.2.map V.str)) ∧ ks.length < 64 ∧
  ∀ a n, H a = none → n ≤ ks.length → (n = ks.length ↔ (ks.map (·.2)).Nodup) → Q (.ref a) (upd H a (setN a n))
theorem cr_setN (hc : X.calm = true) (hu : X.A.units + 64 < cLine) : CallR X (.type "set") (rSetN X.K) := by
  rintro pins s σ H xs us Q I rel ⟨l, ks, rfl, there, names, few, q⟩
  obtain ⟨u, rfl, ru⟩ := vals1 rel
  obtain rfl : u = Value.ref l := ru
  have new : H s.heap.objs.size = none := I.hok.fresh (Nat.le_refl _)
  have fin : ∀ (h' : Heap) (tk : Nat) L es ep t, TSet (PySem.strKind X.prog X.w) h' s.heap.objs.size L es ep t → Has ks ks.length L → (∀ b o, s.heap.get? b = some o → h'.get? b = some o) → EP X pins σ Q (.ref s.heap.objs.size) { s with heap := h', toks := tk } := by
    intro h' tk L es ep t T has on
    refine ⟨.ref s.heap.objs.size, _, I.laid (t' := tk) on (Nat.le_refl _) (setN_ok T), rfl, q _ L.length new ?_ ?_⟩
    · exact has.few
    · have sub : ∀ x ∈ L.map (·.2), x ∈ ks.map (·.2) := fun x hx => by
        have := (has.all x).mp hx
        rw [List.take_length] at this
        exact this
      have sup : ∀ x ∈ ks.map (·.2), x ∈ L.map (·.2) := fun x hx => (has.all x).mpr (by rw [List.take_length]; exact hx)
      constructor
      · intro e
        exact (nodup_size T.once sub).2 (by rw [List.length_map, List.length_map]; exact e)
      · intro nd
        have a1 := (nodup_size T.once sub).1
        have a2 := (nodup_size nd sup).1
        rw [List.length_map, List.length_map] at a1 a2
        omega
  have keys : ∀ p ∈ ks, PySem.IsTupleKey (PySem.strKind X.prog X.w) s.heap p.2 p.1 := fun p hp => inv_key I (names p hp)
  rcases there with there | there
  · obtain ⟨its, rv, pl, _⟩ := I.list there
    obtain ⟨⟨cls, dd, data, sl⟩, ho, hcl, n, hd⟩ := pl.isList
    simp only at hcl hd
    subst hcl hd
    exact call_set_on (strs_tell _ _) (seqs_list _ _) ks (I.ok.hd hc) ho (by simpa using refs_are rv) keys few (by omega) fin
  · obtain ⟨its, rv, ⟨⟨cls, dd, data, sl⟩, ho, hcl, n, hd⟩, _⟩ := I.tuple there
    simp only at hcl hd
    subst hcl hd
    exact call_set_on (strs_tell _ _) (seqs_tuple _ _) ks (I.ok.hd hc) ho (by simpa using refs_are rv) keys few (by omega) fin
/-- len of such a set -/
theorem cr_lenN : CallR X (.builtin "len") (fun xs H Q => ∃ a n, xs = [.ref a] ∧ H a = some (setN a n) ∧ Q (.int n) H) := by
  rintro pins s σ H xs us Q I rel ⟨a, n, rfl, ha, q⟩
  obtain ⟨u, rfl, ru⟩ := vals1 rel
  obtain rfl : u = Value.ref a := ru
  obtain ⟨few, o, es, ep, t, ho, ex, hd, fits, sz⟩ := (show ObjOk X.prog X.w H s.heap a (setN a n) from I.hok a _ ha).1
  exact PySem.call_len_set ho ex hd fits (by omega) ⟨.int n, H, I.tok _, ⟨_, by rw [sz]⟩, q⟩
end
end LN

namespace LN
open PySem PySem.Spec PyProof.Rows L2
/-- isinstance(x, T), T any tuple of classes that may be read -/
def rIsMany (K : PySem.W.Frag) : List V → Hp → VK → Prop := fun xs H Q => ∃ (x : V) (tp : Addr) (cs : List V) (t : Value) (us : List Value) (b : Bool), xs = [x, .ref tp] ∧ SqT K H tp cs ∧ Paired ClsV cs us ∧ TyX K H x t ∧ PySem.W.kitAny K t us = some b ∧ Q (.bl b) H
theorem cls_all {cs : List V} {us : List Value} (h : Paired ClsV cs us) : ∀ {ws : List Value}, Vals cs ws → ws = us := by
  induction h with
  | nil => intro ws r; cases r; rfl
  | cons c _ ih =>
    intro ws r
    cases r with
    | cons r1 r2 =>
      rw [ih r2]
      cases c <;> cases r1 <;> rfl
theorem cr_isMany {X : Cx} : CallR X (.builtin "isinstance") (rIsMany X.K) := by
  rintro pins s σ H xs us Q inv rel ⟨x, tp, cs, t, ws, b, rfl, there, cls, ty, e, q⟩
  obtain ⟨u1, u2, rfl, r1, r2⟩ := vals2 rel
  obtain rfl : u2 = Value.ref tp := r2
  obtain ⟨its, rv, ⟨⟨oc, od, dt, sl⟩, at_, c1, n, c2⟩, _⟩ := inv.tuple there
  have same := cls_all cls rv
  subst same
  simp only at c1 c2
  subst c1 c2
  obtain ⟨P, Z, p, hx⟩ := kit_of inv r1 ty
  exact PySem.W.kia_tup Z inv.kIn p at_ e hx fun tk => ⟨.bl b, H, inv.tok tk, rfl, q⟩
/-- a name that is_full says yes to, of at most so many labels -/
structure FullN (m : Nat) (n : List Str) : Prop where
  some_ : n ≠ []
  few : n.length ≤ m
  labs : ∀ x ∈ n, kLabel (.str x) = true
end LN

namespace LN
open PySem PySem.Spec PyProof.Rows L2
def byLen (x y : Addr × List Str) : Bool := decide (x.2.length ≤ y.2.length)
def tSortLen (K : PySem.W.Frag) (ta : TA) : TE := fun σ H Q => ta σ H fun vs G => ∃ (a : Addr) (ks : List (Addr × List Str)), vs = [.ref a] ∧ SqL K G a (ks.map fun p => V.ref p.1) ∧ (∀ p ∈ ks, SqT K G p.1 (p.2.map V.str)) ∧ ks.length ≤ 1000 ∧ ∀ p, G p = none → Q (.ref p) (upd G p (.lst ((ks.mergeSort byLen).map fun q => V.ref q.1)))
section
variable {X : Cx} {e : Expr} {es : List Expr} {ta : TA} {p q kp pos : Pos}
theorem each_of {ks : List (Addr × List Str)} : PySem.W.EachIs (fun (v : Value) (b : Addr × List Str) => v = .ref b.1) (ks.map fun p => Value.ref p.1) ks := by
  induction ks with
  | nil => exact .nil
  | cons b l ih => exact .cons rfl ih
theorem of_each : ∀ {out : List Value} {ks : List (Addr × List Str)}, PySem.W.EachIs (fun (v : Value) (b : Addr × List Str) => v = .ref b.1) out ks → out = ks.map fun p => Value.ref p.1
  | _, _, .nil => rfl
  | _, _, .cons h t => by rw [List.map_cons, ← of_each t, h]
theorem vals_refs : ∀ (ks : List (Addr × List Str)), Vals (ks.map fun p => V.ref p.1) (ks.map fun p => Value.ref p.1)
  | [] => .nil
  | p :: ks => .cons rfl (vals_refs ks)
theorem pe_sortedLen (ha : PA X (e :: es) ta) (hm : X.mg "sorted" = none) (hl : X.mg "len" = none) (few : X.A.units + 70 < cLine) (hg : Gl X "sorted" := by rfl) (hgl : Gl X "len" := by rfl)
    (he : backTo pos (starEach (e :: es) X.env) = (false, eval e X.env) :: backTo pos (starEach es X.env) := by rfl) (hpl : (backTo pos (starEach (e :: es) X.env)).any (·.1) = false := by rfl) :
    PE X (.Call (.Name "sorted" p) (e :: es) [⟨some "key", .Name "len" q, kp⟩] pos) (tSortLen X.K ta) := by
  constructor
  intro pins s σ H Q I h
  refine wpAny_Call_Name_kw (ld_blt I hg hm (u := .builtin "sorted") (by decide +kernel) ?_ (by decide) (by decide))
  refine PyProof.Rows.callWith_kw (thn (ha.run pos pins s σ H _ I h) fun us s1 ⟨vs, G, J, r1, want⟩ => ?_) he hpl (by rfl) (by rfl)
  show wpAny _ _ (evalAll [(do let v ← eval (.Name "len" q) X.env; standAt pos; pure v)]) _ _ s1
  refine wpAny_evalAll_cons (wpAny_bind (ld_blt J hgl hl PySem.boot_len (wpAny_bind (wpAny_standAt (wpAny_pure (wpAny_evalAll_nil ?_)))) (by decide) (by decide)))
  obtain ⟨a, ks, rfl, hs, names, hk, go⟩ := want
  obtain ⟨u, rfl, ru⟩ := vals1 r1
  obtain rfl : u = Value.ref a := ru
  obtain ⟨its, rv, pl, hz⟩ := J.list hs
  have eq := refs_are rv
  subst eq
  show wpAny _ _ (call (.builtin "sorted") [.ref a] [(Str.ofString "key", .builtin "len")]) _ _ s1
  refine PySem.W.sorted_key_data (b := false) (fun b : Addr × List Str => .int b.2.length) pl.isList each_of (PySem.W.AllAlike.of fun _ _ => by simp [PySem.W.alike]) (PySem.W.Sortable.others fun _ => ⟨by simp, by simp⟩) (by rw [sizeLine_eq]; omega) (fun b _ => ?_) (ksk_s1 _ _) (fun _ => ksk_l1 _ _) (fun _ => ksk_t4 _ _) ?_ ?_
  · have hd : (PyData.int b.2.length).depth = 0 := rfl
    omega
  · rintro v x rfl hx h tk kp
    obtain ⟨us, r2, ⟨o, ho, hc, n, hd⟩, sz⟩ := J.tuple (names x hx)
    have hlen := r2.length
    rw [List.length_map] at hlen
    have big := line63
    refine PyProof.Rows.len_tuple (items := us.toArray) ⟨o, kp _ _ ho, hc, n, hd⟩ (by rw [List.size_toArray]; rw [List.length_map] at sz; omega) ?_
    refine ⟨_, _, rfl, fun _ _ e => e, ?_⟩
    rw [List.size_toArray, ← hlen]
    exact .int _ _
  · intro out c h' tk on none_ at_ len each
    have le : PySem.W.dataLe false (fun b : Addr × List Str => PyData.int b.2.length) = byLen := by
      rw [PySem.W.dataLe_int (fun b : Addr × List Str => (b.2.length : Int))]
      funext x y
      exact decide_eq_decide.mpr (by omega)
    rw [le] at each
    have eo := of_each each
    subst eo
    have gone : G (s1.heap.objs.size + 1) = none := J.hok.fresh (Nat.le_succ _)
    have sz : ((ks.mergeSort byLen).map fun q => V.ref q.1).length ≤ sizeLine := by rw [List.length_map, List.length_mergeSort, sizeLine_eq]; omega
    refine ⟨.ref _, upd G (s1.heap.objs.size + 1) (.lst ((ks.mergeSort byLen).map fun q => V.ref q.1)), J.laid (t' := tk) on (Nat.le_succ _) ⟨sz, _, c, vals_refs _, at_⟩, rfl, go _ gone⟩
end
end LN

namespace LN
open PySem PySem.Spec PyProof.Rows L2
/-! strict orders in which any two that differ compare, and their lists -/
structure SLin {α : Type} (lt : α → α → Bool) : Prop where
  irr : ∀ x, lt x x = false
  tr : ∀ x y z, lt x y = true → lt y z = true → lt x z = true
  tri : ∀ x y, lt x y = false → lt y x = false → x = y
section
variable {α : Type} {lt : α → α → Bool}
theorem SLin.asym (L : SLin lt) {x y : α} (h : lt x y = true) : lt y x = false := by
  cases e : lt y x with
  | false => rfl
  | true =>
    have := L.tr _ _ _ h e
    rw [L.irr] at this
    cases this
theorem SLin.swo (L : SLin lt) : SrtO.Swo lt := by
  refine ⟨fun x y h => L.asym h, fun x y z h1 h2 => ?_⟩
  cases e : lt z x with
  | false => rfl
  | true =>
    cases e2 : lt y z with
    | true =>
      have := L.tr _ _ _ e2 e
      rw [h1] at this
      cases this
    | false =>
      have := L.tri _ _ h2 e2
      rw [this, h1] at e
      cases e
def lexO (lt : α → α → Bool) : List α → List α → Bool
  | _, [] => false
  | [], _ :: _ => true
  | x :: xs, y :: ys => lt x y || (!lt y x && lexO lt xs ys)
theorem lexO_cons {x y : α} {xs ys : List α} : lexO lt (x :: xs) (y :: ys) = true ↔ lt x y = true ∨ (lt y x = false ∧ lexO lt xs ys = true) := by
  show (lt x y || (!lt y x && lexO lt xs ys)) = true ↔ _
  cases lt x y <;> cases lt y x <;> simp
theorem SLin.lex (L : SLin lt) : SLin (lexO lt) := by
  refine ⟨fun l => ?_, fun l => ?_, fun l => ?_⟩
  · induction l with
    | nil => rfl
    | cons x xs ih =>
      show (lt x x || (!lt x x && lexO lt xs xs)) = false
      rw [L.irr, ih]
      rfl
  · induction l with
    | nil =>
      intro m k h1 h2
      cases m with
      | nil => cases h1
      | cons y ys =>
        cases k with
        | nil => cases h2
        | cons z zs => rfl
    | cons x xs ih =>
      intro m k h1 h2
      cases m with
      | nil => cases h1
      | cons y ys =>
        cases k with
        | nil => cases h2
        | cons z zs =>
          rw [lexO_cons] at h1 h2 ⊢
          rcases h1 with a | ⟨a1, a2⟩ <;> rcases h2 with c | ⟨c1, c2⟩
          · exact .inl (L.tr _ _ _ a c)
          · cases e : lt y z with
            | true => exact .inl (L.tr _ _ _ a e)
            | false =>
              have := L.tri _ _ e c1
              rw [← this]
              exact .inl a
          · cases e : lt x y with
            | true => exact .inl (L.tr _ _ _ e c)
            | false =>
              have := L.tri _ _ e a1
              rw [this]
              exact .inl c
          · cases e : lt x y with
            | true =>
              cases e2 : lt y z with
              | true => exact .inl (L.tr _ _ _ e e2)
              | false =>
                have := L.tri _ _ e2 c1
                rw [← this]
                exact .inl e
            | false =>
              have := L.tri _ _ e a1
              rw [this]
              exact .inr ⟨c1, ih _ _ a2 c2⟩
  · induction l with
    | nil =>
      intro m h1 h2
      cases m with
      | nil => rfl
      | cons y ys => cases h1
    | cons x xs ih =>
      intro m h1 h2
      cases m with
      | nil => cases h2
      | cons y ys =>
        have n1 : ¬ (lexO lt (x :: xs) (y :: ys) = true) := by rw [h1]; exact Bool.false_ne_true
        have n2 : ¬ (lexO lt (y :: ys) (x :: xs) = true) := by rw [h2]; exact Bool.false_ne_true
        rw [lexO_cons] at n1 n2
        have a : lt x y = false := by
          cases e : lt x y with
          | false => rfl
          | true => exact absurd (.inl e) n1
        have c : lt y x = false := by
          cases e : lt y x with
          | false => rfl
          | true => exact absurd (.inl e) n2
        have ex := L.tri _ _ a c
        have e1 : lexO lt xs ys = false := by
          cases e : lexO lt xs ys with
          | false => rfl
          | true => exact absurd (.inr ⟨c, e⟩) n1
        have e2 : lexO lt ys xs = false := by
          cases e : lexO lt ys xs with
          | false => rfl
          | true => exact absurd (.inr ⟨a, e⟩) n2
        rw [ex, ih _ e1 e2]
theorem SLin.of {β : Type} (L : SLin lt) (f : β → α) (inj : ∀ x y, f x = f y → x = y) : SLin fun x y => lt (f x) (f y) :=
  ⟨fun x => L.irr _, fun x y z => L.tr _ _ _, fun x y h1 h2 => inj x y (L.tri _ _ h1 h2)⟩
end
def natLt (a b : Nat) : Bool := decide (a < b)
theorem natLin : SLin natLt := by
  refine ⟨fun x => decide_eq_false (Nat.lt_irrefl x), fun x y z h1 h2 => decide_eq_true (Nat.lt_trans (of_decide_eq_true h1) (of_decide_eq_true h2)), fun x y h1 h2 => ?_⟩
  have a := of_decide_eq_false h1
  have b := of_decide_eq_false h2
  omega
theorem lexO_nat : ∀ l m : List Nat, decide (l < m) = lexO natLt l m
  | [], [] => rfl
  | [], b :: m => decide_eq_true (List.nil_lt_cons b m)
  | a :: l, [] => decide_eq_false (List.not_lt_nil _)
  | a :: l, b :: m => by
    have ih := lexO_nat l m
    have e : (a :: l < b :: m) ↔ (a < b ∨ (a = b ∧ l < m)) := List.cons_lt_cons_iff
    by_cases h : lexO natLt (a :: l) (b :: m) = true
    · rw [h]
      refine decide_eq_true (e.mpr ?_)
      rcases lexO_cons.mp h with z | ⟨z1, z2⟩
      · exact .inl (of_decide_eq_true z)
      · have nb : ¬ b < a := of_decide_eq_false z1
        rcases Nat.lt_or_ge a b with q | q
        · exact .inl q
        · exact .inr ⟨by omega, of_decide_eq_true (ih.trans z2)⟩
    · rw [Bool.eq_false_iff.mpr h]
      refine decide_eq_false fun z => h (lexO_cons.mpr ?_)
      rcases e.mp z with q | ⟨q1, q2⟩
      · exact .inl (decide_eq_true q)
      · exact .inr ⟨decide_eq_false (by omega), ih.symm.trans (decide_eq_true q2)⟩
/-- texts in their order -/
def strLt (x y : Str) : Bool := lexO natLt x.cps.toList y.cps.toList
theorem strLin : SLin strLt := natLin.lex.of (fun x : Str => x.cps.toList) fun x y h => by
  cases x; cases y
  exact congrArg Str.mk (Array.toList_inj.mp h)
theorem strLt_is (x y : Str) : decide (x.cps.toList < y.cps.toList) = strLt x y := lexO_nat _ _
/-- names in their order -/
def nameLt : List Str → List Str → Bool := lexO strLt
theorem nameLin : SLin nameLt := strLin.lex
theorem nameLt_ne {x y : Str} {n m : List Str} (h : x ≠ y) : nameLt (x :: n) (y :: m) = strLt x y := by
  show (strLt x y || (!strLt y x && lexO strLt n m)) = _
  cases e : strLt x y with
  | true => rfl
  | false =>
    cases e2 : strLt y x with
    | true => rfl
    | false => exact absurd (strLin.tri _ _ e e2) h
theorem nameLt_eq {x : Str} {n m : List Str} : nameLt (x :: n) (x :: m) = nameLt n m := by
  show (strLt x x || (!strLt x x && lexO strLt n m)) = _
  rw [strLin.irr]
  rfl
end LN
namespace LN
open PySem PySem.Spec PyProof.Rows L2
/-! sorted(names): tuples of texts, none of them empty -/
section
variable {prog : Program} {w : World} {A : Around} {E : Value → Shared → Prop} {s : Shared}
/-- the tuple of these texts -/
def TupTxt (h : Heap) (v : Value) (n : List Str) : Prop := ∃ (a : Addr) (o : Obj) (its : List Value) (c : Nat), v = .ref a ∧ h.get? a = some o ∧ o.cls = .type "tuple" ∧ o.data = .seq its.toArray c ∧ Vals (n.map V.str) its ∧ n ≠ []
theorem TupTxt.keeps {h h' : Heap} {v : Value} {n : List Str} (x : TupTxt h v n) (k : ∀ b o, h.get? b = some o → o.cls = .type "tuple" → h'.get? b = some o) : TupTxt h' v n := by
  obtain ⟨a, o, its, c, e, ho, hc, r⟩ := x
  exact ⟨a, o, its, c, e, k a o ho hc, hc, r⟩
theorem lex_txt {Q : Bool → Shared → Prop} {fin : Bool} : ∀ (n m : List Str) (xs ys : List Value) (i : Nat), Vals (n.map V.str) xs → Vals (m.map V.str) ys → fin = decide (xs.length < ys.length) → Q (nameLt n m) s → PySem.W.KatLex prog w A true fin Q (xs.zip ys) i s
  | [], [], _, _, i, .nil, .nil, hf, q => PySem.W.kat_nil (by rw [hf]; exact q)
  | [], y :: m, _, _, i, .nil, .cons _ r, hf, q => PySem.W.kat_nil (by rw [hf]; exact q)
  | x :: n, [], _, _, i, .cons _ r, .nil, hf, q => PySem.W.kat_nil (by rw [hf]; exact q)
  | x :: n, y :: m, _, _, i, .cons (l₂ := xs) hx rx, .cons (l₂ := ys) hy ry, hf, q => by
    obtain ⟨t, rfl⟩ := hx
    obtain ⟨u, rfl⟩ := hy
    refine PySem.W.kat_cons (SeqAt.EqAt.str_str x t y u prog w _ _ ?_)
    refine PySem.W.kat_go (fun e1 => ?_) (fun e1 => ?_)
    · have ex : x = y := by simpa using e1
      subst ex
      rw [nameLt_eq] at q
      refine PySem.W.kat_yes (lex_txt n m _ _ (i + 1) rx ry ?_ q)
      rw [hf]
      exact decide_eq_decide.mpr ⟨fun h => Nat.lt_of_succ_lt_succ h, fun h => Nat.succ_lt_succ h⟩
    · have ex : x ≠ y := by simpa using e1
      rw [nameLt_ne ex, ← strLt_is] at q
      refine PySem.W.kat_no ?_
      cases i with
      | zero => exact oneLt_str q
      | succ i => exact PySem.W.kat_one _ _ (PyProof.Rows.lt_str q)
theorem cmp_txt {vs : List Value} {k : Value → List Str} (hp : ∀ v ∈ vs, TupTxt s.heap v (k v)) : SrtO.Cmp prog w A s (tuples' true) (fun p => p.1 ∈ vs) (SrtO.lt2 fun v u => nameLt (k v) (k u)) := by
  intro p q hm hm'
  have h1 := hp _ hm
  have h2 := hp _ hm'
  show wpAny (model prog w) A (keyLt' (tuples' true) p.1 q.1) (fun r s' => s' = s ∧ r = nameLt (k p.1) (k q.1)) (fun _ _ => False) s
  obtain ⟨a, o, its, c, e, ho, hc, hd, hv, _⟩ := h1
  obtain ⟨a', o', its', c', e', ho', hc', hd', hv', _⟩ := h2
  generalize k p.1 = n at *
  generalize k q.1 = m at *
  rw [e, e']
  refine PySem.W.kat_lt ho hd ho' hd' ?_
  exact lex_txt n m its its' 0 hv hv' (by rw [List.size_toArray, List.size_toArray]) ⟨rfl, rfl⟩
end
end LN
namespace LN
open PySem PySem.Spec PyProof.Rows L2
section
variable {prog : Program} {w : World} {A : Around} {E : Value → Shared → Prop} {s : Shared}
theorem heads_txt {h : Heap} {k : Value → List Str} : ∀ vs : List Value, (∀ v ∈ vs, TupTxt h v (k v)) → ∃ fs, PySem.W.KatTups h vs fs ∧ fs.length = vs.length ∧ ∀ f ∈ fs, ∃ x t, f = Value.str x t
  | [], _ => ⟨[], PySem.W.KatTups.nil, rfl, fun f hf => absurd hf List.not_mem_nil⟩
  | v :: vs, hp => by
    obtain ⟨fs, kt, len, all⟩ := heads_txt vs fun u hu => hp u (List.mem_cons_of_mem _ hu)
    obtain ⟨a, o, its, c, rfl, ho, hc, hd, hv, ne⟩ := hp v List.mem_cons_self
    generalize k (.ref a) = n at hv ne
    match n, its, hv, ne with
    | x :: n, _, .cons hx _, _ =>
      obtain ⟨t, rfl⟩ := hx
      refine ⟨.str x t :: fs, PySem.W.KatTups.cons ho hc hd rfl kt, by rw [List.length_cons, List.length_cons, len], fun f hf => ?_⟩
      rcases List.mem_cons.mp hf with rfl | hf
      · exact ⟨x, t, rfl⟩
      · exact all f hf
theorem sortable_txt {a : Addr} {vs : List Value} {k : Value → List Str} (pos : 0 < vs.length) (hp : ∀ v ∈ vs, TupTxt s.heap v (k v)) (ha : ∀ o, s.heap.get? a = some o → o.cls ≠ .type "tuple") : SrtO.SortableO prog w A s a vs fun v u => nameLt (k v) (k u) := by
  intro h' keep
  have hp' : ∀ v ∈ vs, TupTxt h' v (k v) := fun v hm => (hp v hm).keeps fun b o e c => keep b o (fun z => ha o (z ▸ e) c) e
  obtain ⟨fs, h1, h2, h3⟩ := heads_txt vs hp'
  refine ⟨tuples' true, fun Q E hq => ?_, cmp_txt (s := { s with heap := h' }) hp'⟩
  refine PySem.W.kat_kind (T := .type "str") h1 (by omega) (fun f hm => ?_) (by rfl) ?_
  · obtain ⟨x, t, rfl⟩ := h3 f hm
    exact PySem.W.Looks.now
  · have e : (Value.type "str" != Value.type "tuple") = true := by decide +kernel
    rw [e]
    exact hq
end
/-- sorted(names), names a list of tuples of texts, none empty: a new list in their order -/
def rSortedN (K : PySem.W.Frag) : List V → Hp → VK → Prop := fun vs H Q => ∃ (a : Addr) (xs : List V) (k : V → List Str), vs = [V.ref a] ∧ SqL K H a xs ∧ (∀ x ∈ xs, ∃ t, x = V.ref t ∧ Nm K H t (k x) ∧ k x ≠ []) ∧
  ∀ ys p, ys.Pairwise (fun x y => nameLt (k y) (k x) = false) → ys.Perm xs → H p = none → Q (.ref p) (upd H p (.lst ys))
theorem cr_sortedN {X : Cx} : CallR X (.builtin "sorted") (rSortedN X.K) := by
  intro pins s σ H vs us Q I r h
  obtain ⟨a, xs, k, rfl, hs, hx, q⟩ := h
  obtain ⟨its, rv, hl, hz⟩ := I.list hs
  obtain ⟨u, rfl, ru⟩ := vals1 r
  obtain rfl : u = Value.ref a := ru
  obtain ⟨e1, e2⟩ := refs_back rv fun x m => by
    obtain ⟨t, e, _⟩ := hx x m
    exact ⟨t, e⟩
  have hp : ∀ v ∈ its, TupTxt s.heap v (k (backV v)) := fun v hv => by
    obtain ⟨t, rfl⟩ := e2 v hv
    obtain ⟨t', e, ht, ne⟩ := hx (V.ref t) (by rw [e1]; exact List.mem_map.mpr ⟨_, hv, rfl⟩)
    cases e
    obtain ⟨us, r1, ⟨o, ho, hc, c, hd⟩, _⟩ := I.tuple ht
    exact ⟨t, o, us, c, rfl, ho, hc, hd, r1, ne⟩
  have O : SrtO.Swo fun v u : Value => nameLt (k (backV v)) (k (backV u)) := ⟨fun x y => nameLin.swo.asym _ _, fun x y z => nameLin.swo.tr _ _ _⟩
  refine SrtO.sorted_ord O hl.isList (by rw [← rv.length]; exact hz) (fun h2 h1 a' ha kk => ?_) fun out srt stb => ?_
  · refine sortable_txt (s := { s with heap := h1 }) (k := fun v => k (backV v)) (by omega) (fun v hm => (hp v hm).keeps fun b o e _ => (kk b o e).2) fun o e c => ?_
    rw [show h1.get? a' = some o from e] at ha
    cases ha
    exact absurd (Value.type.inj c) (by decide)
  · have refs : ∀ u ∈ out, ∃ a, u = Value.ref a := fun u hu => e2 u (stb.perm.mem_iff.mp hu)
    obtain ⟨n, hn⟩ := sortedAll_at s.heap its out.toArray
    have pm : (out.map backV).Perm xs := by
      rw [e1]
      exact stb.perm.map backV
    refine ⟨.ref (s.heap.objs.size + 1), upd H (s.heap.objs.size + 1) (.lst (out.map backV)), I.laid (t' := s.toks) (fun b o e => sortedAll_old e) (Nat.le_succ _) ⟨?_, out, n, vals_back refs, hn⟩, rfl, q _ _ (List.pairwise_map.mpr srt) pm (I.hok.fresh (Nat.le_succ _))⟩
    rw [pm.length_eq]
    exact hz
end LN

namespace LN
open PySem PySem.Spec PyProof.Rows L2
def upToV (n : Nat) : List V := (List.range n).map fun i => V.int (i : Nat)
theorem vals_at : ∀ {vs : List V} {us : List Value}, vs.length = us.length → (∀ (i : Nat) v u, vs[i]? = some v → us[i]? = some u → RelV v u) → Vals vs us
  | [], [], _, _ => .nil
  | [], _ :: _, e, _ => nomatch e
  | _ :: _, [], e, _ => nomatch e
  | v :: vs, u :: us, e, h => .cons (h 0 v u rfl rfl) (vals_at (Nat.succ.inj e) fun i v' u' a b => h (i + 1) v' u' (by simpa using a) (by simpa using b))
section
variable {X : Cx}
/-- range(n) as a value -/
theorem cr_range1 : CallR X (.type "range") (fun vs H Q => ∃ i, vs = [V.int i] ∧ ∀ p, H p = none → Q (.ref p) (upd H p (.rng 0 i))) := by
  rintro pins s σ H vs us Q I r ⟨i, rfl, q⟩
  obtain ⟨u, rfl, t, rfl⟩ := vals1 r
  refine call_range_1 ⟨.ref s.heap.objs.size, upd H s.heap.objs.size (.rng 0 i), I.laid (t' := _) (fun b o e => Heap.get?_push_of_some _ e) (Nat.le_refl _) ?_, rfl, q _ I.fresh⟩
  exact ⟨_, _, _, Heap.get?_push_size _ rfl⟩
/-- list(range(n)) -/
theorem cr_listRange (hc : X.calm = true) : CallR X (.type "list") (fun vs H Q => ∃ r n, vs = [V.ref r] ∧ H r = some (.rng 0 (n : Nat)) ∧ n ≤ 1000 ∧ ∀ p, H p = none → Q (.ref p) (upd H p (.lst (upToV n)))) := by
  rintro pins s σ H vs us Q I rel ⟨r, n, rfl, er, few, q⟩
  obtain ⟨u, rfl, ru⟩ := vals1 rel
  obtain rfl : u = Value.ref r := ru
  obtain ⟨t, u, v, ho⟩ := (show ObjOk X.prog X.w H s.heap r (.rng 0 (n : Nat)) from I.hok r _ er)
  refine call_list_range (n := n) (I.ok.hd hc) ho ?_ ?_ (by omega) ?_
  · have size : Builtin.Range.rangeSize 0 (n : Nat) 1 = (n : Nat) := by
      unfold Builtin.Range.rangeSize
      rw [if_pos (by decide)]
      split
      · omega
      · omega
    have fits : ∀ z : Int, 0 ≤ z → z ≤ 1000 → Builtin.Range.rangeFitsLong z = true := fun z h1 h2 => by
      unfold Builtin.Range.rangeFitsLong
      simp only [Bool.and_eq_true, decide_eq_true_eq]
      omega
    unfold Builtin.Range.small
    rw [size, fits 0 (by decide) (by decide), fits n (by omega) (by omega), fits 1 (by decide) (by decide), if_pos (by decide), fits (n + (1 - 1)) (by omega) (by omega)]
    simp
  · unfold Builtin.Range.rangeSize
    rw [if_pos (by decide)]
    split
    · omega
    · omega
  · intro h' tk acc c' on at_ its
    obtain ⟨sz, each⟩ := its
    have vals : Vals (upToV n) acc.toList := by
      refine vals_at (by rw [upToV, List.length_map, List.length_range, Array.length_toList, sz]) fun i v w h1 h2 => ?_
      unfold upToV at h1
      rw [List.getElem?_map] at h1
      obtain ⟨k, hk, rfl⟩ := Option.map_eq_some_iff.mp h1
      rw [List.getElem?_range (by have := (List.getElem?_eq_some_iff.mp hk).1; rw [List.length_range] at this; exact this)] at hk
      cases hk
      rw [Array.getElem?_toList] at h2
      obtain ⟨t', e⟩ := each i w h2
      exact ⟨t', by rw [e]; congr 1; omega⟩
    have lim : (upToV n).length ≤ sizeLine := by rw [upToV, List.length_map, List.length_range, sizeLine_eq]; omega
    refine ⟨.ref s.heap.objs.size, _, I.laid (t' := tk) on (Nat.le_refl _) (show ObjOk X.prog X.w _ h' _ (.lst (upToV n)) from ⟨lim, acc.toList, c', vals, by simpa using at_⟩), rfl, q _ I.fresh⟩
end
end LN

namespace LN
open PySem PySem.Spec PyProof.Rows L2
/-- (address of the pair, address of the name, the name) -/
abbrev PairN := Addr × Addr × List Str
def encP (p : PairN) : PyData := .tuple [.int p.2.2.length, nameD p.2.2]
theorem alike_strs : ∀ (a b : List Str), PySem.W.alikeAll (a.map PyData.str) (b.map PyData.str) = true
  | [], _ => by simp [PySem.W.alikeAll]
  | _ :: _, [] => by simp [PySem.W.alikeAll]
  | x :: a, y :: b => by
    have := alike_strs a b
    simp [PySem.W.alikeAll, PySem.W.alike, this]
theorem le_pairs {p q : PairN} (h : p.2.2.length = q.2.2.length → p.2.2 = q.2.2) : PySem.W.dataLe false encP p q = decide (p.2.2.length ≤ q.2.2.length) := by
  rw [PySem.W.dataLe_eq]
  show (!PySem.W.dataLt (encP q) (encP p)) = _
  unfold encP
  rw [PySem.W.dataLt_pair (by simp [PySem.W.alike]) (by simp [nameD, PySem.W.alike, alike_strs])]
  have ei : ∀ x y : Int, PyData.eqv (.int x) (.int y) = decide (x = y) := fun x y => by
    by_cases z : x = y
    · subst z
      rw [decide_eq_true rfl]
      exact SeqAt.eqv_refl (.int x) rfl
    · rw [decide_eq_false z]
      simp [PyData.eqv, z]
  rw [ei, eqv_name, PySem.W.dataLt_int]
  by_cases e : p.2.2.length = q.2.2.length
  · rw [decide_eq_true (show ((q.2.2.length : Nat) : Int) = (p.2.2.length : Nat) by omega), if_pos rfl, decide_eq_true (h e).symm, if_pos rfl, decide_eq_true (show p.2.2.length ≤ q.2.2.length by omega)]
    rfl
  · rw [decide_eq_false (show ¬ ((q.2.2.length : Nat) : Int) = (p.2.2.length : Nat) by omega), if_neg Bool.false_ne_true]
    by_cases le : p.2.2.length ≤ q.2.2.length
    · rw [decide_eq_true le, decide_eq_false (show ¬ ((q.2.2.length : Nat) : Int) < (p.2.2.length : Nat) by omega)]
      rfl
    · rw [decide_eq_false le, decide_eq_true (show ((q.2.2.length : Nat) : Int) < (p.2.2.length : Nat) by omega)]
      rfl
theorem each_pair {ps : List PairN} : PySem.W.EachIs (fun (v : Value) (b : PairN) => v = .ref b.1) (ps.map fun p => Value.ref p.1) ps := by
  induction ps with
  | nil => exact .nil
  | cons b l ih => exact .cons rfl ih
theorem of_pairs : ∀ {out : List Value} {ps : List PairN}, PySem.W.EachIs (fun (v : Value) (b : PairN) => v = .ref b.1) out ps → out = ps.map fun p => Value.ref p.1
  | _, _, .nil => rfl
  | _, _, .cons h t => by rw [List.map_cons, ← of_pairs t, h]
theorem vals_pairs : ∀ (ps : List PairN), Vals (ps.map fun p => V.ref p.1) (ps.map fun p => Value.ref p.1)
  | [] => .nil
  | p :: ps => .cons rfl (vals_pairs ps)
theorem each_reads {φ : Value → PairN → Prop} : ∀ {ps : List PairN}, (∀ p ∈ ps, φ (.ref p.1) p) → PySem.W.EachIs φ (ps.map fun p => Value.ref p.1) ps
  | [], _ => .nil
  | p :: ps, h => .cons (h p List.mem_cons_self) (each_reads fun q hq => h q (List.mem_cons_of_mem _ hq))
def rSortP (K : PySem.W.Frag) : List V → Hp → VK → Prop := fun vs H Q => ∃ (a : Addr) (ps : List PairN), vs = [V.ref a] ∧ SqL K H a (ps.map fun p => V.ref p.1) ∧ (∀ p ∈ ps, SqT K H p.1 [.int (p.2.2.length : Nat), .ref p.2.1] ∧ Nm K H p.2.1 p.2.2) ∧ (∀ p ∈ ps, ∀ q ∈ ps, p.2.2.length = q.2.2.length → p.2.2 = q.2.2) ∧ ps.length ≤ 100 ∧
  ∀ (q : Addr) (ps' : List PairN), H q = none → (∀ p ∈ ps', p ∈ ps) → ps'.map (fun p : PairN => p.2.2) = (ps.map fun p : PairN => p.2.2).mergeSort (fun x y => decide (x.length ≤ y.length)) → Q (.ref q) (upd H q (.lst (ps'.map fun p : PairN => V.ref p.1)))
theorem cr_sortP {X : Cx} (hu : X.A.units + 70 < cLine) : CallR X (.builtin "sorted") (rSortP X.K) := by
  rintro pins s σ H vs us Q I rel ⟨a, ps, rfl, hs, facts, dist, few, q⟩
  obtain ⟨u, rfl, ru⟩ := vals1 rel
  obtain rfl : u = Value.ref a := ru
  obtain ⟨its, rv, pl, hz⟩ := I.list hs
  have eq : its = ps.map fun p => Value.ref p.1 := by
    have gen : ∀ (ps : List PairN) (us : List Value), Vals (ps.map fun p => V.ref p.1) us → us = ps.map fun p => Value.ref p.1 := by
      intro ps
      induction ps with
      | nil => intro us r; cases r; rfl
      | cons p l ih =>
        intro us r
        cases r with
        | cons h t =>
          cases (show _ = Value.ref p.1 from h)
          rw [List.map_cons, ← ih _ t]
    exact gen ps its rv
  subst eq
  have reads : ∀ p ∈ ps, ∃ as, Reads s.heap (.ref p.1) (encP p) as := fun p hp => Dp.reads I (encP p) (.ref p.1) (.ref p.1) (.tup (facts p hp).1 (.cons (.int _) (.cons (nm_dp (facts p hp).2) .nil))) rfl
  refine PySem.W.sorted_data (enc := encP) pl.isList each_pair (each_reads reads) (PySem.W.AllAlike.of fun p q => ?_) (PySem.W.Sortable.tuples fun _ => ⟨_, _, rfl⟩) (by rw [sizeLine_eq]; omega) (fun b _ => ?_) fun out len each => ?_
  · simp [encP, PySem.W.alike, PySem.W.alikeAll, nameD, alike_strs]
  · have hd : (encP b).depth ≤ 3 := by
      have d0 : PyData.depthAll (b.2.2.map PyData.str) ≤ 0 := all_deep fun d hd => by
        obtain ⟨x, _, rfl⟩ := List.mem_map.mp hd
        exact Nat.le_refl _
      show PyData.depthAll [.int _, nameD b.2.2] + 1 ≤ 3
      refine Nat.succ_le_succ (all_deep fun d hd => ?_)
      rcases List.mem_cons.mp hd with e | e
      · rw [e]
        exact Nat.zero_le _
      · rw [List.mem_singleton.mp e]
        exact Nat.succ_le_succ (Nat.le_trans d0 (by decide))
    omega
  · have eo := of_pairs each
    subst eo
    obtain ⟨ep, he'⟩ := PyProof.Rows.sortedAll_at s.heap (ps.map fun p => Value.ref p.1) ((ps.mergeSort (PySem.W.dataLe false encP)).map fun p => Value.ref p.1).toArray
    have gone : H (s.heap.objs.size + 1) = none := I.hok.fresh (Nat.le_succ _)
    have sz : ((ps.mergeSort (PySem.W.dataLe false encP)).map fun p => V.ref p.1).length ≤ sizeLine := by rw [List.length_map, List.length_mergeSort, sizeLine_eq]; omega
    refine ⟨.ref _, upd H (s.heap.objs.size + 1) (.lst ((ps.mergeSort (PySem.W.dataLe false encP)).map fun p => V.ref p.1)), I.laid (t' := s.toks) (fun _ _ => PyProof.Rows.sortedAll_old) (Nat.le_succ _) ⟨sz, _, ep, vals_pairs _, he'⟩, rfl, q _ _ gone (fun p hp => List.mem_mergeSort.mp hp) ?_⟩
    exact List.map_mergeSort (fun p hp q hq => le_pairs (dist p hp q hq))
theorem kbn_of {K : PySem.W.Frag} {fd : FuncData} {ps ks : List Str} {n : Nat} (h : ∀ (s : Shared) (us ws : List Value), us.length = n → ws.length = ks.length → BindsTo s fd ⟨us, ks.zip ws⟩ (ps.zip (us ++ ws))) : KBn K fd ps n ks (fun us ws => us ++ ws) (fun vs zs => vs ++ zs) :=
  ⟨fun s us ws _ l1 l2 => h s us ws l1 l2, fun r1 r2 => r1.append r2⟩
end LN

namespace LN
open PySem PySem.Spec PyProof.Rows L2
/-! the first labels in their order -/
def lets : List Nat := (List.range 26).map (· + 97)
def txt (l : List Nat) : Str := ⟨l.toArray⟩
def aN (k : Nat) : List Nat := List.replicate k 97
def firstsN : List (List Nat) := (List.range 8).map (fun k => aN (k + 1)) ++ (lets.drop 1).map (fun c => aN 7 ++ [c]) ++ ((lets.drop 1).map fun c => (aN 6 ++ [c]) :: lets.map fun d => aN 6 ++ [c, d]).flatten
def firsts : List Str := (firstsN.take 200).map txt
def alpha : Str := "abcdefghijklmnopqrstuvwxyz"
def stepOk (x y : Str) : Bool :=
  if x.length < 8 then decide (x ++ ("a" : Str) = y) else
    decide ((Txt.rstripChars x ("z" : Str)).length ≤ 8) && match atI (Txt.rstripChars x ("z" : Str)).cps.toList (-1) with
    | none => false
    | some c => match Builtin.Str.occurrences alpha ⟨#[c]⟩ 0 alpha.length 1 with
      | [] => false
      | i :: _ => match atI alpha.cps.toList ((i : Int) + 1) with
        | none => false
        | some e => decide (cutS (Txt.rstripChars x ("z" : Str)) none (some (-1)) ++ ⟨#[e]⟩ = y)
theorem firsts_len : firsts.length = 200 := by decide +kernel
theorem firsts_nodup : firsts.Nodup := by decide +kernel
theorem firsts_ok : ∀ x ∈ firsts, PyData.strOk x = true ∧ 1 ≤ x.length ∧ x.length ≤ 8 := by decide +kernel
theorem firsts_step : ∀ i, i < 199 → stepOk (firsts.getD i ("" : Str)) (firsts.getD (i + 1) ("" : Str)) = true := by decide +kernel
end LN

namespace LN
open PySem PySem.Spec PyProof.Rows L2
theorem nodup_le {α : Type} [DecidableEq α] : ∀ (l m : List α), l.Nodup → (∀ x ∈ l, x ∈ m) → l.length ≤ m.length
  | [], _, _, _ => Nat.zero_le _
  | x :: l, m, h, sub => by
    obtain ⟨hx, hl⟩ := List.nodup_cons.mp h
    have mx := sub x List.mem_cons_self
    have ih := nodup_le l (m.erase x) hl fun y hy => (List.mem_erase_of_ne (fun (e : y = x) => hx (by rw [← e]; exact hy))).mpr (sub y (List.mem_cons_of_mem _ hy))
    rw [List.length_erase_of_mem mx] at ih
    have pos : 0 < m.length := List.length_pos_of_mem mx
    simp only [List.length_cons]
    omega
/-- the first of the first labels that are not there -/
def leastOf (there : Str → Bool) : Option Str := firsts.find? fun x => !there x
theorem least_at {there : Str → Bool} {i : Nat} {x : Str} (h : firsts[i]? = some x) (no : there x = false) (before : ∀ j y, j < i → firsts[j]? = some y → there y = true) : leastOf there = some x := by
  unfold leastOf
  have lt := (List.getElem?_eq_some_iff.mp h).1
  have e : firsts = firsts.take i ++ x :: firsts.drop (i + 1) := by
    rw [← (List.getElem?_eq_some_iff.mp h).2]
    rw [List.getElem_cons_drop lt, List.take_append_drop]
  rw [e, List.find?_append]
  have none_ : (firsts.take i).find? (fun x => !there x) = none := by
    rw [List.find?_eq_none]
    intro y hy
    obtain ⟨j, hj, rfl⟩ := List.mem_iff_getElem.mp hy
    rw [List.length_take] at hj
    rw [List.getElem_take, before j _ (by omega) (List.getElem?_eq_getElem (by omega))]
    decide
  rw [none_, Option.none_or, List.find?_cons, no]
  rfl
/-- few things are there: one of the first labels is not -/
theorem few_there {there : Str → Bool} {keys : List Str} (h : ∀ x, there x = true → x ∈ keys) {i : Nat} (hi : i ≤ 200) (before : ∀ j y, j < i → firsts[j]? = some y → there y = true) : i ≤ keys.length := by
  have z := nodup_le (firsts.take i) keys (List.Sublist.nodup (List.take_sublist _ _) firsts_nodup) fun x hx => by
    obtain ⟨j, hj, rfl⟩ := List.mem_iff_getElem.mp hx
    rw [List.length_take] at hj
    rw [List.getElem_take]
    exact h _ (before j _ (by omega) (List.getElem?_eq_getElem (by omega)))
  rw [List.length_take, firsts_len] at z
  omega
theorem firsts_getD {i : Nat} {x : Str} (h : firsts[i]? = some x) : firsts.getD i ("" : Str) = x := by
  rw [List.getD_eq_getElem?_getD, h]
  rfl
def spBehind : Sp := fun vs H Q _ => ∃ (i : Nat) (x y : Str), vs = [.str x] ∧ firsts[i]? = some x ∧ firsts[i + 1]? = some y ∧ Q (.str y) H
def inK (kvs : List (L2.Key × V)) (x : Str) : Bool := (valV kvs (Sum.inr x)).isSome
def spBeyond : Sp := fun vs H Q _ => ∃ (a : Addr) (kvs : List (L2.Key × V)), vs = [.ref a] ∧ H a = some (.dK kvs) ∧ kvs.length ≤ 150 ∧ ∀ x, leastOf (inK kvs) = some x → Q (.str x) H
end LN
namespace LN
open PySem PySem.Spec PyProof.Rows L2
def keyS : L2.Key × V → Option Str
  | (.inr x, _) => some x
  | _ => none
theorem inK_key {kvs : List (L2.Key × V)} {x : Str} (h : inK kvs x = true) : x ∈ kvs.filterMap keyS := by
  unfold inK at h
  cases e : valV kvs (Sum.inr x) with
  | none => rw [e] at h; cases h
  | some v =>
    obtain ⟨p, hp, ep⟩ := List.mem_map.mp (valV_in e)
    obtain ⟨k, y⟩ := p
    obtain rfl : k = Sum.inr x := ep
    exact List.mem_filterMap.mpr ⟨_, hp, rfl⟩
theorem few_keys {kvs : List (L2.Key × V)} {i : Nat} (hi : i ≤ 200) (before : ∀ j y, j < i → firsts[j]? = some y → inK kvs y = true) : i ≤ kvs.length :=
  Nat.le_trans (few_there (fun _ h => inK_key h) hi before) (List.length_filterMap_le _ _)
theorem first_first : firsts[0]? = some ("a" : Str) := by decide +kernel
end LN
namespace LN
open PySem PySem.Spec PyProof.Rows L2
theorem turns_it {J : It} {n : Nat} {G : Hp → Prop} {Y : Nat → Hp → V → Hp → Prop} (w : Walk J n G Y) {H1 : Hp} {stopped : Hp → Prop} {turn : V → Hp → (Hp → Prop) → Prop} (Pv : Nat → Hp → Prop) (h0 : Pv 0 H1) (hG : ∀ i H, i ≤ n → Pv i H → G H)
    (hs : ∀ i x H H', i < n → Pv i H → Y i H x H' → turn x H' (Pv (i + 1))) (hd : ∀ H, Pv n H → stopped H) : ∃ W : Nat → Nat → Hp → Prop, (∃ m, W 0 m H1) ∧ Turns J W stopped turn := by
  refine ⟨fun i m H => m = n - i ∧ i ≤ n ∧ Pv i H, ⟨n, (Nat.sub_zero n).symm, Nat.zero_le n, h0⟩, fun i m H h => ?_⟩
  obtain ⟨em, hi, p⟩ := h
  rcases Nat.lt_or_ge i n with lt | ge
  · exact .inr ⟨w.goes i H lt (hG i H hi p), Pv (i + 1), fun H' p' => ⟨n - (i + 1), by omega, rfl, lt, p'⟩, fun x H' y => hs i x H H' lt p (w.yields i H x H' lt (hG i H hi p) y)⟩
  · have e : i = n := Nat.le_antisymm hi ge
    rw [e] at p
    rw [e]
    exact .inl ⟨w.stops H (hG n H (Nat.le_refl n) p), hd H p⟩
theorem inK_put (kvs : List (L2.Key × V)) (x y : Str) (v : V) : inK (putK kvs (Sum.inr x) v) y = (decide (y = x) || inK kvs y) := by
  unfold inK
  rw [valV_put]
  by_cases e : y = x
  · rw [if_pos (by rw [e]), decide_eq_true e]
    rfl
  · rw [if_neg (fun z => e (Sum.inr.inj z)), decide_eq_false e]
    rfl
/-- a dict whose keys are just these labels -/
structure Keys (kvs : List (L2.Key × V)) (l : List Str) : Prop where
  is : ∀ x, inK kvs x = decide (x ∈ l)
  few : kvs.length ≤ l.length
theorem Keys.nil : Keys [] [] := ⟨fun x => by simp [inK, valV_nil], Nat.le_refl _⟩
theorem Keys.put {kvs : List (L2.Key × V)} {l : List Str} (k : Keys kvs l) (x : Str) (v : V) : Keys (putK kvs (Sum.inr x) v) (l ++ [x]) := by
  refine ⟨fun y => ?_, ?_⟩
  · rw [inK_put, k.is]
    by_cases e : y = x <;> by_cases e2 : y ∈ l <;> simp [e, e2]
  · have := length_putK kvs (Sum.inr x) v
    have := k.few
    rw [List.length_append]
    show _ ≤ l.length + 1
    omega
/-- names in a list -/
structure Names (K : PySem.W.Frag) (H : Hp) (vs : List V) (ns : List (List Str)) : Prop where
  len : vs.length = ns.length
  at_ : ∀ (i : Nat) (v : V), vs[i]? = some v → ∃ p n, ns[i]? = some n ∧ v = .ref p ∧ Nm K H p n
theorem Names.same {K : PySem.W.Frag} {H H' : Hp} {vs : List V} {ns : List (List Str)} (h : Names K H vs ns) (s : Same H H') : Names K H' vs ns :=
  ⟨h.len, fun i v hv => let ⟨p, n, e, r, q⟩ := h.at_ i v hv; ⟨p, n, e, r, same_seqT s q⟩⟩
def inNames (ns : List (List Str)) (x : Str) : Bool := decide (x ∈ ns.flatten)
def spLeast (K : PySem.W.Frag) : Sp := fun vs H Q _ => ∃ (a : Addr) (ps : List V) (ns : List (List Str)), vs = [.ref a] ∧ SqL K H a ps ∧ Names K H ps ns ∧ ns.flatten.length ≤ 150 ∧ ∀ H' x, Same H H' → leastOf (inNames ns) = some x → Q (.str x) H'
end LN
namespace LN
open PySem PySem.Spec PyProof.Rows L2
def spMix (K : PySem.W.Frag) : Sp := fun vs H Q _ => ∃ (b bc l : Addr) (xs : List V), vs = [.ref b, .ref l] ∧ Bag b bc H ∧ l ≠ b ∧ SqL K H l xs ∧ xs.length ≤ 900 ∧ ∀ H' p ys, Drew b bc H H' → H p = none → H' p = some (.lst ys) → ys.Perm xs → Q (.ref p) H'
def spFirsts : Sp := fun vs H Q _ => vs = [.int 200] ∧ ∀ H' p, Same H H' → H p = none → H' p = some (.lst (firsts.map V.str)) → Q (.ref p) H'
theorem txt_app (l m : List Nat) : txt l ++ txt m = txt (l ++ m) := by
  show (⟨l.toArray ++ m.toArray⟩ : Str) = _
  unfold txt
  simp
theorem txt_len (l : List Nat) : (txt l).length = l.length := List.size_toArray
theorem a_mul : ∀ k : Nat, k < 9 → Txt.mul ("a" : Str) (k : Int) = txt (aN k) := by decide +kernel
theorem a_mulOk : ∀ k : Nat, k < 9 → MulOk ("a" : Str) (k : Int) := by
  unfold MulOk
  decide +kernel
end LN
namespace LN
open PySem PySem.Spec PyProof.Rows L2
def strs_ (ls : List (List Nat)) : List V := ls.map fun l => V.str (txt l)
theorem strs_snoc (ls : List (List Nat)) (l : List Nat) : strs_ ls ++ [V.str (txt l)] = strs_ (ls ++ [l]) := by
  unfold strs_
  rw [List.map_append]
  rfl
theorem strs_len (ls : List (List Nat)) : (strs_ ls).length = ls.length := List.length_map _
def ones (i : Nat) : List (List Nat) := (List.range i).map fun k => aN (k + 1)
def sevens (i : Nat) : List (List Nat) := ((lets.drop 1).take i).map fun c => aN 7 ++ [c]
def blkOf (c : Nat) (j : Nat) : List (List Nat) := (aN 6 ++ [c]) :: (lets.take j).map fun d => aN 6 ++ [c, d]
def blks (i : Nat) : List (List Nat) := (((lets.drop 1).take i).map fun c => blkOf c 26).flatten
theorem ones_succ (i : Nat) : ones (i + 1) = ones i ++ [aN (i + 1)] := by
  unfold ones
  rw [List.range_succ, List.map_append]
  rfl
theorem sevens_succ {i c : Nat} (h : (lets.drop 1)[i]? = some c) : sevens (i + 1) = sevens i ++ [aN 7 ++ [c]] := by
  unfold sevens
  rw [List.take_add_one, h, List.map_append]
  rfl
theorem blkOf_succ {c j d : Nat} (h : lets[j]? = some d) : blkOf c (j + 1) = blkOf c j ++ [aN 6 ++ [c, d]] := by
  unfold blkOf
  rw [List.take_add_one, h, List.map_append]
  rfl
theorem blks_succ {i c : Nat} (h : (lets.drop 1)[i]? = some c) : blks (i + 1) = blks i ++ blkOf c 26 := by
  unfold blks
  rw [List.take_add_one, h, List.map_append, List.flatten_append]
  congr 1
theorem blks_len : ∀ i, i ≤ 25 → (blks i).length ≤ 675 := by decide +kernel
theorem all_firsts : (ones 8 ++ sevens 25 ++ blks 25) = firstsN := by decide +kernel
theorem tail_signs : (cutS alpha (some 1) none).cps.toList = lets.drop 1 := by decide +kernel
theorem all_signs : alpha.cps.toList = lets := by decide +kernel
theorem firsts_take : (strs_ firstsN).take 200 = firsts.map V.str := by
  unfold strs_ firsts
  rw [← List.map_take, List.map_map]
  rfl
end LN

namespace LN
open PySem PySem.Spec PyProof.Rows L2
section
variable {K : PySem.W.Frag} {H H' : Hp}
/-- a value that is a name of at most eight labels -/
def AName (K : PySem.W.Frag) (H : Hp) (v : V) : Prop := ∃ p n, v = .ref p ∧ Nm K H p n ∧ Labs n ∧ n.length ≤ 8
def ANames (K : PySem.W.Frag) (H : Hp) (vs : List V) : Prop := ∀ v ∈ vs, AName K H v
theorem ANames.same {vs : List V} (h : ANames K H vs) (s : Same H H') : ANames K H' vs := fun v hv =>
  let ⟨p, n, e, q, r⟩ := h v hv; ⟨p, n, e, same_seqT s q, r⟩
theorem ANames.drew {b bc : Addr} {vs : List V} (h : ANames K H vs) (bag : Bag b bc H) (d : Drew b bc H H') : ANames K H' vs := fun v hv =>
  let ⟨p, n, e, q, r⟩ := h v hv; ⟨p, n, e, d.nm bag.lst q, r⟩
theorem ANames.names : ∀ {vs : List V}, ANames K H vs → ∃ ns, Names K H vs ns ∧ ∀ n ∈ ns, Labs n ∧ n.length ≤ 8
  | [], _ => ⟨[], ⟨rfl, fun i v hv => by cases hv⟩, fun n hn => absurd hn List.not_mem_nil⟩
  | v :: vs, h => by
    obtain ⟨p, n, e, q, r⟩ := h v List.mem_cons_self
    obtain ⟨ns, nm, all⟩ := ANames.names (vs := vs) fun w hw => h w (List.mem_cons_of_mem _ hw)
    refine ⟨n :: ns, ⟨by rw [List.length_cons, List.length_cons, nm.len], fun i w hw => ?_⟩, fun m hm => ?_⟩
    · cases i with
      | zero => cases hw; exact ⟨p, n, rfl, e, q⟩
      | succ i => exact nm.at_ i w hw
    · rcases List.mem_cons.mp hm with rfl | hm
      · exact r
      · exact all m hm
theorem names_dpa : ∀ {vs : List V} {ns : List (List Str)}, Names K H vs ns → DpAll K H vs (ns.map nameD)
  | [], [], _ => .nil
  | [], n :: ns, h => by have := h.len; cases this
  | v :: vs, [], h => by have := h.len; cases this
  | v :: vs, n :: ns, h => by
    obtain ⟨p, m, e, rfl, q⟩ := h.at_ 0 v rfl
    cases e
    exact .cons (nm_dp q) (names_dpa ⟨Nat.succ.inj h.len, fun i w hw => h.at_ (i + 1) w hw⟩)
end
theorem flat_len8 : ∀ {ns : List (List Str)}, (∀ n ∈ ns, Labs n ∧ n.length ≤ 8) → ns.flatten.length ≤ 8 * ns.length
  | [], _ => Nat.le_refl _
  | n :: ns, h => by
    have ih := flat_len8 (ns := ns) fun m hm => h m (List.mem_cons_of_mem _ hm)
    have := (h n List.mem_cons_self).2
    rw [List.flatten_cons, List.length_append, List.length_cons]
    omega
theorem Keys.merge : ∀ (l : List Str) {kvs : List (L2.Key × V)} {m : List Str}, Keys kvs m → Keys (mergeK kvs (l.map fun x => (Sum.inr x, V.bl true))) (m ++ l)
  | [], _, _, h => by rw [List.append_nil]; exact h
  | x :: l, kvs, m, h => by
    have z := Keys.merge l (h.put x (.bl true))
    rw [List.append_assoc] at z
    exact z
theorem least_some {ns : List (List Str)} (few : ns.flatten.length ≤ 150) : ∃ x, leastOf (inNames ns) = some x := by
  cases e : leastOf (inNames ns) with
  | some x => exact ⟨x, rfl⟩
  | none =>
    have all := List.find?_eq_none.mp e
    have z := few_there (there := inNames ns) (keys := ns.flatten) (fun x h => of_decide_eq_true h) (i := 200) (Nat.le_refl _) fun j y _ hy => by
      have := all y (List.mem_of_getElem? hy)
      cases q : inNames ns y with
      | true => rfl
      | false => rw [q] at this; exact absurd rfl this
    omega
def notIn (ns : List (List Str)) (i : Nat) : List Str := (firsts.take i).filter fun x => !inNames ns x
theorem notIn_head (ns : List (List Str)) : (notIn ns firsts.length)[0]? = leastOf (inNames ns) := by
  unfold notIn leastOf
  rw [List.take_length, ← List.head?_filter, List.head?_eq_getElem?]
theorem labs_firsts : Labs firsts := fun x hx => ⟨(firsts_ok x hx).1, Nat.le_trans (firsts_ok x hx).2.2 (by decide)⟩
end LN
namespace LN
open PySem PySem.Spec PyProof.Rows L2
def rListOf (K : PySem.W.Frag) : List V → Hp → VK → Prop := fun vs H Q => ∃ p ys, vs = [.ref p] ∧ (SqL K H p ys ∨ SqT K H p ys) ∧ ∀ l, H l = none → Q (.ref l) (upd H l (.lst ys))
theorem to_list {X : Cx} : CallR X (.type "list") (rListOf X.K) := call_list_of
theorem eights : ∀ j : Nat, j ≤ 130 → ∃ n : Nat, RgC 0 (j : Int) 8 n ∧ n ≤ 17 := by
  have all : ∀ j : Nat, j < 131 → (Builtin.Range.small 0 (j : Int) 8 && decide (0 ≤ Builtin.Range.rangeSize 0 (j : Int) 8 ∧ Builtin.Range.rangeSize 0 (j : Int) 8 ≤ 17)) = true := by decide +kernel
  intro j hj
  have z := all j (by omega)
  rw [Bool.and_eq_true] at z
  obtain ⟨z0, z1⟩ := of_decide_eq_true z.2
  exact ⟨_, ⟨by decide, by decide, z.1, (Int.toNat_of_nonneg z0).symm⟩, by omega⟩
end LN
namespace LN
open PySem PySem.Spec PyProof.Rows L2
theorem strs_of : ∀ {ys : List V}, (∀ v ∈ ys, ∃ x, v = V.str x ∧ Lab x) → ∃ zs : List Str, ys = zs.map V.str ∧ Labs zs
  | [], _ => ⟨[], rfl, Labs.nil⟩
  | v :: ys, h => by
    obtain ⟨x, rfl, lx⟩ := h v List.mem_cons_self
    obtain ⟨zs, rfl, lz⟩ := strs_of (ys := ys) fun w hw => h w (List.mem_cons_of_mem _ hw)
    exact ⟨x :: zs, rfl, Labs.cons lx lz⟩
theorem cut_eight {ls : List Str} {k : Nat} (lab : Labs ls) : ∃ n : List Str, cutV (ls.map V.str) (some (0 + (k : Nat) * 8)) (some (0 + (k : Nat) * 8 + 8)) = n.map V.str ∧ Labs n ∧ n.length ≤ 8 := by
  have a1 : (0 : Int) + (k : Nat) * 8 = ((k * 8 : Nat) : Int) := by omega
  have a2 : (0 : Int) + (k : Nat) * 8 + 8 = ((k * 8 + 8 : Nat) : Int) := by omega
  unfold cutV
  rw [a2, a1, HT.sIx_nat, HT.sIx_nat]
  refine ⟨(ls.drop (min (k * 8) (ls.map V.str).length)).take (min (k * 8 + 8) (ls.map V.str).length - min (k * 8) (ls.map V.str).length), by rw [List.map_take, List.map_drop], (lab.drop _).take _, ?_⟩
  rw [List.length_take]
  omega
/-- sum(lists, []), its end as one -/
def rSumS (K : PySem.W.Frag) : List V → Hp → VK → Prop := fun vs H Q => ∃ (l b : Addr) (ps : List Addr) (xss : List (List V)), vs = [.ref l, .ref b] ∧ SqL K H l (ps.map V.ref) ∧ H b = some (.lst []) ∧ ps.length = xss.length ∧ (∀ (i : Nat) (p : Addr) (xs : List V), ps[i]? = some p → xss[i]? = some xs → H p = some (.lst xs)) ∧ xss.flatten.length ≤ sizeLine ∧
  ∀ T H', Same H H' → H' T = some (.lst xss.flatten) → Q (.ref T) H'
theorem cr_sumS {X : Cx} (hc : X.calm = true) : CallR X (.builtin "sum") (rSumS X.K) := by
  intro pins s σ H vs us Q I r h
  obtain ⟨l, b, ps, xss, e, hs, hb, hn, parts, small, k⟩ := h
  refine cr_sumL hc pins s σ H vs us Q I r ⟨l, b, ps, xss, e, hs, hb, hn, parts, small, fun z => k b H (Same.refl H) ?_, fun T nT => k T _ (same_put nT) upd_same⟩
  have x0 : xss = [] := List.length_eq_zero_iff.mp (by rw [← hn, z]; rfl)
  rw [x0]
  exact hb
theorem least_nil : leastOf (inNames []) = some ("a" : Str) := by decide +kernel
theorem least_empty : leastOf (inNames [[]]) = some ("a" : Str) := by decide +kernel
end LN
namespace LN
open PySem PySem.Spec PyProof.Rows L2
theorem eqv_none : ∀ {xs : List PyData}, PyData.eqv (.list xs) (.list []) = decide (xs = [])
  | [] => rfl
  | _ :: _ => rfl
end LN

namespace LN
open PySem PySem.Spec PyProof.Rows L2
section
variable {X : Cx} {K : PySem.W.Frag} {W : WX} {e o a b : Expr} {es : List Expr} {ga gb : GR} {gt : GRA} {pos apos cpos p pos' : Pos} {k : Nat} {R F H : Hp} {S : Sto}
theorem tk0 : Takes X W0 := by
  rintro u s' ⟨_, _, _, _, _, _, _, _, _, _, _, _, _, _, _, _, z⟩
  exact z.elim
/-! [*xs, ..] -/
def gStar (ga : GR) (gr : GRA) : GRA := fun Γ S P E => ga Γ S (fun x S1 => match dseq S1 x with
  | some ds => gr Γ S1 (fun ys S2 => P (ds.map .dat ++ ys) S2) E
  | none => False) E
theorem ga_star {pst : Pos} (he : GE X W e ga) (hr : GA X W es gt) (hs : starEach (.Starred e pst :: es) X.env = (true, eval e X.env) :: starEach es X.env := by rfl) : GA X W (.Starred e pst :: es) (gStar ga gt) := by
  refine PA.imp (StX.pa_star he hr hs) ?_
  rintro σ H Q ⟨R, Γ, S, F, P, E, g, sl, h, on, ox⟩
  refine ⟨R, Γ, S, F, _, E, g, sl, h, fun v S1 F1 H1 x g1 s1 r1 h1 => ?_, ox⟩
  dsimp only at h1
  split at h1
  · rename_i ds q
    obtain ⟨a, vs, rfl, hq, rr⟩ := seq_of g1 r1 (dseq_seq q)
    refine ⟨a, vs, rfl, hq.symm, R, Γ, S1, F1, _, E, g1, sl.up s1, h1, fun ws S2 F2 H2 ys g2 s2 r2 h2 => ?_, ox.go s1⟩
    exact on _ S2 F2 H2 _ g2 (s1.trans s2) (gvs_app (GVs.up s2 rr) r2) h2
  · exact h1.elim
/-! names -/
def nmD (n : List Str) : D := .tup (n.map .str)
abbrev nm (n : List Str) : G := .dat (.tup (n.map .str))
abbrev nms (ns : List (List Str)) : G := .dat (.lst (ns.map fun n => .tup (n.map .str)))
theorem name_at {v : V} {n : List Str} (r : Rp K F v (.tup (n.map .str))) : ∃ a, v = .ref a ∧ F a = some (.tup (n.map V.str)) := by
  cases r with
  | tup h1 h2 =>
    have gen : ∀ {vs : List V} {n : List Str}, RpAll K F vs (n.map D.str) → vs = n.map V.str := by
      intro vs n r
      induction n generalizing vs with
      | nil => cases r; rfl
      | cons x n ih =>
        cases r with
        | cons h t => cases h; rw [ih t]; rfl
    rw [← gen h2]
    exact ⟨_, rfl, h1⟩
theorem names_at : ∀ {ls : List (List Str)} {vs : List V}, RpAll K F vs (ls.map fun n => .tup (n.map .str)) → ∃ ks : List (Addr × List Str), vs = ks.map (fun p => .ref p.1) ∧ ks.map (·.2) = ls ∧ ∀ p ∈ ks, F p.1 = some (.tup (p.2.map V.str))
  | [], _, .nil => ⟨[], rfl, rfl, fun _ h => nomatch h⟩
  | n :: ls, _, .cons h t => by
    obtain ⟨a, rfl, h1⟩ := name_at h
    obtain ⟨ks, rfl, rfl, h2⟩ := names_at t
    refine ⟨(a, n) :: ks, rfl, rfl, fun p hp => ?_⟩
    rcases List.mem_cons.mp hp with rfl | hp
    · exact h1
    · exact h2 p hp
/-! set(names), its length -/
def rSet_ : RC := fun gs S P => match gs with
  | [x] => ∃ ls : List (List Str), dseq S x = some (ls.map nmD) ∧ ls.length < 64 ∧ ∀ a n, S a = none → n ≤ ls.length → (n = ls.length ↔ ls.Nodup) → P (.loc a) (sup S a (.raw (setN a n)))
  | _ => False
theorem crg_set (calm : X.calm = true) (hr : Room k X.A) : CallR X (.type "set") (cG X.K rSet_) := by
  rintro pins s σ H vs us Q I r ⟨R, S, F, P, gs, g, hv, h, on⟩
  unfold rSet_ at h
  split at h
  · obtain ⟨v, rfl, hx⟩ := gvs1 hv
    obtain ⟨ls, q, few, h⟩ := h
    obtain ⟨a, ws, rfl, hq, rr⟩ := seq_of g hx (dseq_seq q)
    obtain ⟨ks, rfl, rfl, h2⟩ := names_at (dat_gvs rr)
    refine cr_setN calm (by have := hr.un; omega) pins s σ H _ us Q I r ⟨a, ks, rfl, hq, fun p hp => .inl (.inl (g.sub _ _ (h2 p hp))), by simpa using few, fun c n nc le same => ?_⟩
    exact on _ _ F _ (.loc c) (g.alloc (u := .raw (setN c n)) nc ⟨upd_same, fun xs z => (nomatch (show HO.ext _ = HO.tup xs from z))⟩) (Up.refl _) rfl (h c n (g.fresh nc).2.1 (by simpa using le) (by simpa using same))
  · exact h.elim
def rLenS_ : RC := fun gs S P => match gs with
  | [.loc a] => ∃ n : Nat, S a = some (.raw (setN a n)) ∧ P (.dat (.int n)) S
  | _ => False
theorem crg_lenS : CallR X (.builtin "len") (cG X.K rLenS_) := by
  rintro pins s σ H vs us Q I r ⟨R, S, F, P, gs, g, hv, h, on⟩
  unfold rLenS_ at h
  split at h
  · obtain ⟨v, rfl, hx⟩ := gvs1 hv
    obtain ⟨n, q, h⟩ := h
    obtain rfl := (show v = .ref _ from hx)
    exact cr_lenN pins s σ H _ us Q I r ⟨_, n, rfl, (g.obj _ _ q).2.1, on.now g (x := .dat (.int n)) (.int _) h⟩
  · exact h.elim
/-! sorted(names), none of them () -/
def sortN (ls : List (List Str)) : List (List Str) := ls.mergeSort fun x y => !nameLt y x
theorem pw_map {α β : Type} {f : α → β} {P : β → β → Prop} {l : List α} (h : l.Pairwise fun x y => P (f x) (f y)) : (l.map f).Pairwise P := List.pairwise_map.mpr h
def rSorted_ : RC := fun gs S P => match gs with
  | [x] => ∃ ls : List (List Str), dlst S x = some (ls.map nmD) ∧ (∀ l ∈ ls, l ≠ []) ∧ ∀ ms : List (List Str), ms.Pairwise (fun x y => nameLt y x = false) → ms.Perm ls → P (.dat (.lst (ms.map nmD))) S
  | _ => False
theorem rp_names {F : Hp} : ∀ {ks : List (Addr × List Str)}, (∀ p ∈ ks, F p.1 = some (.tup (p.2.map V.str))) → RpAll K F (ks.map fun p => .ref p.1) (ks.map fun p => nmD p.2)
  | [], _ => .nil
  | p :: ks, h => by
    refine .cons (.tup (h p List.mem_cons_self) ?_) (rp_names fun q hq => h q (List.mem_cons_of_mem _ hq))
    have gen : ∀ n : List Str, RpAll K F (n.map V.str) (n.map D.str) := fun n => by
      induction n with
      | nil => exact .nil
      | cons x n ih => exact .cons (.str x) ih
    exact gen _
theorem crg_sorted : CallR X (.builtin "sorted") (cG X.K rSorted_) := by
  rintro pins s σ H vs us Q I r ⟨R, S, F, P, gs, g, hv, h, on⟩
  unfold rSorted_ at h
  split at h
  · obtain ⟨v, rfl, hx⟩ := gvs1 hv
    obtain ⟨ls, q, some_, h⟩ := h
    obtain ⟨a, ws, rfl, hq, rr⟩ := dlst_of g hx q
    obtain ⟨ks, rfl, rfl, h2⟩ := names_at rr
    let kf : V → List Str := fun v => match v with
      | .ref a => (match F a with
        | some (.tup xs) => xs.map fun x => match x with
          | .str z => z
          | _ => Str.empty
        | _ => [])
      | _ => []
    have kv : ∀ p ∈ ks, kf (.ref p.1) = p.2 := fun p hp => by
      simp only [kf, h2 p hp, List.map_map]
      exact (List.map_congr_left (fun x _ => rfl)).trans (List.map_id _)
    refine cr_sortedN pins s σ H _ us Q I r ⟨a, ks.map (fun p => .ref p.1), kf, rfl, .inl (.inl hq), fun x hx => ?_, fun ys c sorted perm nc => ?_⟩
    · obtain ⟨p, hp, rfl⟩ := List.mem_map.mp hx
      exact ⟨p.1, rfl, by rw [kv p hp]; exact .inl (.inl (g.sub _ _ (h2 p hp))), by rw [kv p hp]; exact some_ _ (List.mem_map_of_mem hp)⟩
    · have back : ∃ ms : List (Addr × List Str), ys = ms.map (fun p => .ref p.1) ∧ ∀ p ∈ ms, p ∈ ks := by
        have all : ∀ y ∈ ys, ∃ p ∈ ks, y = V.ref p.1 := fun y hy => by
          obtain ⟨p, hp, e⟩ := List.mem_map.mp (perm.subset hy)
          exact ⟨p, hp, e.symm⟩
        clear sorted perm
        induction ys with
        | nil => exact ⟨[], rfl, fun _ h => nomatch h⟩
        | cons y ys ih =>
          obtain ⟨ms, rfl, h3⟩ := ih fun z hz => all z (List.mem_cons_of_mem _ hz)
          obtain ⟨p, hp, rfl⟩ := all y List.mem_cons_self
          exact ⟨p :: ms, rfl, fun q hq => (List.mem_cons.mp hq).elim (fun e => e ▸ hp) (h3 q)⟩
      obtain ⟨ms, rfl, h3⟩ := back
      have names : (ms.map (fun p => V.ref p.1)).map kf = ms.map (·.2) := by
        rw [List.map_map]
        exact List.map_congr_left fun p hp => kv p (h3 p hp)
      have names0 : (ks.map (fun p => V.ref p.1)).map kf = ks.map (·.2) := by
        rw [List.map_map]
        exact List.map_congr_left fun p hp => kv p hp
      refine on_lst on g (ds := (ms.map (·.2)).map nmD) ?_ (h (ms.map (·.2)) ?_ ?_) c nc
      · rw [List.map_map]
        exact rp_names fun p hp => h2 p (h3 p hp)
      · rw [← names]
        exact pw_map sorted
      · rw [← names, ← names0]
        exact perm.map kf
  · exact h.elim
/-! sum(lists, []) -/
def rSum_ : RC := fun gs S P => match gs with
  | [x, .dat (.lst [])] => ∃ ls : List (List D), dlst S x = some (ls.map D.lst) ∧ ls.flatten.length ≤ sizeLine ∧ P (.dat (.lst ls.flatten)) S
  | _ => False
theorem lists_at : ∀ {ls : List (List D)} {vs : List V}, RpAll K F vs (ls.map D.lst) → ∃ (ps : List Addr) (xss : List (List V)), vs = ps.map V.ref ∧ ps.length = xss.length ∧ (∀ (i : Nat) (p : Addr) (xs : List V), ps[i]? = some p → xss[i]? = some xs → F p = some (.lst xs)) ∧ RpAll K F xss.flatten ls.flatten
  | [], _, .nil => ⟨[], [], rfl, rfl, fun i p xs e => by simp at e, .nil⟩
  | ds :: ls, _, .cons h t => by
    obtain ⟨ps, xss, rfl, h1, h2, h3⟩ := lists_at t
    cases h with
    | @lst a xs _ h4 h5 =>
      refine ⟨a :: ps, xs :: xss, rfl, by simp [h1], fun i p ys e1 e2 => ?_, ?_⟩
      · cases i with
        | zero => simp at e1 e2; rw [← e1, ← e2]; exact h4
        | succ i => exact h2 i p ys (by simpa using e1) (by simpa using e2)
      · rw [List.flatten_cons, List.flatten_cons]
        exact h5.app h3
theorem crg_sum (calm : X.calm = true) : CallR X (.builtin "sum") (cG X.K rSum_) := by
  rintro pins s σ H vs us Q I r ⟨R, S, F, P, gs, g, hv, h, on⟩
  unfold rSum_ at h
  split at h
  · obtain ⟨v, w, rfl, hx, hy⟩ := gvs2 hv
    obtain ⟨ls, q, few, h⟩ := h
    obtain ⟨a, ws, rfl, hq, rr⟩ := dlst_of g hx q
    obtain ⟨ps, xss, rfl, h1, h2, h3⟩ := lists_at rr
    cases (show Rp X.K F w (.lst []) from hy) with
    | @lst b xs _ h4 h5 =>
      cases h5
      refine cr_sumL calm pins s σ H _ us Q I r ⟨a, b, ps, xss, rfl, .inl (.inl hq), g.sub _ _ h4, h1, fun i p ys e1 e2 => g.sub _ _ (h2 i p ys e1 e2), by rw [h3.len]; exact few, fun e => ?_, on_lst on g h3 h⟩
      subst e
      have : xss = [] := List.length_eq_zero_iff.mp h1.symm
      subst this
      have l0 : ls.flatten = [] := List.length_eq_zero_iff.mp h3.len.symm
      rw [l0] at h
      exact on.now g (x := .dat (.lst [])) (Rp.lst h4 .nil) h
  · exact h.elim
/-! xs.index(x), the first place of an equal one -/
def rIdx_ : RM := fun x gs S P => match gs with
  | [y] => ∃ (ds : List PyData) (d : PyData) (j : Nat) (z : PyData), vw S x = some (.list ds) ∧ vw S y = some d ∧ d.depth ≤ 60 ∧ ds[j]? = some z ∧ PyData.eqv z d = true ∧ (∀ (m : Nat) (z' : PyData), m < j → ds[m]? = some z' → PyData.eqv z' d = false) ∧ P (.dat (.int j)) S
  | _ => False
theorem mg_idx (hr : Room k X.A) : MtR X "list.index" (mG X.K rIdx_) := by
  rintro pins s σ H x xs v us Q I rx rs ⟨R, S, F, P, gx, gs, g, hx, hs, h, on⟩
  unfold rIdx_ at h
  split at h
  · obtain ⟨w, rfl, rw'⟩ := gvs1 hs
    obtain ⟨ds, d, j, z, e1, e2, deep, hz, hit, miss, h⟩ := h
    have d1 := vw_of g hx e1
    have d2 := vw_of g rw' e2
    obtain ⟨u, rfl, ru⟩ := vals1 rs
    obtain ⟨bs, rd⟩ := Dp.reads I d w u d2 ru
    cases d1 with
    | @lst a ws _ sq all =>
      obtain rfl : v = Value.ref a := rx
      obtain ⟨its, rv, ⟨⟨cls, dd, data, sls⟩, n, there, c1, c2, c3⟩, few⟩ := I.list sq
      simp only at c1 c3
      subst c1 c3
      obtain ⟨as, rds⟩ := Dp.readsAll I ds _ its all rv
      have plain := dps_plain all
      have len : its.length = ds.length := SeqAt.ReadsAll.length ds its as rds
      have same : its.map (SeqAt.readOf s.heap) = ds := SeqAt.readsAll_map_plain ds its as plain rds
      have lj : j < its.length := by rw [len]; exact (List.getElem?_eq_some_iff.mp hz).1
      have there_ : ∀ (m : Nat) (hm : m < its.toArray.size), ds[m]? = some (SeqAt.readOf s.heap its.toArray[m]) := fun m hm => by
        have hm' : m < its.length := by simpa using hm
        rw [← same, List.getElem?_map, List.getElem?_eq_getElem hm']
        simp
      refine call_meets PySem.F.slot_list_index ⟨_, there, rfl⟩ PySem.F.entry_list_index (PySem.F.args_list_index_2 _ _)
        (SeqAt.list_indexAt a its.toArray n dd sls u (fun u => PyData.eqv (SeqAt.readOf s.heap u) d) j (by simpa using lj) (by have := rv.length; simp; rw [sizeLine_eq] at few; omega) ?_ ?_)
        ⟨there, SeqAt.items_plain (vs := its.toArray) (show ReadsAll s.heap its.toArray.toList ds as from rds) rd plain (dp_plain d2) (by have := Nat.min_le_right (PyData.depthAll ds) d.depth; have := hr.un; omega), ?_⟩
      · have := there_ j (by simpa using lj)
        rw [hz] at this
        show PyData.eqv (SeqAt.readOf s.heap its.toArray[j]) d = true
        rw [← Option.some.inj this]
        exact hit
      · intro m hm hmj
        exact miss m _ hmj (there_ m hm)
      · exact ⟨.int (j : Nat), H, I.tok _, ⟨_, rfl⟩, on.now g (x := .dat (.int j)) (.int _) h⟩
  · exact h.elim
end
end LN

namespace LN
open PySem PySem.Spec PyProof.Rows L2
/-! defs by heaps, taken over -/
theorem FnOk.cx {P : Program} {w : World} {K : PySem.W.Frag} {mg : Str → Option Value} {base : Heap} {CX : CXT} {k : Nat} {f : Addr} {fd : FuncData} {ps : List Str} {sp : Sp} (F : FnOk P w K mg base CX0 k f fd ps sp) : FnOk P w K mg base CX k f fd ps sp := by
  refine ⟨F.len, fun A outer s H args us vs Q E hr env bd rel want => codeAny_mono (F.run A outer s H args us vs Q E hr env bd rel want) ?_⟩
  intro r s' got
  cases r with
  | error e => exact (show False from got).elim
  | ok fl =>
    cases fl with
    | ret u => exact got
    | _ => exact got
section
variable {K : PySem.W.Frag} {R F H H' : Hp} {S : Sto}
theorem bag_in {b : Addr} (g : GS K R S F H) (q : S b = some .bag) : ∃ c, F c ≠ none ∧ Bag b c H := by
  obtain ⟨_, c, x0, x1, x2, ns, h1, h2, h3, h4⟩ := g.obj b _ q
  exact ⟨c, by rw [h3]; simp, x0, x1, x2, ns, h1, h2, g.sub _ _ h3, h4⟩
theorem GS.drew {b c : Addr} (g : GS K R S F H) (q : S b = some .bag) (hc : F c ≠ none) (bag : Bag b c H) (d : Drew b c H H') : GS K R S F H' := by
  have fb := (g.obj b _ q).1
  refine ⟨fun a o e => d.keep a o (ne_of_none e fb) (g.sub _ _ e), fun a o e => ?_, fun a o e => ?_, g.rtup⟩
  · have ne : a ≠ b := fun z => by rw [z] at e; rw [(g.rem _ _ e).2.2] at q; cases q
    exact ⟨d.keep a o ne (g.rem a o e).1, (g.rem a o e).2⟩
  · by_cases ne : a = b
    · subst ne
      rw [q] at e
      cases e
      refine ⟨fb, ?_⟩
      obtain ⟨x0, x1, x2, ns, h1, h2, h3, h4⟩ := d.bag
      refine ⟨c, x0, x1, x2, ns, h1, h2, ?_, h4⟩
      cases z : F c with
      | none => exact absurd z hc
      | some o =>
        have := d.keep c o h1 (g.sub _ _ z)
        rw [h3] at this
        exact this.symm
    · obtain ⟨u, hu⟩ := (g.obj a o e).2.there
      refine ⟨(g.obj a o e).1, (g.obj a o e).2.up (Up.refl _) ?_⟩
      rw [d.keep a u ne hu, hu]
end
def gs_take : GSp := fun gs S P _ => ∃ (b : Addr) (m : Nat), gs = [.loc b, .dat (.int m)] ∧ S b = some .bag ∧ 1 ≤ m ∧ m < 1073741824 ∧ ∀ r : Nat, r < m → P (.dat (.int r)) S
theorem take_g {K : PySem.W.Frag} : ∀ vs H Q E, spG K gs_take vs H Q E → spTake vs H Q E := by
  rintro vs H Q E ⟨R, S, F, gs, P, X, g, r, ⟨b, m, rfl, q, m1, m2, h⟩, on, _⟩
  obtain ⟨v, w, rfl, hv, hw⟩ := gvs2 r
  obtain rfl := (show v = .ref b from hv)
  cases (show Rp K F w (.int m) from hw)
  obtain ⟨c, hc, bag⟩ := bag_in g q
  refine ⟨b, c, m, rfl, bag, m1, m2, fun H' r d lt => ?_⟩
  exact on.now (g.drew q hc bag d) (x := .dat (.int r)) (.int r) (h r lt) |> fun z => z
theorem GS.ext {K : PySem.W.Frag} {R F H H' : Hp} {S : Sto} (g : GS K R S F H) (s : Same H H') : GS K R S F H' := by
  refine ⟨fun a o e => s _ _ (g.sub _ _ e), fun a o e => ⟨s _ _ (g.rem a o e).1, (g.rem a o e).2⟩, fun a o e => ⟨(g.obj a o e).1, ?_⟩, g.rtup⟩
  obtain ⟨u, hu⟩ := (g.obj a o e).2.there
  exact (g.obj a o e).2.up (Up.refl _) (by rw [s _ _ hu, hu])
/-- an object that has come, among others -/
theorem GS.come {K : PySem.W.Frag} {R F H H' : Hp} {S : Sto} {p : Addr} {o : HO} (g : GS K R S F H) (s : Same H H') (np : H p = none) (at_ : H' p = some o) : GS K R S (upd F p o) H' ∧ Up F (upd F p o) := by
  obtain ⟨f, n, r⟩ := g.fresh np
  have g2 := g.ext s
  refine ⟨⟨fun b x e => ?_, fun a u e => ?_, fun a u e => ?_, g.rtup⟩, up_new f⟩
  · by_cases hb : b = p
    · subst hb; rw [upd_same] at e; rw [at_]; exact e
    · rw [upd_ne hb] at e; exact g2.sub _ _ e
  · rw [upd_ne (ne_of_none e r)]; exact g2.rem a u e
  · have ne : a ≠ p := fun z => by rw [z, n] at e; cases e
    rw [upd_ne ne]
    exact ⟨(g2.obj _ _ e).1, (g2.obj _ _ e).2.up (up_new f) rfl⟩
theorem GS.comeO {K : PySem.W.Frag} {R F H' : Hp} {S : Sto} {p : Addr} {u : O} (g : GS K R S F H') (f : F p = none) (r : R p = none) (at_ : OR K F H' p u) : GS K R (sup S p u) F H' := by
  refine ⟨g.sub, fun a v e => ?_, fun a v e => ?_, g.rtup⟩
  · have ne : a ≠ p := fun z => by rw [z, r] at e; cases e
    rw [sup_ne ne]; exact g.rem a v e
  · by_cases ne : a = p
    · subst ne; rw [sup_same] at e; cases e; exact ⟨f, at_⟩
    · rw [sup_ne ne] at e; exact g.obj a v e
def gs_bag : GSp := fun gs S P _ => ∃ ns : List Int, gs = [.dat (.ro (ns.map .int))] ∧ ns.length ≤ 63 ∧ ∀ b, S b = none → P (.loc b) (sup S b .bag)
theorem bag_g {K : PySem.W.Frag} : ∀ vs H Q E, spG K gs_bag vs H Q E → spBag K vs H Q E := by
  rintro vs H Q E ⟨R, S, F, gs, P, X, g, r, ⟨ns, rfl, few, h⟩, on, _⟩
  obtain ⟨v, rfl, hv⟩ := gvs1 r
  cases (show Rp K F v (.ro (ns.map .int)) from hv) with
  | @ro a xs _ h1 h2 =>
    have inS : ∀ {vs : List V} {n : List Int}, RpAll K F vs (n.map D.int) → vs = n.map V.int := by
      intro vs n r
      induction n generalizing vs with
      | nil => cases r; rfl
      | cons x n ih =>
        cases r with
        | cons h t => cases h; rw [ih t]; rfl
    rw [inS h2] at h1
    refine ⟨a, ns, rfl, (Up.of g.sub).l h1, few, fun H' b c same nb nc bag => ?_⟩
    obtain ⟨x0, x1, x2, ms, h3, h4, h5, h6⟩ := bag
    obtain ⟨g1, u1⟩ := g.come same nc h5
    obtain ⟨fb, sb, rb⟩ := g.fresh nb
    have fb' : upd F c (.lst (ms.map V.int)) b = none := by rw [upd_ne (Ne.symm h3)]; exact fb
    exact on (.ref b) _ _ H' (.loc b) (g1.comeO (u := .bag) fb' rb ⟨c, x0, x1, x2, ms, h3, h4, upd_same, h6⟩) u1 rfl (h b sb)
/-! the law itself -/
def gs_law : GSp := fun gs _ P _ => ∃ ns : List Int, gs = [.dat (.ro (ns.map .int))] ∧ ns.length ≤ 63 ∧ ∀ S', P (.dat (.bl true)) S'
theorem cr0 {P : Program} {w : World} {outer : List Env} {H : Hp} {s s' : Shared} {Q : VK} {r : Result} (h : CR (L2.CX P w) outer P w H s Q E0 r s') : CR CX0 outer P w H s Q E0 r s' := by
  cases r with
  | error e =>
    obtain ⟨_, _, _, _, _, _, _, _, _, _, _, _, z⟩ := h
    exact z
  | ok fl =>
    cases fl with
    | ret u => exact h
    | _ => exact h
theorem FnG.q {P : Program} {w : World} {K : PySem.W.Frag} {mg : Str → Option Value} {base : Heap} {k : Nat} {f : Addr} {fd : FuncData} {ps : List Str} {sp : Sp} (F : FnG P w K mg base k f fd ps sp) : FnQ P w K mg base k f fd ps sp :=
  ⟨fun vs H Q h => F.size vs H Q _ h, fun A outer s H us vs Q quiet room env bd rel want => codeAny_mono (F.go A outer s H _ us vs Q _ quiet room env bd rel want) fun r s' h => cr0 h⟩
theorem law_want {K : PySem.W.Frag} {H : Hp} {a : Addr} {ns : List Int} (few : ns.length ≤ 63) (only : Only H) (sq : SqL K H a (ns.map V.int)) : spG K gs_law [.ref a] H (fun v _ => v = .bl true) E0 := by
  have g : GS K (fun _ => none) (fun _ => none) H H := ⟨fun _ _ e => e, (fun _ _ e => nomatch e), (fun _ _ e => nomatch e), (fun _ _ e => nomatch e)⟩
  have inS : RpAll K H (ns.map V.int) (ns.map D.int) := by
    induction ns with
    | nil => exact .nil
    | cons x n ih =>
      have gen : ∀ l : List Int, RpAll K H (l.map V.int) (l.map D.int) := fun l => by
        induction l with
        | nil => exact .nil
        | cons x l ih => exact .cons (.int x) ih
      exact gen _
  refine ⟨_, _, H, [.dat (.ro (ns.map .int))], fun x _ => x = .dat (.bl true), never, g, .cons (Rp.ro sq inS) .nil, ⟨ns, rfl, few, fun _ => rfl⟩, fun v S' F' H' x g' u r h => ?_, fun _ _ _ _ _ _ _ _ _ z => z.elim⟩
  subst h
  cases (show Rp K F' v (.bl true) from r)
  rfl
end LN

namespace LN
open PySem PySem.Spec PyProof.Rows L2
/-! comparisons of data of one kind -/
structure Enc {α : Type} [DecidableEq α] (k : Nat) (f : α → D) (q : α → PyData) : Prop where
  py : ∀ a, (f a).py = some (q a)
  deep : ∀ a, (q a).depth ≤ k
  eq : ∀ a b, PyData.eqv (q a) (q b) = decide (a = b)
theorem pys_map {α : Type} {f : α → D} {q : α → PyData} (h : ∀ a, (f a).py = some (q a)) : ∀ as : List α, D.pys (as.map f) = some (as.map q)
  | [] => rfl
  | a :: as => by
    show (match D.py (f a), D.pys (as.map f) with | some p, some ps => some (p :: ps) | _, _ => none) = _
    rw [h a, pys_map h as]
    rfl
theorem deep_map {α : Type} {q : α → PyData} {k : Nat} (h : ∀ a, (q a).depth ≤ k) (as : List α) : PyData.depthAll (as.map q) ≤ k := all_deep fun d hd => by
  obtain ⟨a, _, rfl⟩ := List.mem_map.mp hd
  exact h a
theorem eqv_map {α : Type} [DecidableEq α] {q : α → PyData} (h : ∀ a b, PyData.eqv (q a) (q b) = decide (a = b)) : ∀ as bs : List α, PyData.eqvAll (as.map q) (bs.map q) = decide (as = bs)
  | [], [] => rfl
  | [], b :: bs => by simp [PyData.eqvAll]
  | a :: as, [] => by simp [PyData.eqvAll]
  | a :: as, b :: bs => by
    rw [List.map_cons, List.map_cons]
    show (PyData.eqv (q a) (q b) && PyData.eqvAll (as.map q) (bs.map q)) = _
    rw [h, eqv_map h as bs, ← Bool.decide_and]
    exact decide_eq_decide.mpr (by rw [List.cons.injEq])
theorem Enc.str : Enc 0 D.str PyData.str := ⟨fun _ => rfl, fun _ => Nat.le_refl _, eqv_str⟩
theorem Enc.int : Enc 0 D.int PyData.int := ⟨fun _ => rfl, fun _ => Nat.le_refl _, fun a b => by
  by_cases h : a = b
  · subst h; simp [PyData.eqv]
  · simp [PyData.eqv, h]⟩
theorem Enc.bl : Enc 0 D.bl PyData.bool := ⟨fun _ => rfl, fun _ => Nat.le_refl _, fun a b => by cases a <;> cases b <;> rfl⟩
section
variable {α β : Type} [DecidableEq α] [DecidableEq β] {k m : Nat} {f : α → D} {q : α → PyData} {g : β → D} {r : β → PyData}
theorem Enc.lst (E : Enc k f q) : Enc (k + 1) (fun as : List α => D.lst (as.map f)) (fun as => PyData.list (as.map q)) := by
  refine ⟨fun as => ?_, fun as => ?_, fun as bs => ?_⟩
  · show (D.pys (as.map f)).map PyData.list = _
    rw [pys_map E.py]
    rfl
  · have := deep_map E.deep as
    show PyData.depthAll _ + 1 ≤ _
    omega
  · exact eqv_map E.eq as bs
theorem Enc.tup (E : Enc k f q) : Enc (k + 1) (fun as : List α => D.tup (as.map f)) (fun as => PyData.tuple (as.map q)) := by
  refine ⟨fun as => ?_, fun as => ?_, fun as bs => ?_⟩
  · show (D.pys (as.map f)).map PyData.tuple = _
    rw [pys_map E.py]
    rfl
  · have := deep_map E.deep as
    show PyData.depthAll _ + 1 ≤ _
    omega
  · exact eqv_map E.eq as bs
theorem Enc.nm : Enc 1 (fun n : List Str => D.tup (n.map D.str)) (fun n => PyData.tuple (n.map PyData.str)) := Enc.str.tup
theorem Enc.two (E : Enc k f q) (G : Enc k g r) : Enc (k + 1) (fun p : α × β => D.tup [f p.1, g p.2]) (fun p => PyData.tuple [q p.1, r p.2]) := by
  refine ⟨fun p => ?_, fun p => ?_, fun a b => ?_⟩
  · show (match D.py (f p.1), (match D.py (g p.2), some [] with | some p, some ps => some (p :: ps) | _, _ => none) with | some p, some ps => some (p :: ps) | _, _ => none).map PyData.tuple = _
    rw [E.py, G.py]
    rfl
  · have h1 := E.deep p.1
    have h2 := G.deep p.2
    show max (q p.1).depth (max (r p.2).depth 0) + 1 ≤ _
    omega
  · show (PyData.eqv (q a.1) (q b.1) && (PyData.eqv (r a.2) (r b.2) && true)) = _
    rw [E.eq, G.eq, Bool.and_true, ← Bool.decide_and]
    exact decide_eq_decide.mpr ⟨fun h => Prod.ext h.1 h.2, fun h => ⟨congrArg _ h, congrArg _ h⟩⟩
theorem Enc.mono (E : Enc k f q) (h : k ≤ m) : Enc m f q := ⟨E.py, fun a => Nat.le_trans (E.deep a) h, E.eq⟩
theorem Enc.vw (E : Enc k f q) (S : Sto) (a : α) : LN.vw S (.dat (f a)) = some (q a) := E.py a
theorem eqv_int (i j : Int) : PyData.eqv (.int i) (.int j) = decide (i = j) := Enc.int.eq i j
theorem eqv_bl (i j : Bool) : PyData.eqv (.bool i) (.bool j) = decide (i = j) := Enc.bl.eq i j
variable {S : Sto} {P : G → Sto → Prop} {x y : G} {p s : PyData} {ds : List PyData}
theorem rEq_gen (e1 : LN.vw S x = some p) (e2 : LN.vw S y = some s) (d : p.depth ≤ 60) : rEq_ x y S P = P (.dat (.bl (PyData.eqv p s))) S := by
  unfold rEq_
  split
  · cases (show some (PyData.int _) = some _ from e1); cases (show some (PyData.int _) = some _ from e2); rw [eqv_int]
  · cases (show some (PyData.str _) = some _ from e1); cases (show some (PyData.str _) = some _ from e2); rw [eqv_str]
  · cases (show some (PyData.bool _) = some _ from e1); cases (show some (PyData.bool _) = some _ from e2); rw [eqv_bl]
  · rw [e1, e2]
    simp [d]
theorem rNe_gen (e1 : LN.vw S x = some p) (e2 : LN.vw S y = some s) (d : p.depth ≤ 60) : rNe_ x y S P = P (.dat (.bl (!PyData.eqv p s))) S := by
  unfold rNe_
  split
  · cases (show some (PyData.int _) = some _ from e1); cases (show some (PyData.int _) = some _ from e2); rw [eqv_int]
  · cases (show some (PyData.str _) = some _ from e1); cases (show some (PyData.str _) = some _ from e2); rw [eqv_str]
  · cases (show some (PyData.bool _) = some _ from e1); cases (show some (PyData.bool _) = some _ from e2); rw [eqv_bl]
  · rw [e1, e2]
    simp [d]
theorem rIn_gen (e1 : LN.vw S x = some p) (e2 : LN.vw S y = some (.list ds) ∨ LN.vw S y = some (.tuple ds)) (d : p.depth ≤ 60) : rIn_ x y S P = P (.dat (.bl (ds.any fun z => PyData.eqv z p))) S := by
  unfold rIn_
  split
  · rcases e2 with e2 | e2
    · cases (show some (PyData.str _) = some _ from e2)
    · cases (show some (PyData.str _) = some _ from e2)
  · rcases e2 with e2 | e2
    · rw [e1, e2]; simp [d]
    · rw [e1, e2]; simp [d]
theorem rNin_gen (e1 : LN.vw S x = some p) (e2 : LN.vw S y = some (.list ds) ∨ LN.vw S y = some (.tuple ds)) (d : p.depth ≤ 60) : rNin_ x y S P = P (.dat (.bl (!ds.any fun z => PyData.eqv z p))) S := by
  unfold rNin_
  split
  · rcases e2 with e2 | e2
    · cases (show some (PyData.str _) = some _ from e2)
    · cases (show some (PyData.str _) = some _ from e2)
  · rcases e2 with e2 | e2
    · rw [e1, e2]; simp [d]
    · rw [e1, e2]; simp [d]
theorem Enc.req (E : Enc k f q) (hk : k ≤ 60) (a b : α) : rEq_ (.dat (f a)) (.dat (f b)) S P = P (.dat (.bl (decide (a = b)))) S := by
  rw [rEq_gen (E.vw S a) (E.vw S b) (Nat.le_trans (E.deep a) hk), E.eq]
theorem Enc.rne (E : Enc k f q) (hk : k ≤ 60) (a b : α) : rNe_ (.dat (f a)) (.dat (f b)) S P = P (.dat (.bl (!decide (a = b)))) S := by
  rw [rNe_gen (E.vw S a) (E.vw S b) (Nat.le_trans (E.deep a) hk), E.eq]
theorem Enc.any (E : Enc k f q) (a : α) (as : List α) : ((as.map q).any fun z => PyData.eqv z (q a)) = decide (a ∈ as) := by
  rw [List.any_map, Bool.eq_iff_iff, List.any_eq_true, decide_eq_true_iff]
  constructor
  · rintro ⟨b, hb, h⟩
    have := E.eq b a
    rw [show PyData.eqv (q b) (q a) = true from h] at this
    rw [← of_decide_eq_true this.symm]
    exact hb
  · exact fun h => ⟨a, h, by show PyData.eqv (q a) (q a) = true; rw [E.eq]; simp⟩
theorem Enc.rin (E : Enc k f q) (hk : k ≤ 60) (a : α) (as : List α) : rIn_ (.dat (f a)) (.dat (.lst (as.map f))) S P = P (.dat (.bl (decide (a ∈ as)))) S := by
  rw [rIn_gen (E.vw S a) (.inl (E.lst.vw S as)) (Nat.le_trans (E.deep a) hk), E.any]
theorem Enc.rnin (E : Enc k f q) (hk : k ≤ 60) (a : α) (as : List α) : rNin_ (.dat (f a)) (.dat (.lst (as.map f))) S P = P (.dat (.bl (!decide (a ∈ as)))) S := by
  rw [rNin_gen (E.vw S a) (.inl (E.lst.vw S as)) (Nat.le_trans (E.deep a) hk), E.any]
theorem Enc.rint (E : Enc k f q) (hk : k ≤ 60) (a : α) (as : List α) : rIn_ (.dat (f a)) (.dat (.tup (as.map f))) S P = P (.dat (.bl (decide (a ∈ as)))) S := by
  rw [rIn_gen (E.vw S a) (.inr (E.tup.vw S as)) (Nat.le_trans (E.deep a) hk), E.any]
/-- a list of data that may be changed -/
theorem vw_loc {n : Addr} {ds : List D} {ps : List PyData} (h : S n = some (.lst (ds.map .dat))) (e : D.pys ds = some ps) : LN.vw S (.loc n) = some (.list ps) := by
  unfold LN.vw LN.vwN
  simp only [h, oall_dat, e]
  rfl
theorem Enc.vwl (E : Enc k f q) {n : Addr} {as : List α} (h : S n = some (.lst (as.map fun a => .dat (f a)))) : LN.vw S (.loc n) = some (.list (as.map q)) := by
  refine vw_loc (ds := as.map f) ?_ (pys_map E.py as)
  rw [h, List.map_map]
  rfl
theorem Enc.rinl (E : Enc k f q) (hk : k ≤ 60) (a : α) {n : Addr} {as : List α} (h : S n = some (.lst (as.map fun a => .dat (f a)))) : rIn_ (.dat (f a)) (.loc n) S P = P (.dat (.bl (decide (a ∈ as)))) S := by
  rw [rIn_gen (E.vw S a) (.inl (E.vwl h)) (Nat.le_trans (E.deep a) hk), E.any]
theorem Enc.rninl (E : Enc k f q) (hk : k ≤ 60) (a : α) {n : Addr} {as : List α} (h : S n = some (.lst (as.map fun a => .dat (f a)))) : rNin_ (.dat (f a)) (.loc n) S P = P (.dat (.bl (!decide (a ∈ as)))) S := by
  rw [rNin_gen (E.vw S a) (.inl (E.vwl h)) (Nat.le_trans (E.deep a) hk), E.any]
end
section
variable {S : Sto} {P : G → Sto → Prop} {a b : List Str} {ls : List (List Str)} {x z : Str} {i j : Int} {s t : Bool}
theorem req_nm : rEq_ (.dat (.tup (a.map D.str))) (.dat (.tup (b.map D.str))) S P = P (.dat (.bl (decide (a = b)))) S := Enc.nm.req (by decide) a b
theorem rne_nm : rNe_ (.dat (.tup (a.map D.str))) (.dat (.tup (b.map D.str))) S P = P (.dat (.bl (!decide (a = b)))) S := Enc.nm.rne (by decide) a b
theorem req_nm0 : rEq_ (.dat (.tup (a.map D.str))) (.dat (.tup [])) S P = P (.dat (.bl (decide (a = [])))) S := Enc.nm.req (by decide) a []
theorem rne_nm0 : rNe_ (.dat (.tup (a.map D.str))) (.dat (.tup [])) S P = P (.dat (.bl (!decide (a = [])))) S := Enc.nm.rne (by decide) a []
theorem rin_nm : rIn_ (.dat (.tup (a.map D.str))) (.dat (.lst (ls.map fun n => .tup (n.map D.str)))) S P = P (.dat (.bl (decide (a ∈ ls)))) S := (Enc.nm.rin (by decide) a ls).trans (congrArg (fun b => P (.dat (.bl b)) S) (decide_eq_decide.mpr Iff.rfl))
theorem rnin_nm : rNin_ (.dat (.tup (a.map D.str))) (.dat (.lst (ls.map fun n => .tup (n.map D.str)))) S P = P (.dat (.bl (!decide (a ∈ ls)))) S := (Enc.nm.rnin (by decide) a ls).trans (congrArg (fun b => P (.dat (.bl (!b))) S) (decide_eq_decide.mpr Iff.rfl))
theorem req_str : rEq_ (.dat (.str x)) (.dat (.str z)) S P = P (.dat (.bl (decide (x = z)))) S := rfl
theorem rne_str : rNe_ (.dat (.str x)) (.dat (.str z)) S P = P (.dat (.bl (!decide (x = z)))) S := rfl
theorem req_int : rEq_ (.dat (.int i)) (.dat (.int j)) S P = P (.dat (.bl (decide (i = j)))) S := rfl
theorem rne_int : rNe_ (.dat (.int i)) (.dat (.int j)) S P = P (.dat (.bl (!decide (i = j)))) S := rfl
theorem req_bl : rEq_ (.dat (.bl s)) (.dat (.bl t)) S P = P (.dat (.bl (decide (s = t)))) S := rfl
theorem rne_bl : rNe_ (.dat (.bl s)) (.dat (.bl t)) S P = P (.dat (.bl (!decide (s = t)))) S := rfl
end
theorem cutA_map {α β : Type} (f : α → β) (xs : List α) (lo hi : Option Int) : cutA (xs.map f) lo hi = (cutA xs lo hi).map f := by
  unfold cutA
  rw [List.length_map, List.map_take, List.map_drop]
theorem cutA_from {α : Type} {xs : List α} {k : Nat} : cutA xs (some (k : Int)) none = xs.drop k := by
  unfold cutA
  rw [HT.sIx_none, HT.sIx_nat]
  by_cases h : k ≤ xs.length
  · rw [Nat.min_eq_left h]
    exact List.take_of_length_le (by simp)
  · rw [Nat.min_eq_right (by omega), List.drop_length, List.drop_of_length_le (by omega), List.take_nil]
theorem cutA_to {α : Type} {xs : List α} {k : Nat} : cutA xs none (some (k : Int)) = xs.take k := by
  unfold cutA
  rw [HT.sIx_none, HT.sIx_nat, List.drop_zero]
  by_cases h : k ≤ xs.length
  · rw [Nat.min_eq_left h, Nat.sub_zero]
  · rw [Nat.min_eq_right (by omega), Nat.sub_zero, List.take_length, List.take_of_length_le (by omega)]
theorem suffix_drop {α : Type} {t n : List α} (h : t.length ≤ n.length) : n.drop (n.length - t.length) = t ↔ t <:+ n := by
  constructor
  · intro e
    exact ⟨n.take (n.length - t.length), by rw [← e, List.length_drop, Nat.sub_sub_self (by omega)]; exact List.take_append_drop _ _⟩
  · rintro ⟨s, rfl⟩
    rw [List.length_append, Nat.add_sub_cancel, List.drop_left' rfl]
theorem intsub {a b : Nat} (h : b ≤ a) : (a : Int) - (b : Int) = ((a - b : Nat) : Int) := by omega
/-! where objects stand -/
theorem ne_new {S : Sto} {a b : Addr} {o : O} (h : S a = some o) (n : S b = none) : a ≠ b := fun z => by rw [z, n] at h; cases h
end LN

namespace LN
open PySem PySem.Spec PyProof.Rows L2
section
variable {X : Cx} {K : PySem.W.Frag} {R F H : Hp} {S : Sto}
/-! -x -/
def rNeg_ : RUn := fun x S P => match x with
  | .dat (.int i) => P (.dat (.int (-i))) S
  | _ => False
theorem ung_neg : UnR X (unaryOp .USub) (uG X.K rNeg_) := by
  rintro pins s σ H x u Q I rx ⟨R, S, F, P, gx, g, hx, h, on⟩
  unfold rNeg_ at h
  split at h
  · rename_i i
    cases (show Rp X.K F x (.int i) from hx)
    exact un_neg pins s σ H _ u Q I rx ⟨i, rfl, on.now g (x := .dat (.int (-i))) (.int _) h⟩
  · exact h.elim
/-! list(range(n)) -/
def rRng_ : RC := fun gs S P => match gs with
  | [.dat (.int i)] => ∀ p, S p = none → P (.loc p) (sup S p (.raw (.rng 0 i)))
  | _ => False
theorem crg_range : CallR X (.type "range") (cG X.K rRng_) := by
  rintro pins s σ H vs us Q I r ⟨R, S, F, P, gs, g, hv, h, on⟩
  unfold rRng_ at h
  split at h
  · rename_i i
    obtain ⟨v, rfl, hx⟩ := gvs1 hv
    cases (show Rp X.K F v (.int i) from hx)
    exact cr_range1 pins s σ H _ us Q I r ⟨i, rfl, fun p np => on _ _ F _ (.loc p) (g.alloc (u := .raw (.rng 0 i)) np ⟨upd_same, fun _ z => by cases z⟩) (Up.refl _) rfl (h p (g.fresh np).2.1)⟩
  · exact h.elim
def upTo (n : Nat) : List Int := (List.range n).map fun (i : Nat) => (i : Int)
theorem rp_upTo (n : Nat) : RpAll K F (upToV n) ((upTo n).map .int) := by
  unfold upToV upTo
  rw [List.map_map]
  generalize List.range n = l
  induction l with
  | nil => exact .nil
  | cons i l ih => exact .cons (.int _) ih
def rListRng_ : RC := fun gs S P => match gs with
  | [.loc p] => ∃ n : Nat, S p = some (.raw (.rng 0 n)) ∧ n ≤ 1000 ∧ P (.dat (.lst ((upTo n).map .int))) S
  | _ => False
theorem crg_listRng (calm : X.calm = true) : CallR X (.type "list") (cG X.K rListRng_) := by
  rintro pins s σ H vs us Q I r ⟨R, S, F, P, gs, g, hv, h, on⟩
  unfold rListRng_ at h
  split at h
  · rename_i p
    obtain ⟨v, rfl, hx⟩ := gvs1 hv
    obtain ⟨n, q, few, h⟩ := h
    obtain rfl := (show v = .ref p from hx)
    exact cr_listRange calm pins s σ H _ us Q I r ⟨p, n, rfl, (g.obj _ _ q).2.1, few, on_lst on g (rp_upTo n) h⟩
  · exact h.elim
end
end LN

namespace LN
open PySem PySem.Spec PyProof.Rows L2
section
variable {X : Cx} {K : PySem.W.Frag} {R F H : Hp} {S : Sto} {P : G → Sto → Prop} {Q : Bool → Sto → Prop} {E : XP} {Γ : List (Option G)} {g x y : G} {gs hs : List G} {i j : Int} {n m : Nat} {a b : Str} {s t : Bool} {ds es : List D} {d : D} {c p : Addr} {o : O} {f : Str}
/-! at the constructors -/
theorem gvar_0 : gVar 0 (some g :: Γ) S P E = P g S := rfl
theorem gvar_s {z : Option G} : gVar (n + 1) (z :: Γ) S P E = gVar n Γ S P E := rfl
theorem nth_0 {z : Option G} : LN.nth (z :: Γ) 0 = z := rfl
theorem nth_s {z : Option G} : LN.nth (z :: Γ) (n + 1) = LN.nth Γ n := rfl
theorem pad_0 {gs : List G} : pad [] gs = [] := by cases gs <;> rfl
theorem pad_n {N : List Str} : pad (a :: N) [] = none :: pad N [] := rfl
theorem pad_c {N : List Str} : pad (a :: N) (g :: gs) = some g :: pad N gs := rfl
theorem tru_non : tru S (.dat .non) = some false := rfl
theorem tru_bl : tru S (.dat (.bl s)) = some s := rfl
theorem tru_int : tru S (.dat (.int i)) = some (i != 0) := rfl
theorem tru_tup : tru S (.dat (.tup ds)) = some (!ds.isEmpty) := rfl
theorem tru_lst : tru S (.dat (.lst ds)) = some (!ds.isEmpty) := rfl
theorem tru_loc (h : S c = some (.lst gs)) : tru S (.loc c) = some (!gs.isEmpty) := by simp only [tru, h]
theorem allDat_nil : allDat [] = some [] := rfl
theorem allDat_cons : allDat (.dat d :: gs) = (allDat gs).map (d :: ·) := rfl
theorem allDat_app : ∀ {ds : List D} {gs : List G}, allDat (ds.map .dat ++ gs) = (allDat gs).map (ds ++ ·)
  | [], gs => by
    show allDat gs = _
    cases allDat gs <;> rfl
  | d :: ds, gs => by
    show (allDat (ds.map .dat ++ gs)).map (d :: ·) = _
    rw [allDat_app]
    cases allDat gs <;> rfl
theorem dseq_lst : dseq S (.dat (.lst ds)) = some ds := rfl
theorem dseq_tup : dseq S (.dat (.tup ds)) = some ds := rfl
theorem dseq_loc (h : S c = some (.lst gs)) : dseq S (.loc c) = allDat gs := by simp only [dseq, h]
theorem dlst_lst' : dlst S (.dat (.lst ds)) = some ds := rfl
theorem dlst_loc (h : S c = some (.lst gs)) : dlst S (.loc c) = allDat gs := by simp only [dlst, h]
theorem lstOf_lst : lstOf S (.dat (.lst ds)) = some (ds.map .dat) := rfl
theorem lstOf_loc (h : S c = some (.lst gs)) : lstOf S (.loc c) = some gs := by simp only [lstOf, h]
theorem seqOf_lst : seqOf S (.dat (.lst ds)) = some (ds.map .dat) := rfl
theorem seqOf_tup : seqOf S (.dat (.tup ds)) = some (ds.map .dat) := rfl
theorem seqOf_loc (h : S c = some (.lst gs)) : seqOf S (.loc c) = some gs := by simp only [seqOf, h]
theorem tupOf_tup : tupOf (.dat (.tup ds)) = some ds := rfl
theorem ownAt_loc (h : S c = some (.lst gs)) : ownAt S c = some gs := by simp only [ownAt, h]
theorem rAdd_int : rAdd_ (.dat (.int i)) (.dat (.int j)) S P = P (.dat (.int (i + j))) S := rfl
theorem rAdd_str : rAdd_ (.dat (.str a)) (.dat (.str b)) S P = (a.length + b.length ≤ sizeLine ∧ P (.dat (.str (a ++ b))) S) := rfl
theorem rAdd_tup : rAdd_ (.dat (.tup ds)) (.dat (.tup es)) S P = (ds.length + es.length ≤ sizeLine ∧ P (.dat (.tup (ds ++ es))) S) := rfl
theorem rAdd_lst : rAdd_ (.dat (.lst ds)) (.dat (.lst es)) S P = (ds.length + es.length ≤ sizeLine ∧ P (.dat (.lst (ds ++ es))) S) := rfl
theorem rSub_int : rSub_ (.dat (.int i)) (.dat (.int j)) S P = P (.dat (.int (i - j))) S := rfl
theorem rMul_int : rMul_ (.dat (.int i)) (.dat (.int j)) S P = (CMul i j ∧ P (.dat (.int (i * j))) S) := rfl
theorem rMul_str : rMul_ (.dat (.str a)) (.dat (.int j)) S P = (MulOk a j ∧ P (.dat (.str (Txt.mul a j))) S) := rfl
theorem rMod_int : rMod_ (.dat (.int i)) (.dat (.int j)) S P = (0 < j ∧ P (.dat (.int (i % j))) S) := rfl
theorem rFdv_int : rFdv_ (.dat (.int i)) (.dat (.int j)) S P = (CDiv i j ∧ P (.dat (.int (i / j))) S) := rfl
theorem rLt_int : rLt_ (.dat (.int i)) (.dat (.int j)) S P = P (.dat (.bl (decide (i < j)))) S := rfl
theorem rLe_int : rLe_ (.dat (.int i)) (.dat (.int j)) S P = P (.dat (.bl (decide (i ≤ j)))) S := rfl
theorem rGt_int : rGt_ (.dat (.int i)) (.dat (.int j)) S P = P (.dat (.bl (decide (j < i)))) S := rfl
theorem rGe_int : rGe_ (.dat (.int i)) (.dat (.int j)) S P = P (.dat (.bl (decide (j ≤ i)))) S := rfl
theorem rLt_str : rLt_ (.dat (.str a)) (.dat (.str b)) S P = P (.dat (.bl (decide (a.cps.toList < b.cps.toList)))) S := rfl
theorem rLe_str : rLe_ (.dat (.str a)) (.dat (.str b)) S P = P (.dat (.bl (!decide (b.cps.toList < a.cps.toList)))) S := rfl
theorem rNeg_int : rNeg_ (.dat (.int i)) S P = P (.dat (.int (-i))) S := rfl
theorem rIs_non : rIs_ (.dat .non) (.dat .non) S P = P (.dat (.bl true)) S := rfl
theorem rIs_int : rIs_ (.dat (.int i)) (.dat .non) S P = P (.dat (.bl false)) S := rfl
theorem rIs_tup : rIs_ (.dat (.tup ds)) (.dat .non) S P = P (.dat (.bl false)) S := rfl
theorem rIs_lst : rIs_ (.dat (.lst ds)) (.dat .non) S P = P (.dat (.bl false)) S := rfl
theorem rIs_str : rIs_ (.dat (.str a)) (.dat .non) S P = P (.dat (.bl false)) S := rfl
theorem rIs_bl : rIs_ (.dat (.bl s)) (.dat .non) S P = P (.dat (.bl false)) S := rfl
theorem rIsn_non : rIsn_ (.dat .non) (.dat .non) S P = P (.dat (.bl false)) S := rfl
theorem rIsn_int : rIsn_ (.dat (.int i)) (.dat .non) S P = P (.dat (.bl true)) S := rfl
theorem rIsn_tup : rIsn_ (.dat (.tup ds)) (.dat .non) S P = P (.dat (.bl true)) S := rfl
theorem rIsn_lst : rIsn_ (.dat (.lst ds)) (.dat .non) S P = P (.dat (.bl true)) S := rfl
theorem rIsn_str : rIsn_ (.dat (.str a)) (.dat .non) S P = P (.dat (.bl true)) S := rfl
theorem rIsn_bl : rIsn_ (.dat (.bl s)) (.dat .non) S P = P (.dat (.bl true)) S := rfl
theorem rIx_lst : rIx_ (.dat (.lst ds)) (.dat (.int i)) S P = ∃ g, atI (ds.map .dat) i = some g ∧ P g S := rfl
theorem rIx_tup : rIx_ (.dat (.tup ds)) (.dat (.int i)) S P = ∃ g, atI (ds.map .dat) i = some g ∧ P g S := rfl
theorem rIx_str : rIx_ (.dat (.str a)) (.dat (.int i)) S P = (a.length ≤ sizeLine ∧ ∃ c, atI a.cps.toList i = some c ∧ P (.dat (.str ⟨#[c]⟩)) S) := rfl
theorem rIx_loc (h : S c = some (.lst gs)) : rIx_ (.loc c) (.dat (.int i)) S P = ∃ g, atI gs i = some g ∧ P g S := by simp only [rIx_, seqOf, h]
theorem rLen_str : rLen_ [.dat (.str a)] S P = (a.length ≤ sizeLine ∧ P (.dat (.int a.length)) S) := rfl
theorem rLen_lst : rLen_ [.dat (.lst ds)] S P = P (.dat (.int ds.length)) S := by
  show P (.dat (.int (ds.map G.dat).length)) S = _
  rw [List.length_map]
theorem rLen_tup : rLen_ [.dat (.tup ds)] S P = P (.dat (.int ds.length)) S := by
  show P (.dat (.int (ds.map G.dat).length)) S = _
  rw [List.length_map]
theorem rLen_loc (h : S c = some (.lst gs)) : rLen_ [.loc c] S P = P (.dat (.int gs.length)) S := by simp only [rLen_, seqOf, h]
theorem rAbs_int : rAbs_ [.dat (.int i)] S P = P (.dat (.int (if i < 0 then -i else i))) S := rfl
theorem rInt_int : rInt_ [.dat (.int i)] S P = P (.dat (.int i)) S := rfl
theorem rTuple_tup : rTuple_ [.dat (.tup ds)] S P = P (.dat (.tup ds)) S := rfl
theorem rTuple_lst : rTuple_ [.dat (.lst ds)] S P = P (.dat (.tup ds)) S := rfl
theorem rList_lst : rList_ [.dat (.lst ds)] S P = P (.dat (.lst ds)) S := rfl
theorem rList_tup : rList_ [.dat (.tup ds)] S P = P (.dat (.lst ds)) S := rfl
theorem rAll_bls {bs : List Bool} : rAll_ [.dat (.lst (bs.map .bl))] S P = P (.dat (.bl (bs.all id))) S := by
  show (match (some (bs.map D.bl)).bind allBl with | some bs => P (.dat (.bl (bs.all id))) S | none => False) = _
  rw [Option.bind_some, allBl_map]
theorem rAny_bls {bs : List Bool} : rAny_ [.dat (.lst (bs.map .bl))] S P = P (.dat (.bl (bs.any id))) S := by
  show (match (some (bs.map D.bl)).bind allBl with | some bs => P (.dat (.bl (bs.any id))) S | none => False) = _
  rw [Option.bind_some, allBl_map]
theorem rAll_map {α : Type} {as : List α} {q : α → Bool} : rAll_ [.dat (.lst (as.map fun a => .bl (q a)))] S P = P (.dat (.bl (as.all q))) S := by
  have := rAll_bls (S := S) (P := P) (bs := as.map q)
  rw [List.map_map, List.all_map] at this
  exact this
theorem rAny_map {α : Type} {as : List α} {q : α → Bool} : rAny_ [.dat (.lst (as.map fun a => .bl (q a)))] S P = P (.dat (.bl (as.any q))) S := by
  have := rAny_bls (S := S) (P := P) (bs := as.map q)
  rw [List.map_map, List.any_map] at this
  exact this
theorem rApp_loc (h : S c = some (.lst gs)) : rApp_ (.loc c) [x] S P = (gs.length < 100000 ∧ P (.dat .non) (sup S c (.lst (gs ++ [x])))) := by simp only [rApp_, ownAt, h]
theorem rIns_loc (h : S c = some (.lst gs)) : rIns_ (.loc c) [.dat (.int i), x] S P = (gs.length < 100000 ∧ 0 ≤ i ∧ i < 2 ^ 63 ∧ P (.dat .non) (sup S c (.lst (gs.take i.toNat ++ [x] ++ gs.drop i.toNat)))) := by simp only [rIns_, ownAt, h]
theorem isLst_loc (h : S c = some (.lst gs)) : isLst S (.loc c) = True := eq_true ⟨gs, by simp only [lstOf, h]⟩
theorem isLst_lst : isLst S (.dat (.lst ds)) = True := eq_true ⟨_, rfl⟩
theorem rSl_tup {lo hi : Option Int} : rSl_ (.dat (.tup ds)) lo hi S P = P (.dat (.tup (cutA ds lo hi))) S := rfl
theorem rSl_lst {lo hi : Option Int} : rSl_ (.dat (.lst ds)) lo hi S P = P (.dat (.lst (cutA ds lo hi))) S := rfl
theorem rSl_str {lo hi : Option Int} : rSl_ (.dat (.str a)) lo hi S P = (a.length ≤ sizeLine ∧ P (.dat (.str (Txt.slice a lo hi))) S) := rfl
theorem rSl_loc {lo hi : Option Int} (h : S c = some (.lst gs)) (e : allDat gs = some ds) : rSl_ (.loc c) lo hi S P = P (.dat (.lst (cutA ds lo hi))) S := by simp only [rSl_, dlst, h, e]
/-! own objects -/
theorem fldOf_obj {C : Addr} {fs : List (Str × D)} : fldOf S f (.dat (.obj C fs)) = (fs.lookup f).map fun d => (C, .dat d) := rfl
theorem fldOf_loc {C : Addr} {fs : List (Str × G)} (h : S c = some (.ins C fs)) : fldOf S f (.loc c) = (fs.lookup f).map fun y => (C, y) := by simp only [fldOf, h]
theorem isOf_obj {C C' : Addr} {fs : List (Str × D)} : isOf S C (.dat (.obj C' fs)) = (C' = C) := rfl
theorem isOf_loc {C C' : Addr} {fs : List (Str × G)} (h : S c = some (.ins C' fs)) : isOf S C (.loc c) = (C' = C) := by simp only [isOf, h]
theorem isOfM_obj {C C' : Addr} {fs : List (Str × D)} : isOfM S C f (.dat (.obj C' fs)) = (C' = C ∧ fs.lookup f = none) := rfl
theorem isOfM_loc {C C' : Addr} {fs : List (Str × G)} (h : S c = some (.ins C' fs)) : isOfM S C f (.loc c) = (C' = C ∧ fs.lookup f = none) := by simp only [isOfM, h]
/-! isinstance -/
theorem isi_gen {m n : String} (e : tyG S x = some (.ty m)) (hm : m ∈ tyNames) (hn : n ∈ clNames) : rIsi_ K [x, .dat (.val (.ty n))] S P = P (.dat (.bl (isB m n))) S := by
  show (match tyG S x with | some t => (∀ C, t = Ty.own C → OwnC K C) ∧ oneCl K t (.val (.ty n)) fun b => P (.dat (.bl b)) S | none => False) = _
  rw [e]
  simp [oneCl, hm, hn]
theorem isi_gen2 {m n n' : String} (e : tyG S x = some (.ty m)) (hm : m ∈ tyNames) (hn : n ∈ clNames) (hn' : n' ∈ clNames) : rIsi_ K [x, .dat (.tup [.val (.ty n), .val (.ty n')])] S P = P (.dat (.bl (isB m n || isB m n'))) S := by
  show (match tyG S x with | some t => (∀ C, t = Ty.own C → OwnC K C) ∧ oneCl K t (.val (.ty n)) fun b1 => oneCl K t (.val (.ty n')) fun b2 => P (.dat (.bl (b1 || b2))) S | none => False) = _
  rw [e]
  simp [oneCl, hm, hn, hn']
theorem isi_own {C : Addr} {n : String} (e : tyG S x = some (.own C)) (o : OwnC K C) (hn : n ∈ clNames) : rIsi_ K [x, .dat (.val (.ty n))] S P = P (.dat (.bl false)) S := by
  show (match tyG S x with | some t => (∀ C, t = Ty.own C → OwnC K C) ∧ oneCl K t (.val (.ty n)) fun b => P (.dat (.bl b)) S | none => False) = _
  rw [e]
  simp only [oneCl, hn, true_and]
  exact propext ⟨fun h => h.2, fun h => ⟨fun C' z => by cases z; exact o, h⟩⟩
theorem isi_cls {C C' : Addr} {b : Bool} (e : tyG S x = some (.own C)) (o : OwnC K C) (k : PySem.W.kitOne K (.ref C) (.ref C') = some b) : rIsi_ K [x, .dat (.val (.ref C'))] S P = P (.dat (.bl b)) S := by
  show (match tyG S x with | some t => (∀ C, t = Ty.own C → OwnC K C) ∧ oneCl K t (.val (.ref C')) fun b => P (.dat (.bl b)) S | none => False) = _
  rw [e]
  simp only [oneCl, Ty.v]
  refine propext ⟨fun h => ?_, fun h => ⟨fun C' z => by cases z; exact o, b, k, h⟩⟩
  obtain ⟨_, b', k', h⟩ := h
  rw [k] at k'
  cases k'
  exact h
theorem isi_ii : rIsi_ K [.dat (.int i), .dat (.val (.ty "int"))] S P = P (.dat (.bl true)) S := isi_gen (m := "int") (n := "int") rfl (by decide) (by decide)
theorem isi_ib : rIsi_ K [.dat (.int i), .dat (.val (.ty "bool"))] S P = P (.dat (.bl false)) S := isi_gen (m := "int") (n := "bool") rfl (by decide) (by decide)
theorem isi_ss : rIsi_ K [.dat (.str a), .dat (.val (.ty "str"))] S P = P (.dat (.bl true)) S := isi_gen (m := "str") (n := "str") rfl (by decide) (by decide)
theorem isi_tt : rIsi_ K [.dat (.tup ds), .dat (.val (.ty "tuple"))] S P = P (.dat (.bl true)) S := isi_gen (m := "tuple") (n := "tuple") rfl (by decide) (by decide)
theorem isi_ll : rIsi_ K [.dat (.lst ds), .dat (.val (.ty "list"))] S P = P (.dat (.bl true)) S := isi_gen (m := "list") (n := "list") rfl (by decide) (by decide)
theorem isi_bb : rIsi_ K [.dat (.bl s), .dat (.val (.ty "bool"))] S P = P (.dat (.bl true)) S := isi_gen (m := "bool") (n := "bool") rfl (by decide) (by decide)
theorem isi_llt : rIsi_ K [.dat (.lst ds), .dat (.tup [.val (.ty "list"), .val (.ty "tuple")])] S P = P (.dat (.bl true)) S := isi_gen2 (m := "list") (n := "list") (n' := "tuple") rfl (by decide) (by decide) (by decide)
theorem isi_dd {kvs : List (List L2.Key × G)} (h : S c = some (.dct kvs)) : rIsi_ K [.loc c, .dat (.val (.ty "dict"))] S P = P (.dat (.bl true)) S := isi_gen (m := "dict") (by simp only [tyG, h]) (by decide) (by decide)
/-! dicts -/
theorem dctOf_loc {kvs : List (List L2.Key × G)} (h : S c = some (.dct kvs)) : dctOf S (.loc c) = some kvs := by simp only [dctOf, h]
theorem dctOf_lk {od : Obj} {ks : List (List L2.Key × V)} {kvs : List (List L2.Key × G)} (h : S c = some (.dlk od ks kvs)) : dctOf S (.loc c) = some kvs := by simp only [dctOf, h]
/-- a name as a key -/
def kN (n : List Str) : List L2.Key := n.map .inr
theorem kN_inj {a b : List Str} : kN a = kN b ↔ a = b := by
  constructor
  · intro h
    exact (List.map_inj_right (fun x y z => Sum.inr.inj z)).mp h
  · exact fun h => h ▸ rfl
theorem dkeys_nm : ∀ n : List Str, dkeys (n.map D.str) = some (kN n)
  | [] => rfl
  | z :: n => by
    show (dkeys (n.map D.str)).map (Sum.inr z :: ·) = _
    rw [dkeys_nm n]
    rfl
theorem dkey_nm {n : List Str} : dkey (.tup (n.map .str)) = some (kN n) := dkeys_nm n
theorem keyG_nm {n : List Str} : keyG (.dat (.tup (n.map .str))) = some (kN n) := dkeys_nm n
theorem keyT_nm {n : List Str} : keyT (kN n) = .tup (n.map .str) := by
  unfold keyT kN
  rw [List.map_map]
  rfl
theorem rDGet_at {kvs : List (List L2.Key × G)} {key : List L2.Key} (h1 : dctOf S x = some kvs) (h2 : dkey d = some key) : rDGet_ x (.dat d) S P = (match look kvs key with
  | some z => P z S
  | none => False) := by
  simp only [rDGet_, h1, h2]
  all_goals rfl
theorem rDIn_at {kvs : List (List L2.Key × G)} {key : List L2.Key} (h1 : dctOf S x = some kvs) (h2 : dkey d = some key) : rDIn_ (.dat d) x S P = P (.dat (.bl (look kvs key).isSome)) S := by simp only [rDIn_, h1, h2]
theorem rDNin_at {kvs : List (List L2.Key × G)} {key : List L2.Key} (h1 : dctOf S x = some kvs) (h2 : dkey d = some key) : rDNin_ (.dat d) x S P = P (.dat (.bl (!(look kvs key).isSome))) S := by simp only [rDNin_, h1, h2]
theorem rDLen_at {kvs : List (List L2.Key × G)} (h1 : dctOf S x = some kvs) : rDLen_ [x] S P = P (.dat (.int kvs.length)) S := by simp only [rDLen_, h1]
theorem rDList_at {kvs : List (List L2.Key × G)} (h1 : dctOf S x = some kvs) : rDList_ [x] S P = P (.dat (.lst (kvs.map fun p => keyT p.1))) S := by simp only [rDList_, h1]
end
theorem cx_K {CX : CXT} {P : Program} {w : World} {K : PySem.W.Frag} {mg : Str → Option Value} {base : Heap} {N : List Str} {qual : Str} {scope : Scope} {f : Addr} {cd : Value} {A : Around} {outer : List Env} {s : Shared} {H : Hp} {E : XK} : (cxOf CX P w K mg base N qual scope f cd A outer s H E).K = K := rfl
theorem blk_K {X : Cx} {s : Shared} {H : Hp} {sc : Scope} {env : Env} {fp : List Addr} : (X.blk s H sc env fp).K = X.K := rfl
theorem if_dec {p : Prop} [Decidable p] {A B : Prop} (h1 : p → A) (h2 : ¬ p → B) : if decide p = true then A else B := by
  by_cases h : p
  · rw [if_pos (decide_eq_true h)]; exact h1 h
  · rw [if_neg (by simp [h])]; exact h2 h
theorem if_b {b : Bool} {A B : Prop} (h1 : b = true → A) (h2 : b = false → B) : if b = true then A else B := by
  cases b with
  | true => exact h1 rfl
  | false => exact h2 rfl
theorem rt_b {P : G → Sto → Prop} {X : XP} {S : Sto} {b c : Bool} (e : b = c) (q : P (.dat (.bl c)) S) : (endG P X).rt (.dat (.bl b)) S := rt_now (e ▸ q)
theorem rt_n {P : G → Sto → Prop} {X : XP} {S : Sto} {i j : Int} (e : i = j) (q : P (.dat (.int j)) S) : (endG P X).rt (.dat (.int i)) S := rt_now (e ▸ q)
theorem rt_e {P : G → Sto → Prop} {X : XP} {S : Sto} {a b : D} (e : a = b) (q : P (.dat b) S) : (endG P X).rt (.dat a) S := rt_now (e ▸ q)
theorem gwipe_0 {Γ : List (Option G)} : gwipe Γ [] = Γ := rfl
theorem gwipe_s {Γ : List (Option G)} {v : Nat} {vs : List Nat} : gwipe Γ (v :: vs) = (gwipe Γ vs).set v none := rfl
section
variable {T : Tgt} {gt : GRB} {ge : GR} {Γw : List (Option G)} {st : Sto → Prop} {P : G → Sto → Prop} {S : Sto} {α : Type}
theorem LR.mapD (as : List α) (enc f : α → D) (hs : st S) (hl : as.length ≤ 100000)
    (turn : ∀ a ∈ as, ∀ (k1 : G → Sto → Prop), k1 (.dat (f a)) S → T.put (.dat (enc a)) Γw fun Γ2 => ge Γ2 S k1 never)
    (q : P (.dat (.lst (as.map f))) S) : LR T gYes ge Γw st finF P ((as.map enc).map .dat) [] S := by
  rw [List.map_map]
  exact LR.mapF as (fun a => .dat (enc a)) f hs hl turn q
theorem LR.selD (as : List α) (enc : α → D) (p : α → Bool) (f : α → D) (hs : st S) (hl : as.length ≤ 100000)
    (turn : ∀ a ∈ as, ∀ (k1 : G → Sto → Prop) (k2 : Sto → Prop), (p a = true → k1 (.dat (f a)) S) → (p a = false → k2 S) → T.put (.dat (enc a)) Γw fun Γ2 => gt Γ2 S (fun b S3 => if b = true then ge Γ2 S3 k1 never else k2 S3) never)
    (q : P (.dat (.lst ((as.filter p).map f))) S) : LR T gt ge Γw st finF P ((as.map enc).map .dat) [] S := by
  rw [List.map_map]
  exact LR.selF as (fun a => .dat (enc a)) p f hs hl turn q
theorem LR.allD {β : Type} (as : List α) (enc : α → D) (f : β → D) (Ψ : α → β → Prop) (hs : st S) (hl : as.length ≤ 100000)
    (turn : ∀ a ∈ as, ∀ (k1 : G → Sto → Prop), (∀ b, Ψ a b → k1 (.dat (f b)) S) → T.put (.dat (enc a)) Γw fun Γ2 => ge Γ2 S k1 never)
    (q : ∀ bs : List β, Paired Ψ as bs → P (.dat (.lst (bs.map f))) S) : LR T gYes ge Γw st finF P ((as.map enc).map .dat) [] S := by
  rw [List.map_map]
  exact LR.allF as (fun a => .dat (enc a)) f Ψ hs hl turn q
end
theorem cutA_last {α : Type} {xs : List α} {k : Nat} (hk : 1 ≤ k) : cutA xs (some (-(k : Int))) none = xs.drop (xs.length - k) := by
  unfold cutA
  have e : HT.sIx xs.length 0 (some (-(k : Int))) = xs.length - k := by
    show (if -(k : Int) < 0 then (-(k : Int) + (xs.length : Int)).toNat else _) = _
    rw [if_pos (by omega)]
    omega
  rw [HT.sIx_none, e]
  exact List.take_of_length_le (by simp)
section
variable {S : Sto} {P : G → Sto → Prop} {x : G} {gs : List G} {i : Int}
theorem rLen_of (h : lstOf S x = some gs) : rLen_ [x] S P = P (.dat (.int gs.length)) S := by
  cases x with
  | loc n => 
    show (match lstOf S (.loc n) with | some xs => P (.dat (.int xs.length)) S | none => False) = _
    rw [h]
  | dat d =>
    cases d with
    | lst ds =>
      cases h
      rw [rLen_lst, List.length_map]
    | _ => exact nomatch (show none = some _ from h)
theorem rIx_of (h : lstOf S x = some gs) : rIx_ x (.dat (.int i)) S P = ∃ g, atI gs i = some g ∧ P g S := by
  cases x with
  | loc n =>
    show (match lstOf S (.loc n) with | some gs => ∃ g, atI gs i = some g ∧ P g S | none => False) = _
    rw [h]
  | dat d =>
    cases d with
    | lst ds => cases h; rfl
    | _ => exact nomatch (show none = some _ from h)
end
theorem ix_map {α β : Type} {f : α → β} {as : List α} {j : Nat} {a : α} (h : as[j]? = some a) : atI (as.map f) (j : Int) = some (f a) := atI_nat (by rw [List.getElem?_map, h]; rfl)
theorem ix_dat {α : Type} {f : α → D} {as : List α} {j : Nat} {a : α} (h : as[j]? = some a) : atI ((as.map f).map G.dat) (j : Int) = some (.dat (f a)) := ix_map (by rw [List.getElem?_map, h]; rfl)
section
variable {α : Type} [DecidableEq α] {k : Nat} {f : α → D} {q : α → PyData} {S : Sto} {P : G → Sto → Prop}
theorem Enc.rnel (E : Enc k f q) (hk : k + 1 ≤ 60) {n : Addr} {as : List α} (bs : List α) (h : S n = some (.lst (as.map fun a => .dat (f a)))) : rNe_ (.loc n) (.dat (.lst (bs.map f))) S P = P (.dat (.bl (!decide (as = bs)))) S := by
  rw [rNe_gen (E.vwl h) (E.lst.vw S bs) (Nat.le_trans (E.lst.deep as) hk), E.lst.eq]
theorem Enc.reql (E : Enc k f q) (hk : k + 1 ≤ 60) {n : Addr} {as : List α} (bs : List α) (h : S n = some (.lst (as.map fun a => .dat (f a)))) : rEq_ (.loc n) (.dat (.lst (bs.map f))) S P = P (.dat (.bl (decide (as = bs)))) S := by
  rw [rEq_gen (E.vwl h) (E.lst.vw S bs) (Nat.le_trans (E.lst.deep as) hk), E.lst.eq]
end
/-- None, or data of one kind -/
def optD {α : Type} (f : α → D) : Option α → D
  | none => .non
  | some a => f a
def optQ {α : Type} (q : α → PyData) : Option α → PyData
  | none => .none
  | some a => q a
theorem Enc.opt {α : Type} [DecidableEq α] {k : Nat} {f : α → D} {q : α → PyData} (E : Enc k f q) (h : ∀ a, PyData.eqv .none (q a) = false ∧ PyData.eqv (q a) .none = false) : Enc k (optD f) (optQ q) := by
  refine ⟨fun a => ?_, fun a => ?_, fun a b => ?_⟩
  · cases a with
    | none => rfl
    | some a => exact E.py a
  · cases a with
    | none => exact Nat.zero_le _
    | some a => exact E.deep a
  · cases a with
    | none =>
      cases b with
      | none => rfl
      | some b => exact (h b).1.trans (by simp)
    | some a =>
      cases b with
      | none => exact (h a).2.trans (by simp)
      | some b => 
        rw [show PyData.eqv (optQ q (some a)) (optQ q (some b)) = decide (a = b) from E.eq a b]
        exact decide_eq_decide.mpr (by rw [Option.some.injEq])
/-- the place of the first equal one -/
theorem Enc.idx {α : Type} [DecidableEq α] {k : Nat} {f : α → D} {q : α → PyData} (E : Enc k f q) (hk : k ≤ 60) {S : Sto} {P : G → Sto → Prop} {a : α} {l r : List α} (h : a ∉ l) (p : P (.dat (.int (l.length : Nat))) S) : rIdx_ (.dat (.lst ((l ++ a :: r).map f))) [.dat (f a)] S P := by
  refine ⟨_, _, l.length, q a, E.lst.vw S (l ++ a :: r), E.vw S a, Nat.le_trans (E.deep a) hk, ?_, ?_, fun m z' hm hz => ?_, p⟩
  · rw [List.getElem?_map, List.getElem?_append_right (Nat.le_refl _), Nat.sub_self]
    rfl
  · rw [E.eq]; simp
  · rw [List.getElem?_map, List.getElem?_append_left hm] at hz
    obtain ⟨b, hb, rfl⟩ := Option.map_eq_some_iff.mp hz
    rw [E.eq]
    exact decide_eq_false fun z => h (z ▸ List.mem_of_getElem? hb)
theorem rne_locnm {S : Sto} {P : G → Sto → Prop} {c : Addr} {ls : List (List Str)} (h : S c = some (.lst (ls.map fun n => nm n))) : rNe_ (.loc c) (.dat (.lst [])) S P = P (.dat (.bl (!decide (ls = [])))) S := Enc.nm.rnel (by decide) [] h
theorem rnin_locnm {S : Sto} {P : G → Sto → Prop} {c : Addr} {n : List Str} {ls : List (List Str)} (h : S c = some (.lst (ls.map fun n => nm n))) : rNin_ (nm n) (.loc c) S P = P (.dat (.bl (!decide (n ∈ ls)))) S :=
  (Enc.nm.rninl (by decide) n h).trans (congrArg (fun b => P (.dat (.bl (!b))) S) (decide_eq_decide.mpr Iff.rfl))
theorem rin_locnm {S : Sto} {P : G → Sto → Prop} {c : Addr} {n : List Str} {ls : List (List Str)} (h : S c = some (.lst (ls.map fun n => nm n))) : rIn_ (nm n) (.loc c) S P = P (.dat (.bl (decide (n ∈ ls)))) S :=
  (Enc.nm.rinl (by decide) n h).trans (congrArg (fun b => P (.dat (.bl b)) S) (decide_eq_decide.mpr Iff.rfl))
theorem FZf.all {S : Sto} : ∀ fs : List (Str × D), FZf S (fs.map fun p => (p.1, .dat p.2)) fs S
  | [] => .nil
  | (k, d) :: fs => .cons .dat (FZf.all fs)
/-- a new object of data, changed no more -/
theorem FZ.o {S : Sto} {a C : Addr} {fs : List (Str × D)} (e : S a = some (.ins C (fs.map fun p => (p.1, .dat p.2)))) : FZ S (.loc a) (.obj C fs) (sdel S a) := .ins e (FZf.all fs)
/-- a loop, the items done so far -/
theorem FR.walk {α : Type} {t : GRT} {tb : GRS} {d : GEnds} {st : Sto → Prop} {Γ : List (Option G)} {S : Sto} (as : List α) (enc : α → G) (Inv : List α → List (Option G) → Sto → Prop) (h0 : Inv [] Γ S) (hst : ∀ l Γ' S', Inv l Γ' S' → st S')
    (turn : ∀ l a r Γ' S', as = l ++ a :: r → Inv l Γ' S' → t (enc a) Γ' S' fun Γ2 S2 => ∀ k : List (Option G) → Sto → Prop, (∀ Γ4 S4, Inv (l ++ [a]) Γ4 S4 → k Γ4 S4) → tb { d with
      nx := fun Γ3 S3 => ∃ Γ4 S4, Gh Γ3 S3 Γ4 S4 ∧ k Γ4 S4
      ct := fun Γ3 S3 => ∃ Γ4 S4, Gh Γ3 S3 Γ4 S4 ∧ k Γ4 S4
      bk := d.nx } Γ2 S2)
    (mono : ∀ x Γ S (P Q : List (Option G) → Sto → Prop), (∀ Γ S, P Γ S → Q Γ S) → t x Γ S P → t x Γ S Q)
    (hd : ∀ Γ' S', Inv as Γ' S' → d.nx Γ' S') : FR t tb d st (as.map enc) Γ S := by
  refine FR.inv (fun i Γ' S' => Inv (as.take i) Γ' S') h0 (fun i Γ' S' _ h => hst _ _ _ h) (fun i x Γ' S' hx h => ?_) mono (fun Γ' S' h => ?_)
  · rw [List.getElem?_map] at hx
    obtain ⟨a, ha, rfl⟩ := Option.map_eq_some_iff.mp hx
    obtain ⟨hi, e⟩ := List.getElem?_eq_some_iff.mp ha
    have split : as = as.take i ++ a :: as.drop (i + 1) := by
      rw [← e, ← drop_at hi, List.take_append_drop]
    refine mono _ _ _ _ _ (fun Γ2 S2 q k hk => q k fun Γ4 S4 h4 => hk Γ4 S4 ?_) (turn (as.take i) a (as.drop (i + 1)) Γ' S' split h)
    show Inv (as.take (i + 1)) Γ4 S4
    rw [List.take_succ, ha]
    exact h4
  · rw [List.length_map, List.take_length] at h
    exact hd _ _ h
theorem FR.walkD {α : Type} {t : GRT} {tb : GRS} {d : GEnds} {st : Sto → Prop} {Γ : List (Option G)} {S : Sto} (as : List α) (enc : α → D) (Inv : List α → List (Option G) → Sto → Prop) (h0 : Inv [] Γ S) (hst : ∀ l Γ' S', Inv l Γ' S' → st S')
    (turn : ∀ l a r Γ' S', as = l ++ a :: r → Inv l Γ' S' → t (.dat (enc a)) Γ' S' fun Γ2 S2 => ∀ k : List (Option G) → Sto → Prop, (∀ Γ4 S4, Inv (l ++ [a]) Γ4 S4 → k Γ4 S4) → tb { d with
      nx := fun Γ3 S3 => ∃ Γ4 S4, Gh Γ3 S3 Γ4 S4 ∧ k Γ4 S4
      ct := fun Γ3 S3 => ∃ Γ4 S4, Gh Γ3 S3 Γ4 S4 ∧ k Γ4 S4
      bk := d.nx } Γ2 S2)
    (mono : ∀ x Γ S (P Q : List (Option G) → Sto → Prop), (∀ Γ S, P Γ S → Q Γ S) → t x Γ S P → t x Γ S Q)
    (hd : ∀ Γ' S', Inv as Γ' S' → d.nx Γ' S') : FR t tb d st ((as.map enc).map .dat) Γ S := by
  rw [List.map_map]
  exact FR.walk as (fun a => .dat (enc a)) Inv h0 hst turn mono hd
/-- a dict's entries, one by one -/
theorem DR.map {T : Tgt} {gk gv : GR} {Γw : List (Option G)} {st : Sto → Prop} {P : G → Sto → Prop} {S : Sto} {α : Type} (hs : st S) (enc : α → G) (key : α → List L2.Key) (val : α → G) : ∀ (as : List α) (acc : List (List L2.Key × G)), acc.length + as.length ≤ 100000 →
    (∀ a ∈ as, ∀ (k1 : G → G → Sto → Prop), (∀ y, keyG y = some (key a) → k1 y (val a) S) → T.put (enc a) Γw fun Γ2 => gk Γ2 S (fun y S4 => gv Γ2 S4 (fun z S5 => k1 y z S5) never) never) →
    (∀ p, S p = none → P (.loc p) (sup S p (.dct (mergeL acc (as.map fun a => (key a, val a)))))) → DR T gYes gk gv Γw st P (as.map enc) acc S
  | [], acc, _, _, q => ⟨hs, q⟩
  | a :: as, acc, hl, turn, q => by
    rw [List.length_cons] at hl
    refine ⟨hs, ?_⟩
    have go := turn a List.mem_cons_self (fun y z S5 => ∃ key, keyG y = some key ∧ acc.length < 100000 ∧ DR T gYes gk gv Γw st P (as.map enc) (putL acc key z) S5) fun y hy => ⟨key a, hy, by omega, ?_⟩
    · unfold gYes
      simp only [if_true]
      exact go
    · refine DR.map hs enc key val as _ ?_ (fun b hb => turn b (List.mem_cons_of_mem _ hb)) q
      have : (putL acc (key a) (val a)).length ≤ acc.length + 1 := by
        unfold putL
        split
        · rw [List.length_map]; omega
        · simp
      omega
theorem merge_self {κ β : Type} [DecidableEq κ] : ∀ (u t : List (κ × β)), ((t ++ u).map (·.1)).Nodup → mergeL t u = t ++ u
  | [], t, _ => (List.append_nil t).symm
  | p :: u, t, h => by
    have hn : p.1 ∉ t.map (·.1) := fun z => by
      rw [List.map_append, List.map_cons] at h
      exact (List.nodup_append.mp h).2.2 _ z _ List.mem_cons_self rfl
    show mergeL (putL t p.1 p.2) u = _
    have e : putL t p.1 p.2 = t ++ [(p.1, p.2)] := by
      unfold putL
      rw [if_neg]
      intro e
      obtain ⟨r, hr, q⟩ := List.any_eq_true.mp e
      exact hn (List.mem_map.mpr ⟨r, hr, of_decide_eq_true q⟩)
    rw [e, merge_self u _ (by simpa using h)]
    simp
theorem one_lt (c k : Nat) : (decide ([c] < [k])) = decide (c < k) := decide_eq_decide.mpr (by
  constructor
  · intro h
    cases h with
    | rel h => exact h
    | cons h => cases h
  · exact fun h => .rel h)
theorem sign_a (c : Nat) : (!decide ([c] < ("a" : Str).cps.toList)) = decide (97 ≤ c) := by
  show (!decide ([c] < [97])) = _
  rw [one_lt]
  by_cases h : c < 97
  · simp [h]
  · simp [h, Nat.le_of_not_lt h]
theorem sign_z (c : Nat) : (!decide (("z" : Str).cps.toList < [c])) = decide (c ≤ 122) := by
  show (!decide ([122] < [c])) = _
  rw [one_lt]
  by_cases h : 122 < c
  · simp [h]
  · simp [h, Nat.le_of_not_lt h]
/-- labels and names as the document has them -/
def isLab (x : Str) : Bool := decide (1 ≤ x.length) && decide (x.length ≤ 8) && x.cps.toList.all fun c => decide (97 ≤ c) && decide (c ≤ 122)
def isFull (n : List Str) : Bool := n.all isLab && !n.isEmpty
/-! tables by names, their values data -/
section
variable {β : Type} {f : β → G}
/-- a table as it stands -/
def tbl (f : β → G) (t : List (List Str × β)) : List (List L2.Key × G) := t.map fun p => (kN p.1, f p.2)
theorem tbl_len (t : List (List Str × β)) : (tbl f t).length = t.length := List.length_map ..
theorem tbl_look (n : List Str) : ∀ t : List (List Str × β), look (tbl f t) (kN n) = (look t n).map f
  | [] => rfl
  | p :: t => by
    have ih := tbl_look n t
    unfold look tbl at *
    rw [List.map_cons, List.find?_cons, List.find?_cons]
    by_cases h : p.1 = n
    · rw [decide_eq_true (kN_inj.mpr h), decide_eq_true h]
      rfl
    · rw [decide_eq_false (fun z => h (kN_inj.mp z)), decide_eq_false h]
      exact ih
theorem tbl_any (n : List Str) (t : List (List Str × β)) : ((tbl f t).any fun p => decide (p.1 = kN n)) = t.any fun p => decide (p.1 = n) := by
  unfold tbl
  rw [List.any_map]
  congr 1
  funext p
  exact decide_eq_decide.mpr kN_inj
theorem tbl_put (n : List Str) (v : β) (t : List (List Str × β)) : putL (tbl f t) (kN n) (f v) = tbl f (putL t n v) := by
  unfold putL
  rw [tbl_any]
  split
  · unfold tbl
    rw [List.map_map, List.map_map]
    refine List.map_congr_left fun p _ => ?_
    show (if kN p.1 = kN n then _ else _) = (fun q : List Str × β => (kN q.1, f q.2)) (if p.1 = n then (p.1, v) else p)
    by_cases h : p.1 = n
    · rw [if_pos (kN_inj.mpr h), if_pos h]
    · rw [if_neg (fun z => h (kN_inj.mp z)), if_neg h]
  · unfold tbl
    rw [List.map_append]
    rfl
theorem tbl_drop (n : List Str) : ∀ t : List (List Str × β), dropL (tbl f t) (kN n) = tbl f (dropL t n)
  | [] => rfl
  | p :: t => by
    have ih := tbl_drop n t
    unfold dropL tbl at *
    rw [List.map_cons, List.filter_cons, List.filter_cons]
    by_cases h : p.1 = n
    · rw [if_neg (by simp [kN_inj.mpr h]), if_neg (by simp [h])]
      exact ih
    · rw [if_pos (decide_eq_true (p := (kN p.1, f p.2).1 ≠ kN n) fun z => h (kN_inj.mp z)), if_pos (by simp [h]), List.map_cons]
      exact congrArg _ ih
theorem tbl_merge : ∀ (u t : List (List Str × β)), mergeL (tbl f t) (tbl f u) = tbl f (mergeL t u)
  | [], _ => rfl
  | p :: u, t => by
    show mergeL (putL (tbl f t) (kN p.1) (f p.2)) (tbl f u) = tbl f (mergeL (putL t p.1 p.2) u)
    rw [tbl_put]
    exact tbl_merge u _
theorem tbl_keys (t : List (List Str × β)) : (tbl f t).map (fun p => G.dat (keyT p.1)) = t.map fun p => G.dat (.tup (p.1.map .str)) := by
  unfold tbl
  rw [List.map_map]
  exact List.map_congr_left fun p _ => congrArg G.dat keyT_nm
end
theorem dput_at {S : Sto} {c : Addr} {d : D} {z : G} {Q : Sto → Prop} {kvs : List (List L2.Key × G)} {key : List L2.Key} (h : S c = some (.dct kvs)) (hk : dkey d = some key) : dputG S (.loc c) (.dat d) z Q = (kvs.length < 100000 ∧ Q (sup S c (.dct (putL kvs key z)))) := by simp only [dputG, h, hk]
theorem rDPop_at {S : Sto} {c : Addr} {y z : G} {P : G → Sto → Prop} {kvs : List (List L2.Key × G)} {key : List L2.Key} (h : S c = some (.dct kvs)) (hk : keyG y = some key) (hl : look kvs key = some z) : rDPop_ (.loc c) [y] S P = P z (sup S c (.dct (dropL kvs key))) := by simp only [rDPop_, h, hk, hl]
theorem isDU_at {S : Sto} {c : Addr} {kvs : List (List L2.Key × G)} (h : S c = some (.dct kvs)) : isDU S (.loc c) = True := eq_true ⟨c, kvs, rfl, h⟩
theorem sup_sw {S : Sto} {a b : Addr} {o u : O} (h : a ≠ b) : sup (sup S a o) b u = sup (sup S b u) a o := by
  funext c
  unfold sup
  by_cases h1 : c = b
  · by_cases h2 : c = a
    · exact absurd (h2.symm.trans h1) h
    · rw [if_pos h1, if_neg h2, if_pos h1]
  · by_cases h2 : c = a
    · rw [if_neg h1, if_pos h2, if_pos h2]
    · rw [if_neg h1, if_neg h2, if_neg h2, if_neg h1]
theorem sub_sup {S S' : Sto} {a : Addr} {o : O} (h : Sub S S') : Sub (sup S a o) (sup S' a o) := fun b u e => by
  by_cases hb : b = a
  · subst hb; rw [sup_same] at e ⊢; exact e
  · rw [sup_ne hb] at e ⊢; exact h _ _ e
theorem sup_none {S : Sto} {a b : Addr} {o : O} (h : sup S a o b = none) : S b = none ∧ b ≠ a := by
  by_cases hb : b = a
  · subst hb; rw [sup_same] at h; cases h
  · rw [sup_ne hb] at h; exact ⟨h, hb⟩
theorem lock_sup {S : Sto} {c : Addr} {od : Obj} {ks : List (List L2.Key × V)} {kvs : List (List L2.Key × G)} : lockAt (sup S c (.dlk od ks kvs)) (.loc c) = some (c, od, ks, kvs) := by simp only [lockAt, sup_same]
theorem dct_sup {S : Sto} {c : Addr} {od : Obj} {ks : List (List L2.Key × V)} {kvs : List (List L2.Key × G)} : dctOf (sup S c (.dlk od ks kvs)) (.loc c) = some kvs := by simp only [dctOf, sup_same]
theorem unlock {S : Sto} {c : Addr} {o u : O} (h : S c = some u) : sup (sup S c o) c u = S := by rw [sup_sup, sup_own h]
theorem tbl_dat {β : Type} {e : β → D} : ∀ t : List (List Str × β), datK (tbl (fun b => .dat (e b)) t) = some (t.map fun p => (kN p.1, e p.2))
  | [] => rfl
  | p :: t => by
    show (datK (tbl (fun b => .dat (e b)) t)).map ((kN p.1, e p.2) :: ·) = _
    rw [tbl_dat t]
    rfl
theorem tbl_pairs {β : Type} {e : β → D} (t : List (List Str × β)) : (t.map fun p => (kN p.1, e p.2)).map (fun p => G.dat (.tup [keyT p.1, p.2])) = t.map fun p => G.dat (.tup [.tup (p.1.map .str), e p.2]) := by
  rw [List.map_map]
  exact List.map_congr_left fun p _ => by simp only [Function.comp, keyT_nm]
theorem rDOf_tbl {β : Type} {e : β → D} {S : Sto} {P : G → Sto → Prop} (t : List (List Str × β)) : rDOf_ [.dat (.lst (t.map fun p : List Str × β => .tup [.tup (p.1.map .str), e p.2]))] S P = (t.length ≤ 100000 ∧ ∀ c, S c = none → P (.loc c) (sup S c (.dct (tbl (fun b => G.dat (e b)) (mergeL [] t))))) := by
  have pairs : ∀ t : List (List Str × β), pairsD (t.map fun p : List Str × β => .tup [.tup (p.1.map .str), e p.2]) = some (t.map fun p => (kN p.1, e p.2)) := by
    intro t
    induction t with
    | nil => rfl
    | cons p t ih =>
      show (match pairD (D.tup [D.tup (p.1.map .str), e p.2]), pairsD (t.map fun p : List Str × β => .tup [.tup (p.1.map .str), e p.2]) with | some p, some ps => some (p :: ps) | _, _ => none) = _
      rw [ih, show pairD (D.tup [D.tup (p.1.map .str), e p.2]) = some (kN p.1, e p.2) by simp only [pairD, dkey_nm, Option.map_some]]
      rfl
  have m := tbl_merge (f := fun b => G.dat (e b)) t []
  show (match lstOf S (.dat (.lst (t.map fun p : List Str × β => .tup [.tup (p.1.map .str), e p.2]))) with | some xs => (match (allDat xs).bind pairsD with | some ps => ps.length ≤ 100000 ∧ ∀ p, S p = none → P (.loc p) (sup S p (.dct (mergeL [] (ps.map fun p : List L2.Key × D => (p.1, G.dat p.2))))) | none => False) | none => False) = _
  rw [lstOf_lst]
  dsimp only
  rw [allDat_map, Option.bind_some, pairs]
  dsimp only
  rw [List.length_map, List.map_map, ← m]
  rfl
section
variable {κ β : Type} [DecidableEq κ]
/-- what a table tells behind a change -/
theorem look_put (t : List (κ × β)) (n m : κ) (v : β) : look (putL t n v) m = if n = m then some v else look t m := by
  have app : ∀ t : List (κ × β), look (t ++ [(n, v)]) m = (look t m).or (if n = m then some v else none) := fun t => by
    induction t with
    | nil =>
      unfold look
      by_cases h : n = m
      · simp [h]
      · simp [h]
    | cons p t ih =>
      unfold look at *
      rw [List.cons_append, List.find?_cons, List.find?_cons]
      by_cases h : p.1 = m
      · rw [decide_eq_true h]; rfl
      · rw [decide_eq_false h]; exact ih
  have rep : ∀ t : List (κ × β), look (t.map fun p => if p.1 = n then (p.1, v) else p) m = if n = m then (look t m).map fun _ => v else look t m := fun t => by
    induction t with
    | nil => unfold look; split <;> rfl
    | cons p t ih =>
      unfold look at *
      rw [List.map_cons, List.find?_cons, List.find?_cons]
      by_cases h : p.1 = n
      · rw [if_pos h]
        by_cases h2 : p.1 = m
        · have hm : n = m := h.symm.trans h2
          simp [h2, hm]
        · have hm : n ≠ m := fun z => h2 (h.trans z)
          rw [decide_eq_false h2]
          simpa [hm] using ih
      · rw [if_neg h]
        by_cases h2 : p.1 = m
        · have hm : n ≠ m := fun z => h (h2.trans z.symm)
          simp [h2, hm]
        · rw [decide_eq_false h2]
          simpa using ih
  unfold putL
  split
  · rename_i h
    rw [rep]
    by_cases hm : n = m
    · rw [if_pos hm, if_pos hm]
      subst hm
      obtain ⟨p, hp, e⟩ := List.any_eq_true.mp h
      have : (look t n).isSome = true := by
        unfold look
        rw [Option.isSome_map, List.find?_isSome]
        exact ⟨p, hp, e⟩
      obtain ⟨w, hw⟩ := Option.isSome_iff_exists.mp this
      rw [hw]
      rfl
    · rw [if_neg hm, if_neg hm]
  · rename_i h
    rw [app]
    by_cases hm : n = m
    · subst hm
      have : look t n = none := by
        unfold look
        rw [Option.map_eq_none_iff, List.find?_eq_none]
        intro p hp e
        exact h (List.any_eq_true.mpr ⟨p, hp, e⟩)
      rw [this, if_pos rfl]
      rfl
    · rw [if_neg hm, if_neg hm]
      cases look t m <;> rfl
theorem look_drop (t : List (κ × β)) (n m : κ) : look (dropL t n) m = if n = m then none else look t m := by
  induction t with
  | nil => unfold look dropL; split <;> rfl
  | cons p t ih =>
    unfold look dropL at *
    rw [List.filter_cons]
    by_cases h : p.1 = n
    · rw [if_neg (by simp [h]), ih, List.find?_cons]
      by_cases hm : n = m
      · rw [if_pos hm, if_pos hm]
      · rw [if_neg hm, if_neg hm, decide_eq_false (fun z => hm (h.symm.trans z))]
    · rw [if_pos (by simp [h]), List.find?_cons, List.find?_cons]
      by_cases h2 : p.1 = m
      · rw [decide_eq_true h2, if_neg (fun z => h (h2.trans z.symm))]
      · rw [decide_eq_false h2]
        exact ih
theorem look_mem {t : List (κ × β)} {n : κ} : (look t n).isSome = true ↔ n ∈ t.map (·.1) := by
  unfold look
  rw [Option.isSome_map, List.find?_isSome, List.mem_map]
  constructor
  · rintro ⟨p, hp, e⟩
    exact ⟨p, hp, of_decide_eq_true e⟩
  · rintro ⟨p, hp, e⟩
    exact ⟨p, hp, decide_eq_true e⟩
/-- no name twice -/
abbrev Once (t : List (κ × β)) : Prop := (t.map (·.1)).Nodup
theorem put_names (t : List (κ × β)) (n : κ) (v : β) : (putL t n v).map (·.1) = if n ∈ t.map (·.1) then t.map (·.1) else t.map (·.1) ++ [n] := by
  unfold putL
  have e : (t.any fun p => decide (p.1 = n)) = decide (n ∈ t.map (·.1)) := by
    rw [Bool.eq_iff_iff, decide_eq_true_iff, List.any_eq_true, List.mem_map]
    exact ⟨fun ⟨p, hp, h⟩ => ⟨p, hp, of_decide_eq_true h⟩, fun ⟨p, hp, h⟩ => ⟨p, hp, decide_eq_true h⟩⟩
  rw [e]
  by_cases h : n ∈ t.map (·.1)
  · rw [if_pos (decide_eq_true h), if_pos h, List.map_map]
    refine List.map_congr_left fun p _ => ?_
    show (if p.1 = n then (p.1, v) else p).1 = p.1
    split <;> rfl
  · rw [if_neg (by simp [h]), if_neg h, List.map_append]
    rfl
theorem put_once {t : List (κ × β)} (h : Once t) (n : κ) (v : β) : Once (putL t n v) := by
  unfold Once
  rw [put_names]
  split
  · exact h
  · rename_i hn
    exact List.nodup_append.mpr ⟨h, (by simp : [n].Nodup), fun a ha b hb => by rw [List.mem_singleton.mp hb]; exact fun z => hn (z ▸ ha)⟩
theorem drop_once {t : List (κ × β)} (h : Once t) (n : κ) : Once (dropL t n) := List.Sublist.nodup (List.Sublist.map _ List.filter_sublist) h
theorem put_new {t : List (κ × β)} {n : κ} (v : β) (h : n ∉ t.map (·.1)) : putL t n v = t ++ [(n, v)] := by
  unfold putL
  rw [if_neg]
  intro e
  obtain ⟨p, hp, q⟩ := List.any_eq_true.mp e
  exact h (List.mem_map.mpr ⟨p, hp, of_decide_eq_true q⟩)
theorem drop_new {t : List (κ × β)} {n : κ} (v : β) (h : n ∉ t.map (·.1)) : dropL (t ++ [(n, v)]) n = t := by
  unfold dropL
  rw [List.filter_append]
  have a : t.filter (fun p => decide (p.1 ≠ n)) = t := List.filter_eq_self.mpr fun p hp => decide_eq_true fun z => h (List.mem_map.mpr ⟨p, hp, z⟩)
  rw [a]
  simp
/-- a table copied by its names -/
theorem look_at {t : List (κ × β)} (h : Once t) {p : κ × β} (hp : p ∈ t) : look t p.1 = some p.2 := by
  induction t with
  | nil => cases hp
  | cons q t ih =>
    obtain ⟨h1, h2⟩ := List.nodup_cons.mp (show (q.1 :: t.map (·.1)).Nodup from h)
    unfold look at *
    rw [List.find?_cons]
    rcases List.mem_cons.mp hp with rfl | hp
    · simp
    · have : q.1 ≠ p.1 := fun z => h1 (List.mem_map.mpr ⟨p, hp, z.symm⟩)
      rw [decide_eq_false this]
      exact ih h2 hp
theorem merge_names (t : List (κ × β)) : ∀ u : List (κ × β), ∀ n, n ∈ (mergeL t u).map (·.1) ↔ n ∈ t.map (·.1) ∨ n ∈ u.map (·.1) := by
  intro u
  induction u generalizing t with
  | nil => intro n; simp [mergeL]
  | cons p u ih =>
    intro n
    show n ∈ (mergeL (putL t p.1 p.2) u).map (·.1) ↔ _
    rw [ih, put_names, List.map_cons, List.mem_cons]
    split
    · rename_i h
      constructor
      · rintro (a | a)
        · exact .inl a
        · exact .inr (.inr a)
      · rintro (a | rfl | a)
        · exact .inl a
        · exact .inl h
        · exact .inr a
    · rw [List.mem_append, List.mem_singleton]
      constructor
      · rintro ((a | a) | a)
        · exact .inl a
        · exact .inr (.inl a)
        · exact .inr (.inr a)
      · rintro (a | a | a)
        · exact .inl (.inl a)
        · exact .inl (.inr a)
        · exact .inr a
theorem put_len_le (t : List (κ × β)) (n : κ) (v : β) : (putL t n v).length ≤ t.length + 1 := by
  unfold putL
  split
  · rw [List.length_map]; omega
  · simp
theorem merge_len : ∀ (u t : List (κ × β)), (mergeL t u).length ≤ t.length + u.length
  | [], t => Nat.le_refl _
  | p :: u, t => by
    have h1 := merge_len u (putL t p.1 p.2)
    have h2 := put_len_le t p.1 p.2
    rw [List.length_cons]
    exact Nat.le_trans h1 (by omega)
theorem merge_once {t : List (κ × β)} (h : Once t) : ∀ u : List (κ × β), Once (mergeL t u) := by
  intro u
  induction u generalizing t with
  | nil => exact h
  | cons p u ih => exact ih (put_once h p.1 p.2)
end
end LN

namespace LN
open PySem PySem.Spec PyProof.Rows L2
/-! sorted(xs), whatever data -/
def leD {α : Type} (q : α → PyData) : α → α → Bool := PySem.W.dataLe false q
structure Srt {α : Type} (as : List α) (f : α → D) (q : α → PyData) : Prop where
  py : ∀ a ∈ as, (f a).py = some (q a)
  alike : PySem.W.AllAlike (as.map q)
  keys : PySem.W.Sortable (as.map q)
  deep : ∀ a ∈ as, (q a).depth ≤ 60
  few : as.length ≤ 100000
def rSort_ : RC := fun gs S P => match gs with
  | [x] => ∃ (α : Type) (as : List α) (f : α → D) (q : α → PyData), dlst S x = some (as.map f) ∧ Srt as f q ∧ P (.dat (.lst ((as.mergeSort (leD q)).map f))) S
  | _ => False
theorem trip {K : PySem.W.Frag} {F : Hp} {α : Type} {f : α → D} : ∀ (as : List α) {ws : List V} {its : List Value}, RpAll K F ws (as.map f) → Vals ws its →
    ∃ bs : List (V × Value × α), bs.map (·.1) = ws ∧ bs.map (·.2.1) = its ∧ bs.map (·.2.2) = as ∧ ∀ b ∈ bs, RelV b.1 b.2.1 ∧ Rp K F b.1 (f b.2.2)
  | [], ws, its, h, rv => by
    cases (show RpAll K F ws [] from h)
    cases rv
    exact ⟨[], rfl, rfl, rfl, fun _ h => nomatch h⟩
  | a :: as, ws, its, h, rv => by
    cases (show RpAll K F ws (f a :: as.map f) from h) with
    | cons h1 r1 =>
      cases rv with
      | cons h2 r2 =>
        obtain ⟨bs, e1, e2, e3, e4⟩ := trip as r1 r2
        refine ⟨(_, _, a) :: bs, by rw [List.map_cons, e1], by rw [List.map_cons, e2], by rw [List.map_cons, e3], fun b hb => ?_⟩
        rcases List.mem_cons.mp hb with rfl | hb
        · exact ⟨h2, h1⟩
        · exact e4 b hb
theorem each_g {γ : Type} {φ : Value → γ → Prop} {g : γ → Value} : ∀ {ps : List γ}, (∀ p ∈ ps, φ (g p) p) → PySem.W.EachIs φ (ps.map g) ps
  | [], _ => .nil
  | p :: ps, h => .cons (h p List.mem_cons_self) (each_g fun q hq => h q (List.mem_cons_of_mem _ hq))
theorem g_each {γ : Type} {g : γ → Value} : ∀ {out : List Value} {ps : List γ}, PySem.W.EachIs (fun (v : Value) (b : γ) => v = g b) out ps → out = ps.map g
  | _, _, .nil => rfl
  | _, _, .cons h t => by rw [List.map_cons, ← g_each t, h]
theorem vals_each {γ : Type} {g : γ → Value} {u : γ → V} : ∀ (ps : List γ), (∀ p ∈ ps, RelV (u p) (g p)) → Vals (ps.map u) (ps.map g)
  | [], _ => .nil
  | p :: ps, h => .cons (h p List.mem_cons_self) (vals_each ps fun q hq => h q (List.mem_cons_of_mem _ hq))
theorem rp_each {K : PySem.W.Frag} {F : Hp} {γ : Type} {g : γ → D} {u : γ → V} : ∀ (ps : List γ), (∀ p ∈ ps, Rp K F (u p) (g p)) → RpAll K F (ps.map u) (ps.map g)
  | [], _ => .nil
  | p :: ps, h => .cons (h p List.mem_cons_self) (rp_each ps fun q hq => h q (List.mem_cons_of_mem _ hq))
theorem sort_back {γ α : Type} (g : γ → α) (q : α → PyData) (bs : List γ) : (bs.mergeSort (PySem.W.dataLe false fun b => q (g b))).map g = (bs.map g).mergeSort (leD q) := by
  refine List.map_mergeSort fun a _ b _ => ?_
  unfold leD
  rw [PySem.W.dataLe_eq, PySem.W.dataLe_eq]
section
variable {X : Cx} {K : PySem.W.Frag} {R F H : Hp} {S : Sto} {k : Nat}
theorem crg_sort (hr : Room k X.A) : CallR X (.builtin "sorted") (cG X.K rSort_) := by
  rintro pins s σ H vs us Q I r ⟨R, S, F, P, gs, g, hv, h, on⟩
  unfold rSort_ at h
  split at h
  · obtain ⟨v, rfl, hx⟩ := gvs1 hv
    obtain ⟨α, as, f, q, e, T, h⟩ := h
    obtain ⟨a, ws, rfl, hq, rr⟩ := dlst_of g hx e
    obtain ⟨u, rfl, ru⟩ := vals1 r
    obtain rfl : u = Value.ref a := ru
    obtain ⟨its, rv, pl, hz⟩ := I.list (.inl (.inl hq))
    obtain ⟨bs, e1, e2, e3, e4⟩ := trip as rr rv
    have hun := hr.un
    have mem : ∀ b ∈ bs, b.2.2 ∈ as := fun b hb => by rw [← e3]; exact List.mem_map_of_mem hb
    have lb : bs.length = as.length := by rw [← e3, List.length_map]
    have em : bs.map (fun b => q b.2.2) = as.map q := by rw [← e3, List.map_map]; rfl
    subst e2
    have reads : ∀ b ∈ bs, ∃ as, Reads s.heap b.2.1 (q b.2.2) as := fun b hb => Dp.reads I (q b.2.2) b.1 b.2.1 ((Rp.up (Up.of g.sub) (e4 b hb).2).py (T.py _ (mem b hb))) (e4 b hb).1
    refine PySem.W.sorted_data (enc := fun b : V × Value × α => q b.2.2) (R := fun v b => v = b.2.1) (bs := bs) pl.isList (each_g fun _ _ => rfl) (each_g reads) (by rw [em]; exact T.alike) (by rw [em]; exact T.keys) (by rw [lb, sizeLine_eq]; have := T.few; omega) (fun b hb => by have := T.deep _ (mem b hb); omega) fun out len each => ?_
    have eo := g_each each
    subst eo
    obtain ⟨ep, he'⟩ := PyProof.Rows.sortedAll_at s.heap (bs.map fun b => b.2.1) ((bs.mergeSort (PySem.W.dataLe false fun b => q b.2.2)).map fun b => b.2.1).toArray
    have gone : H (s.heap.objs.size + 1) = none := I.hok.fresh (Nat.le_succ _)
    have sz : ((bs.mergeSort (PySem.W.dataLe false fun b => q b.2.2)).map fun b => b.1).length ≤ sizeLine := by rw [List.length_map, List.length_mergeSort, lb, sizeLine_eq]; have := T.few; omega
    have back := sort_back (fun b : V × Value × α => b.2.2) q bs
    rw [e3] at back
    refine ⟨.ref _, upd H (s.heap.objs.size + 1) (.lst ((bs.mergeSort (PySem.W.dataLe false fun b => q b.2.2)).map fun b => b.1)), I.laid (t' := s.toks) (fun _ _ => PyProof.Rows.sortedAll_old) (Nat.le_succ _) ⟨sz, _, ep, vals_each _ (fun b hb => (e4 b (List.mem_mergeSort.mp hb)).1), he'⟩, rfl, ?_⟩
    refine on_lst (ds := (bs.mergeSort (PySem.W.dataLe false fun b => q b.2.2)).map fun b => f b.2.2) on g (rp_each _ fun b hb => (e4 b (List.mem_mergeSort.mp hb)).2) ?_ _ gone
    rw [show (bs.mergeSort (PySem.W.dataLe false fun b => q b.2.2)).map (fun b => f b.2.2) = (as.mergeSort (leD q)).map f by rw [← back, List.map_map]; rfl]
    exact h
  · exact h.elim
end
/-! d.items() -/
def viewN (v d : Addr) : HO := .ext fun h => h.IsItemsView v d
def tItems (t : TE) : TE := fun σ H Q => t σ H fun x H1 => ∃ d kvs, x = .ref d ∧ H1 d = some (.dT kvs) ∧ ∀ v, H1 v = none → Q (.ref v) (upd H1 v (viewN v d))
section
variable {X : Cx} {K : PySem.W.Frag} {W : WX} {R F H : Hp} {S : Sto} {k : Nat} {e : Expr} {apos cpos : Pos} {t : TE} {ga : GR}
theorem pe_items (he : PE X e t) (hbase : attributeBase e "items" X.env (eval e X.env) = eval e X.env := by rfl) (hline : (apos.endLine == cpos.line) = true := by rfl) : PE X (.Call (.Attribute e "items" apos) [] [] cpos) (tItems t) := by
  constructor
  intro pins s σ H Q I want
  refine wpAny_Call_method (T := "dict") (id := "dict.items") hbase rfl hline PySem.F.plainAttrs_dict PySem.F.slot_dict_items PySem.F.type_dict_items (thn (he.run pins s σ H _ I want) ?_)
  rintro u s1 ⟨x, H1, I1, rx, d, kvs, rfl, at_, q⟩
  obtain rfl : u = Value.ref d := rx
  obtain ⟨few, low, xs, pr, od, es, ep, there, exact_, data, list, _⟩ := I1.hok d _ at_
  have raw : DT.Raw s1.heap d es ep := ⟨od, there, exact_, data⟩
  refine ⟨raw.typeIs, fun b z => ?_, ?_⟩
  · cases z
    exact ⟨od, there, exact_.2.1⟩
  have new : ObjOk X.prog X.w (upd H1 s1.heap.objs.size (viewN s1.heap.objs.size d)) (s1.heap.push { cls := .type "dict_items", data := .fields #[.ref d] }) s1.heap.objs.size (viewN s1.heap.objs.size d) :=
    ⟨⟨_, Heap.get?_push_size _ rfl, rfl, rfl⟩, ⟨_, Heap.get?_push_size _ rfl⟩, fun h1 h2 ⟨o, e1, e2⟩ st => ⟨o, st o e1, e2⟩⟩
  have ask : EP X pins σ Q (.ref s1.heap.objs.size) { s1 with heap := s1.heap.push { cls := .type "dict_items", data := .fields #[.ref d] } } :=
    ⟨.ref s1.heap.objs.size, _, I1.laid (t' := s1.toks) (fun b ob z => Heap.get?_push_of_some _ z) (Nat.le_refl _) new, rfl, q _ (I1.hok.fresh (Nat.le_refl _))⟩
  show wpAny _ _ (callWith cpos (.builtin "dict.items") [.ref d] [] []) _ X.xe s1
  exact method_meetsIn PySem.F.slot_dict_items PySem.F.entry_dict_items rfl (PySem.evalArgs_none ⟨rfl, raw.typeIs, PySem.F.args_dict_items_1 _, _, DT.meetsItems (es := es) (ep := ep) low, raw, ask⟩)
def gItems (ga : GR) : GR := fun Γ S P E => ga Γ S (fun x S1 => isDU S1 x ∧ ∀ n v, x = .loc n → S1 v = none → P (.loc v) (sup S1 v (.raw (viewN v n)))) E
theorem ge_items (he : GE X W e ga) (hbase : attributeBase e "items" X.env (eval e X.env) = eval e X.env := by rfl) (hline : (apos.endLine == cpos.line) = true := by rfl) : GE X W (.Call (.Attribute e "items" apos) [] [] cpos) (gItems ga) := by
  refine PE.imp (pe_items he hbase hline) ?_
  rintro σ H Q ⟨R, Γ, S, F, P, E, g, sl, h, on, ox⟩
  refine ⟨R, Γ, S, F, _, E, g, sl, h, fun v S1 F1 H1 x g1 s1 r1 h1 => ?_, ox⟩
  obtain ⟨⟨n, kvs, rfl, q⟩, h1⟩ := h1
  obtain rfl := (show v = .ref n from r1)
  obtain ⟨_, ks, at_, _⟩ := g1.obj n _ q
  refine ⟨n, ks, rfl, at_, fun w nw => ?_⟩
  exact on _ _ F1 _ (.loc w) (g1.alloc (u := .raw (viewN w n)) nw ⟨upd_same, fun xs z => nomatch (show HO.ext _ = HO.tup xs from z)⟩) s1 rfl (h1 n w rfl (g1.fresh nw).2.1)
end
/-! many tuples, laid at once -/
def layT : Hp → List (Addr × List V) → Hp
  | H, [] => H
  | H, p :: ps => layT (upd H p.1 (.tup p.2)) ps
theorem layT_off {b : Addr} : ∀ {ps : List (Addr × List V)} {H : Hp}, (∀ p ∈ ps, p.1 ≠ b) → layT H ps b = H b
  | [], _, _ => rfl
  | p :: ps, H, h => by
    show layT (upd H p.1 (.tup p.2)) ps b = H b
    rw [layT_off fun q hq => h q (List.mem_cons_of_mem _ hq), upd_ne (Ne.symm (h p List.mem_cons_self))]
theorem layT_hok {P : Program} {w : World} {h : Heap} : ∀ {ps : List (Addr × List V)} {H : Hp}, HOk P w H h → (∀ p ∈ ps, H p.1 = none ∧ p.2.length ≤ sizeLine ∧ ∃ its : List Value, Vals p.2 its ∧ IsTup h p.1 its.toArray) → (ps.map (·.1)).Nodup → HOk P w (layT H ps) h
  | [], _, ok, _, _ => ok
  | p :: ps, H, ok, new, nd => by
    obtain ⟨n1, n2⟩ := List.nodup_cons.mp (show (p.1 :: ps.map (·.1)).Nodup from nd)
    refine layT_hok (ps := ps) (ok.laidN (o := .tup p.2) (fun _ _ q => q) (new p List.mem_cons_self).1 (new p List.mem_cons_self).2) (fun q hq => ?_) n2
    have ne : q.1 ≠ p.1 := fun z => n1 (List.mem_map.mpr ⟨q, hq, z⟩)
    rw [upd_ne ne]
    exact new q (List.mem_cons_of_mem _ hq)
theorem layT_un {fs : List Addr} {h h' : Heap} {H : Hp} {ps : List (Addr × List V)} (k : ∀ b u, h.get? b = some u → h'.get? b = some u) (hn : ∀ p ∈ ps, H p.1 = none ∧ h.objs.size ≤ p.1) : Un fs [] H (layT H ps) h h' where
  keep := fun b u q _ _ _ => k b u q
  slot := fun b u q _ _ _ => ⟨u.slots, k b u q⟩
  free := fun b u q n _ => by rw [layT_off fun p hp => Nat.ne_of_gt (Nat.lt_of_lt_of_le (Heap.lt_size q) (hn p hp).2)]; exact n
  there := fun b u q _ => ⟨u, k b u q⟩
  tups := fun b xs q => by rw [layT_off fun p hp z => by rw [← z, (hn p hp).1] at q; cases q]; exact q
  frzs := fun b u xs q => by rw [layT_off fun p hp z => by rw [← z, (hn p hp).1] at q; cases q]; exact q
  tbls := fun b ps' q => ⟨#[], by
    have e : layT H ps b = H b := layT_off fun p hp z => by rw [← z, (hn p hp).1] at q; cases q
    rw [e, q]; simp⟩
theorem layT_gs {K : PySem.W.Frag} {R : Hp} {S : Sto} : ∀ {ps : List (Addr × List V)} {F H : Hp}, GS K R S F H → (∀ p ∈ ps, H p.1 = none) → (ps.map (·.1)).Nodup → ∃ F', GS K R S F' (layT H ps) ∧ Up F F' ∧ ∀ p ∈ ps, F' p.1 = some (.tup p.2)
  | [], F, H, g, _, _ => ⟨F, g, Up.refl _, fun _ h => nomatch h⟩
  | p :: ps, F, H, g, new, nd => by
    obtain ⟨n1, n2⟩ := List.nodup_cons.mp (show (p.1 :: ps.map (·.1)).Nodup from nd)
    have np := new p List.mem_cons_self
    obtain ⟨F', g', u, at_⟩ := layT_gs (ps := ps) (g.lay np (.tup p.2)) (fun q hq => by rw [upd_ne fun z => n1 (List.mem_map.mpr ⟨q, hq, z⟩)]; exact new q (List.mem_cons_of_mem _ hq)) n2
    refine ⟨F', g', (up_new (g.fresh np).1).trans u, fun q hq => ?_⟩
    rcases List.mem_cons.mp hq with rfl | hq
    · exact u.keep _ _ upd_same rfl
    · exact at_ q hq
mutual
theorem readsIn {h : Heap} : ∀ (d : PyData) (v : Value) (as : List Addr), PySem.W.alike d d = true → Reads h v d as → ∀ a ∈ as, a < h.objs.size
  | .none, _, _, _, r => by cases r; intro a ha; cases ha
  | .bool _, _, _, _, r => by cases r; intro a ha; cases ha
  | .int _, _, _, _, r => by cases r; intro a ha; cases ha
  | .str _, _, _, _, r => by cases r; intro a ha; cases ha
  | .list xs, _, _, hal, r => by
    cases r with
    | list h1 h2 h3 h4 =>
      intro a ha
      rcases List.mem_cons.mp ha with rfl | ha
      · exact Heap.lt_size h1
      · exact readsAllIn xs _ _ (by simpa [PySem.W.alike] using hal) h4 a ha
  | .tuple xs, _, _, hal, r => by
    cases r with
    | tuple h1 h2 h3 h4 => exact readsAllIn xs _ _ (by simpa [PySem.W.alike] using hal) h4
  | .dict _, _, _, hal, _ => absurd hal (by simp [PySem.W.alike])
theorem readsAllIn {h : Heap} : ∀ (ds : List PyData) (vs : List Value) (as : List Addr), PySem.W.alikeAll ds ds = true → ReadsAll h vs ds as → ∀ a ∈ as, a < h.objs.size
  | [], _, _, _, r => by cases r; intro a ha; cases ha
  | d :: ds, _, _, hal, r => by
    cases r with
    | cons h1 h2 =>
      intro a ha
      rcases List.mem_append.mp ha with ha | ha
      · exact readsIn d _ _ (PySem.W.alike_all_cons hal).1 h1 a ha
      · exact readsAllIn ds _ _ (PySem.W.alike_all_cons hal).2 h2 a ha
end
/-! sorted(d.items()) -/
def rSortI_ : RC := fun gs S P => match gs with
  | [.loc v] => ∃ (n : Addr) (α : Type) (as : List α) (kf : α → List L2.Key) (f : α → D) (q : α → PyData), S v = some (.raw (viewN v n)) ∧ S n = some (.dct (as.map fun a => (kf a, .dat (f a)))) ∧ Srt as (fun a => .tup [keyT (kf a), f a]) q ∧
    P (.dat (.lst ((as.mergeSort (leD q)).map fun a => .tup [keyT (kf a), f a]))) S
  | _ => False
abbrev ItR (α : Type) := Addr × Addr × V × Value × α
theorem quad {K : PySem.W.Frag} {F H : Hp} {α : Type} {kf : α → List L2.Key} {f : α → D} {Φ : Addr → Addr → Value → Prop} : ∀ (as : List α) {ks : List (List L2.Key × V)} {xs : List (List L2.Key × Addr × Value)} {bs : List Addr}, GKs K F ks (as.map fun a => (kf a, .dat (f a))) →
    Paired (fun (p : List L2.Key × V) (q : List L2.Key × Addr × Value) => p.1 = q.1 ∧ H q.2.1 = some (.tup (p.1.map kV)) ∧ RelV p.2 q.2.2) ks xs → bs.length = xs.length → (∀ (j : Nat) (b : Addr), bs[j]? = some b → ∃ x, xs[j]? = some x ∧ Φ b x.2.1 x.2.2) →
    ∃ ts : List (ItR α), ts.map (·.1) = bs ∧ ts.map (·.2.2.2.2) = as ∧ ∀ t ∈ ts, Φ t.1 t.2.1 t.2.2.2.1 ∧ H t.2.1 = some (.tup ((kf t.2.2.2.2).map kV)) ∧ RelV t.2.2.1 t.2.2.2.1 ∧ Rp K F t.2.2.1 (f t.2.2.2.2)
  | [], ks, xs, bs, h, pr, hl, _ => by
    cases (show Paired _ ks [] from h)
    cases pr
    cases bs with
    | nil => exact ⟨[], rfl, rfl, fun _ h => nomatch h⟩
    | cons b bs => cases hl
  | a :: as, ks, xs, bs, h, pr, hl, at_ => by
    cases (show Paired _ ks ((kf a, G.dat (f a)) :: as.map fun a => (kf a, G.dat (f a))) from h) with
    | cons h1 r1 =>
      cases pr with
      | cons h2 r2 =>
        cases bs with
        | nil => cases hl
        | cons b bs =>
          obtain ⟨ts, e1, e2, e3⟩ := quad (Φ := Φ) as r1 r2 (by simpa using hl) (fun j c e => by
            obtain ⟨x, hx, hΦ⟩ := at_ (j + 1) c (by simpa using e)
            exact ⟨x, by simpa using hx, hΦ⟩)
          obtain ⟨x, hx, hΦ⟩ := at_ 0 b rfl
          cases hx
          rename_i kv l1 xv l2
          refine ⟨(b, xv.2.1, kv.2, xv.2.2, a) :: ts, by rw [List.map_cons, e1], by rw [List.map_cons, e2], fun t ht => ?_⟩
          rcases List.mem_cons.mp ht with rfl | ht
          · exact ⟨hΦ, by have := h2.2.1; rw [← h1.1] at this; exact this, h2.2.2, h1.2⟩
          · exact e3 t ht
section
variable {X : Cx} {K : PySem.W.Frag} {R F H : Hp} {S : Sto} {k : Nat}
theorem crg_sortI (calm : X.calm = true) (hr : Room k X.A) : CallR X (.builtin "sorted") (cG X.K rSortI_) := by
  rintro pins s σ H vs us Q I r ⟨R, S, F, P, gs, g, hv, h, on⟩
  unfold rSortI_ at h
  split at h
  · rename_i v
    obtain ⟨z, rfl, hx⟩ := gvs1 hv
    obtain ⟨n, α, as, kf, f, q, hS, hn, T, h⟩ := h
    obtain rfl := (show z = .ref v from hx)
    obtain ⟨u, rfl, ru⟩ := vals1 r
    obtain rfl : u = Value.ref v := ru
    have hv1 := (g.obj _ _ hS).2.1
    obtain ⟨_, ks, at_, rk⟩ := g.obj n _ hn
    have view := (I.hok v _ hv1).1
    obtain ⟨few, low, xs, pr, o, es, ep, there, exact_, data, list, nd⟩ := I.hok n _ at_
    have raw : s.heap.DictRaw n es ep := ⟨o, there, exact_, data⟩
    have size : es.size = ks.length := by
      rw [size_of_entries list]
      exact (Paired.length pr).symm
    have hun := hr.un
    have hks : ks.length = as.length := by rw [Paired.length rk, List.length_map]
    refine PySem.Calls.call_function_entry kind_sorted plain_sorted entry_sorted (args_sorted1 _) ?_
    unfold Builtin.«sorted»
    refine wpAny_bind (m := checkCount "sorted" 1 1 _) (wpAny_pure ?_)
    refine wpAny_bind (PySem.W.dil_collect (A := X.A.in1) (I.ok.hd calm) view raw (by rw [size]; exact few) fun h' tk bs hk hl hG => ?_)
    have xl : xs.length = ks.length := (Paired.length pr).symm
    obtain ⟨ts, e1, e2, e3⟩ := quad (Φ := fun b q u => h'.get? b = some { cls := .type "tuple", data := .seq #[.ref q, u] }) as rk pr (by rw [hl, size, xl]) (fun j b e => by
      obtain ⟨hj, e4⟩ := hG.pairs j b e
      have q := entry_at list j
      rw [Array.getElem?_eq_getElem hj] at q
      cases qx : xs[j]? with
      | none => rw [qx] at q; cases q
      | some x =>
        rw [qx] at q
        have q := Option.some.inj q
        rw [q] at e4
        exact ⟨x, rfl, e4⟩)
    subst e1
    have mem : ∀ t ∈ ts, t.2.2.2.2 ∈ as := fun t ht => by rw [← e2]; exact List.mem_map_of_mem ht
    have lt : ts.length = as.length := by rw [← e2, List.length_map]
    have em : ts.map (fun t => q t.2.2.2.2) = as.map q := by rw [← e2, List.map_map]; rfl
    let ps : List (Addr × List V) := ts.map fun t => (t.1, [.ref t.2.1, t.2.2.1])
    have nps : (ps.map (·.1)).Nodup := by
      show ((ts.map fun t => (t.1, [V.ref t.2.1, t.2.2.1])).map (·.1)).Nodup
      rw [List.map_map]
      exact List.Pairwise.imp (fun h => Nat.ne_of_lt h) hG.rise
    have fresh : ∀ t ∈ ts, H t.1 = none ∧ s.heap.objs.size ≤ t.1 := fun t ht => by
      have := hG.above _ (List.mem_map_of_mem (f := (·.1)) ht)
      exact ⟨I.hok.fresh (Nat.le_of_lt this), Nat.le_of_lt this⟩
    have new : ∀ p ∈ ps, H p.1 = none ∧ p.2.length ≤ sizeLine ∧ ∃ its : List Value, Vals p.2 its ∧ IsTup h' p.1 its.toArray := fun p hp => by
      obtain ⟨t, ht, rfl⟩ := List.mem_map.mp hp
      refine ⟨(fresh t ht).1, (by show 2 ≤ sizeLine; decide), [.ref t.2.1, t.2.2.2.1], .cons rfl (.cons (e3 t ht).2.2.1 .nil), _, (e3 t ht).1, rfl, _, rfl⟩
    have I2 : Inv X pins σ (layT H ps) { s with heap := h', toks := tk } := I.un (layT_un hk fun p hp => by obtain ⟨t, ht, rfl⟩ := List.mem_map.mp hp; exact fresh t ht) (layT_hok (I.hok.kept hk) new nps)
    obtain ⟨F1, g1, u1, tp⟩ := g.tups
    obtain ⟨F2, g2, u2, at2⟩ := layT_gs g1 (fun p hp => (new p hp).1) nps
    have rows : ∀ t ∈ ts, Rp X.K F2 (.ref t.1) (.tup [keyT (kf t.2.2.2.2), f t.2.2.2.2]) := fun t ht => by
      refine Rp.tup (at2 (t.1, [.ref t.2.1, t.2.2.1]) (List.mem_map.mpr ⟨t, ht, rfl⟩)) (.cons ?_ (.cons ?_ .nil))
      · exact Rp.up u2 (Rp.tup (tp _ _ (e3 t ht).2.1) (keyD_rp _))
      · exact Rp.up (u1.trans u2) (e3 t ht).2.2.2
    have below : ∀ t ∈ ts, ∃ as, Reads h' (.ref t.1) (q t.2.2.2.2) as := fun t ht => Dp.reads I2 (q t.2.2.2.2) (.ref t.1) (.ref t.1) ((Rp.up (Up.of g2.sub) (rows t ht)).py (T.py _ (mem t ht))) rfl
    refine wpAny_bind (wpAny_newList ?_ (by rw [List.length_map, List.length_map, lt, sizeLine_eq]; have := T.few; omega))
    have there2 : (h'.push { cls := .type "list", data := .seq ((ts.map (·.1)).map Value.ref).toArray }).get? h'.objs.size = some (seqObj "list" ((ts.map (·.1)).map Value.ref).toArray 0) := Heap.get?_push_size _ rfl
    have lists : (ts.map (·.1)).map Value.ref = ts.map fun t => Value.ref t.1 := by rw [List.map_map]; rfl
    have alikes : ∀ t ∈ ts, PySem.W.alike (q t.2.2.2.2) (q t.2.2.2.2) = true := fun t ht => T.alike _ (List.mem_map_of_mem (mem t ht)) _ (List.mem_map_of_mem (mem t ht))
    refine wpAny_bind (wpAny_holding ?_)
    refine PySem.W.list_sort_data (A := X.A.in1) (enc := fun t : ItR α => q t.2.2.2.2) (R := fun v t => v = .ref t.1) (bs := ts) (vs := (ts.map (·.1)).map Value.ref) there2 (by rw [lists]; exact each_g fun _ _ => rfl) (by
      rw [lists]
      refine each_g fun t ht => ?_
      obtain ⟨as, r⟩ := below t ht
      exact ⟨as, PyProof.Rows.Reads.keeps (fun b ob z => Heap.get?_push_of_some _ z) r, fun z => Nat.lt_irrefl _ (readsIn _ _ _ (alikes t ht) r _ z)⟩) (by rw [em]; exact T.alike) (by rw [em]; exact T.keys) (by rw [lt, sizeLine_eq]; have := T.few; omega) (fun t ht => by have := T.deep _ (mem t ht); show X.A.units + 1 + 1 + _ < _; omega) fun out len each => ?_
    have eo := g_each each
    subst eo
    refine wpAny_pure ?_
    obtain ⟨ep2, he2⟩ := PyProof.Rows.sortedHeap_at (out := ((ts.mergeSort (PySem.W.dataLe false fun t => q t.2.2.2.2)).map fun t => Value.ref t.1).toArray) there2
    have sz : ((ts.mergeSort (PySem.W.dataLe false fun t => q t.2.2.2.2)).map fun t => V.ref t.1).length ≤ sizeLine := by rw [List.length_map, List.length_mergeSort, lt, sizeLine_eq]; have := T.few; omega
    have back := sort_back (fun t : ItR α => t.2.2.2.2) q ts
    rw [e2] at back
    have keep2 : ∀ b ob, h'.get? b = some ob → (sortedHeap (h'.push { cls := .type "list", data := .seq ((ts.map (·.1)).map Value.ref).toArray }) h'.objs.size ((ts.map (·.1)).map Value.ref) ((ts.mergeSort (PySem.W.dataLe false fun t => q t.2.2.2.2)).map fun t => Value.ref t.1).toArray).get? b = some ob := fun b ob z => by
      have := Heap.lt_size z
      rw [PyProof.Rows.sortedHeap_old (Nat.ne_of_lt this) (by rw [Heap.size_push]; exact Nat.lt_succ_of_lt this)]
      exact Heap.get?_push_of_some _ z
    have gone : layT H ps h'.objs.size = none := I2.hok.fresh (Nat.le_refl _)
    refine ⟨_, rfl, .ref _, upd (layT H ps) h'.objs.size (.lst ((ts.mergeSort (PySem.W.dataLe false fun t => q t.2.2.2.2)).map fun t => V.ref t.1)), I2.laid (t' := tk) keep2 (Nat.le_refl _) ⟨sz, _, ep2, vals_each _ (fun t ht => rfl), he2⟩, rfl, ?_⟩
    refine on_lst (ds := (ts.mergeSort (PySem.W.dataLe false fun t => q t.2.2.2.2)).map fun t => .tup [keyT (kf t.2.2.2.2), f t.2.2.2.2]) (on.go (u1.trans u2)) g2 (rp_each _ fun t ht => rows t (List.mem_mergeSort.mp ht)) ?_ _ gone
    rw [show (ts.mergeSort (PySem.W.dataLe false fun t => q t.2.2.2.2)).map (fun t => D.tup [keyT (kf t.2.2.2.2), f t.2.2.2.2]) = (as.mergeSort (leD q)).map (fun a => D.tup [keyT (kf a), f a]) by rw [← back, List.map_map]; rfl]
    exact h
  · exact h.elim
end
/-! names and rows by names, sorted -/
abbrev nmQ (n : List Str) : PyData := .tuple (n.map PyData.str)
theorem alike_nm (a b : List Str) : PySem.W.alike (nmQ a) (nmQ b) = true := by
  have go : ∀ (a b : List Str), PySem.W.alikeAll (a.map PyData.str) (b.map PyData.str) = true := fun a => by
    induction a with
    | nil => intro b; simp [PySem.W.alikeAll]
    | cons x a ih =>
      intro b
      cases b with
      | nil => simp [PySem.W.alikeAll]
      | cons y b =>
        have := ih b
        simp [PySem.W.alikeAll, PySem.W.alike, this]
  simpa [PySem.W.alike] using go a b
theorem dataLt_self (d : PyData) : PySem.W.dataLt d d = false := PyProof.Rows.lex_irrefl _
theorem srt_names {ls : List (List Str)} (h : ∀ n ∈ ls, n ≠ []) (few : ls.length ≤ 100000) : Srt ls (fun n => .tup (n.map .str)) nmQ where
  py := fun n _ => Enc.nm.py n
  alike := PySem.W.AllAlike.of alike_nm
  keys := .inl fun d hd => by
    obtain ⟨n, hn, rfl⟩ := List.mem_map.mp hd
    cases n with
    | nil => exact absurd rfl (h _ hn)
    | cons x n => exact ⟨_, _, rfl⟩
  deep := fun n _ => Nat.le_trans (Enc.nm.deep n) (by decide)
  few := few
section
variable {β : Type} [DecidableEq β] {m : Nat} {g : β → D} {r : β → PyData}
theorem srt_rows (E : Enc m g r) (hm : m ≤ 50) (al : ∀ a b, PySem.W.alike (r a) (r b) = true) {t : List (List Str × β)} (few : t.length ≤ 100000) : Srt t (fun p => .tup [keyT (kN p.1), g p.2]) (fun p => .tuple [nmQ p.1, r p.2]) where
  py := fun p _ => by
    rw [keyT_nm]
    exact (Enc.nm.mono (by omega : 1 ≤ m + 1)).two (E.mono (by omega : m ≤ m + 1)) |>.py p
  alike := PySem.W.AllAlike.of fun a b => by
    have h1 := alike_nm a.1 b.1
    have h2 := al a.2 b.2
    simp [PySem.W.alike, PySem.W.alikeAll] at h1 ⊢
    exact ⟨h1, h2⟩
  keys := .inl fun d hd => by
    obtain ⟨p, _, rfl⟩ := List.mem_map.mp hd
    exact ⟨_, _, rfl⟩
  deep := fun p _ => Nat.le_trans (((Enc.nm.mono (by omega : 1 ≤ m + 1)).two (E.mono (by omega : m ≤ m + 1))).deep p) (by omega)
  few := few
theorem le_rows (al : ∀ a b, PySem.W.alike (r a) (r b) = true) {a b : List Str × β} (h : a.1 = b.1 → a.2 = b.2) : leD (fun p : List Str × β => .tuple [nmQ p.1, r p.2]) a b = leD nmQ a.1 b.1 := by
  unfold leD
  rw [PySem.W.dataLe_eq, PySem.W.dataLe_eq]
  show (!PySem.W.dataLt (.tuple [nmQ b.1, r b.2]) (.tuple [nmQ a.1, r a.2])) = !PySem.W.dataLt (nmQ b.1) (nmQ a.1)
  rw [PySem.W.dataLt_pair (alike_nm _ _) (al _ _)]
  have e : PyData.eqv (nmQ b.1) (nmQ a.1) = decide (b.1 = a.1) := Enc.nm.eq b.1 a.1
  rw [e]
  by_cases z : b.1 = a.1
  · rw [decide_eq_true z, if_pos rfl, z, dataLt_self, h z.symm, dataLt_self]
    split <;> rfl
  · rw [decide_eq_false z, if_neg Bool.false_ne_true]
theorem sort_names (al : ∀ a b, PySem.W.alike (r a) (r b) = true) {t : List (List Str × β)} (once : Once t) : (t.mergeSort (leD fun p : List Str × β => .tuple [nmQ p.1, r p.2])).map (·.1) = (t.map (·.1)).mergeSort (leD nmQ) := by
  refine List.map_mergeSort fun a ha b hb => le_rows al fun z => ?_
  have h1 := look_at once ha
  have h2 := look_at once hb
  rw [z, h2] at h1
  exact (Option.some.inj h1).symm
/-- the rows by the sorted names are the sorted rows -/
theorem sort_rows (al : ∀ a b, PySem.W.alike (r a) (r b) = true) {t : List (List Str × β)} (once : Once t) (d : β) : ((t.map (·.1)).mergeSort (leD nmQ)).map (fun n => (n, (look t n).getD d)) = t.mergeSort (leD fun p : List Str × β => .tuple [nmQ p.1, r p.2]) := by
  rw [← sort_names al once, List.map_map]
  refine (List.map_congr_left fun p hp => ?_).trans (List.map_id _)
  show (p.1, (look t p.1).getD d) = p
  rw [look_at once (List.mem_mergeSort.mp hp)]
  rfl
end
end LN

namespace LN
open PySem PySem.Spec PyProof.Rows L2
section
variable {X : Cx} {W : WX} {K : PySem.W.Frag} {e : Expr} {es : List Expr} {ga : GR} {gt gk : GRA} {pos p : Pos} {R F H : Hp} {S : Sto} {k : Nat}
/-! max(i, j) -/
def rMax2_ : RC := fun gs S P => match gs with
  | [.dat (.int i), .dat (.int j)] => P (.dat (.int (if j > i then j else i))) S
  | _ => False
theorem crg_max2 (hc : X.calm = true) : CallR X (.builtin "max") (cG X.K rMax2_) := by
  rintro pins s σ H vs us Q I r ⟨R, S, F, P, gs, g, hv, h, on⟩
  unfold rMax2_ at h
  split at h
  · rename_i i j
    cases hv with
    | cons h1 r1 =>
      cases r1 with
      | cons h2 r2 =>
        cases r2
        cases (show Rp X.K F _ (.int i) from h1)
        cases (show Rp X.K F _ (.int j) from h2)
        exact call_max2 hc pins s σ H _ us Q I r ⟨i, j, rfl, on.now g (x := .dat (.int _)) (.int _) h⟩
  · exact h.elim
/-! min(i, j) -/
def rMin2_ : RC := fun gs S P => match gs with
  | [.dat (.int i), .dat (.int j)] => P (.dat (.int (if j < i then j else i))) S
  | _ => False
theorem crg_min2 (hc : X.calm = true) : CallR X (.builtin "min") (cG X.K rMin2_) := by
  rintro pins s σ H vs us Q I r ⟨R, S, F, P, gs, g, hv, h, on⟩
  unfold rMin2_ at h
  split at h
  · rename_i i j
    cases hv with
    | cons h1 r1 =>
      cases r1 with
      | cons h2 r2 =>
        cases r2
        cases (show Rp X.K F _ (.int i) from h1)
        cases (show Rp X.K F _ (.int j) from h2)
        exact call_min2 hc pins s σ H _ us Q I r ⟨i, j, rfl, on.now g (x := .dat (.int _)) (.int _) h⟩
  · exact h.elim
/-! a tuple, repeated -/
def rMulT_ : RO := fun x y S P => match x, y with
  | .dat (.tup ds), .dat (.int j) => (ds ≠ [] ∧ 2 ≤ j ∧ j ≤ 1000 ∧ ds.length ≤ 1000) ∧ P (.dat (.tup (List.replicate j.toNat ds).flatten)) S
  | _, _ => False
theorem rp_rep {F : Hp} {vs : List V} {ds : List D} (r : RpAll K F vs ds) : ∀ m : Nat, RpAll K F (List.replicate m vs).flatten (List.replicate m ds).flatten
  | 0 => .nil
  | m + 1 => by
    rw [List.replicate_succ, List.replicate_succ, List.flatten_cons, List.flatten_cons]
    exact r.app (rp_rep r m)
theorem opg_mulT : OpR X (binaryOp .Mult) (rG X.K rMulT_) := by
  rintro pins s σ H x y v u Q I rx ry ⟨R, S, F, P, gx, gy, g, hx, hy, h, on⟩
  unfold rMulT_ at h
  split at h
  · rename_i ds j
    obtain ⟨⟨h1, h2, h3, h4⟩, h5⟩ := h
    obtain ⟨p, xs, rfl, hp, rp⟩ := tup_of g hx (ds := ds) rfl
    cases (show Rp X.K F y (.int j) from hy)
    exact op_repT pins s σ H _ _ v u Q I rx ry ⟨p, j, xs, rfl, rfl, hp, fun z => h1 (by
      have := rp.len
      rw [z] at this
      exact List.length_eq_zero_iff.mp this.symm), h2, h3, by rw [rp.len]; exact h4, on_tup on g (rp_rep rp _) h5⟩
  · exact h.elim
/-! xs[::-1] -/
def gRevL (ga : GR) : GR := fun Γ S P E => ga Γ S (fun x S1 => match dlst S1 x with
  | some ds => P (.dat (.lst ds.reverse)) S1
  | none => False) E
theorem rp_rev {F : Hp} : ∀ {vs : List V} {ds : List D}, RpAll K F vs ds → RpAll K F vs.reverse ds.reverse
  | _, _, .nil => .nil
  | _, _, .cons h r => by
    rw [List.reverse_cons, List.reverse_cons]
    exact (rp_rev r).app (.cons h .nil)
theorem ge_revL {j : Nat} {p1 p2 p3 : Pos} (he : GE X W e ga) : GE X W (.Subscript e (.Slice none none (some (.UnaryOp .USub (.Constant (.int 1) j p1) p2)) p3) pos) (gRevL ga) := by
  refine PE.imp (pe_revL he) ?_
  rintro σ H Q ⟨R, Γ, S, F, P, E, g, sl, h, on, ox⟩
  refine ⟨R, Γ, S, F, _, E, g, sl, h, fun v S1 F1 H1 x g1 s1 r1 h1 => ?_, ox⟩
  dsimp only at h1
  split at h1
  · rename_i ds q
    obtain ⟨a, vs, rfl, hq, rr⟩ := dlst_of g1 r1 q
    exact ⟨a, vs, rfl, .inl (.inl hq), on_lst (on.go s1) g1 (rp_rev rr) h1⟩
  · exact h1.elim
theorem gRevL_eq {Γ : List (Option G)} {P : G → Sto → Prop} {E : XP} : gRevL ga Γ S P E = ga Γ S (fun x S1 => match dlst S1 x with
  | some ds => P (.dat (.lst ds.reverse)) S1
  | none => False) E := rfl
/-- C(e, ..) where keyword-only parameters have their defaults -/
theorem ge_makeK0 {C f : Addr} {fd : FuncData} {ps : List Str} {sp : GSp} {x : Str} {md : Made} {n : Nat} {ks : List Str} {ms : List V} {msd : List D} {kws : List Keyword} (hms : ∀ F, RpAll X.K F ms msd) (ok : MdOk X.K md) (M : Mk X.K C f) (F1 : FnOk X.prog X.w X.K X.mg X.base (L2.CX X.prog X.w) k f fd ps (spG X.K sp)) (tk : Takes X W) (hr : Room (k + 1) X.A) (hm : X.mg x = some (.ref C))
    (hb : ∃ mv : List Value, KBn X.K fd ps (n + 1) ks (fun us ws => us ++ ws ++ mv) (fun vs zs => vs ++ zs ++ ms)) (ha : GA X W (e :: es) gt) (hkw : GK X W kws gk) (hg : Gl X x := by rfl) (hall : (backToKw pos (keywordEach kws X.env)).all (·.1.isSome) = true := by rfl) (hks : (backToKw pos (keywordEach kws X.env)).filterMap (·.1) = ks := by rfl)
    (hdb : (x == ("__debug__" : Str)) = false := by decide) (he : starEach (e :: es) X.env = (false, eval e X.env) :: starEach es X.env := by rfl) (hpl : ((backTo pos (starEach (e :: es) X.env)).any (·.1) || (backToKw pos (keywordEach kws X.env)).any (·.1.isNone)) = false := by rfl) :
    GE X W (.Call (.Name x p) (e :: es) kws pos) (gMakeK C n ks.length msd sp md gt gk) := by
  obtain ⟨mv, h⟩ := hb
  exact ge_makeK hms ok M F1 tk hr hm h ha hkw hg hall hks hdb he hpl
end
/-! sorted(d) -/
def rSortD_ : RC := fun gs S P => match gs with
  | [x] => ∃ (α : Type) (as : List α) (kf : α → List L2.Key) (y : α → G) (q : α → PyData), dctOf S x = some (as.map fun a => (kf a, y a)) ∧ Srt as (fun a => keyT (kf a)) q ∧ P (.dat (.lst ((as.mergeSort (leD q)).map fun a => keyT (kf a)))) S
  | _ => False
theorem duo {K : PySem.W.Frag} {F H : Hp} {α : Type} {kf : α → List L2.Key} {y : α → G} : ∀ (as : List α) {ks : List (List L2.Key × V)} {xs : List (List L2.Key × Addr × Value)}, GKs K F ks (as.map fun a => (kf a, y a)) →
    Paired (fun (p : List L2.Key × V) (q : List L2.Key × Addr × Value) => p.1 = q.1 ∧ H q.2.1 = some (.tup (p.1.map kV)) ∧ RelV p.2 q.2.2) ks xs →
    ∃ ts : List (Addr × α), ts.map (·.1) = xs.map (·.2.1) ∧ ts.map (·.2) = as ∧ ∀ t ∈ ts, H t.1 = some (.tup ((kf t.2).map kV))
  | [], ks, xs, h, pr => by
    cases (show Paired _ ks [] from h)
    cases pr
    exact ⟨[], rfl, rfl, fun _ h => nomatch h⟩
  | a :: as, ks, xs, h, pr => by
    cases (show Paired _ ks ((kf a, y a) :: as.map fun a => (kf a, y a)) from h) with
    | cons h1 r1 =>
      cases pr with
      | cons h2 r2 =>
        rename_i kv l1 xv l2
        obtain ⟨ts, e1, e2, e3⟩ := duo as r1 r2
        refine ⟨(xv.2.1, a) :: ts, by rw [List.map_cons, List.map_cons, e1], by rw [List.map_cons, e2], fun t ht => ?_⟩
        rcases List.mem_cons.mp ht with rfl | ht
        · have := h2.2.1
          rw [← h1.1] at this
          exact this
        · exact e3 t ht
section
variable {X : Cx} {K : PySem.W.Frag} {R F H : Hp} {S : Sto} {k : Nat}
theorem crg_sortD (calm : X.calm = true) (hr : Room k X.A) : CallR X (.builtin "sorted") (cG X.K rSortD_) := by
  rintro pins s σ H vs us Q I r ⟨R, S, F, P, gs, g, hv, h, on⟩
  unfold rSortD_ at h
  split at h
  · obtain ⟨v, rfl, hx⟩ := gvs1 hv
    obtain ⟨α, as, kf, y, q, e, T, h⟩ := h
    obtain ⟨a, ks, rfl, at_, rk⟩ := dct_of g hx e
    obtain ⟨u, rfl, ru⟩ := vals1 r
    obtain rfl : u = Value.ref a := ru
    obtain ⟨z, hs, xs, pr, o, es, ep, ho, hx', hdt, he, hn⟩ := (show ObjOk X.prog X.w H s.heap a (.dT ks) from at_.ok I.hok)
    have l1 : es.size = xs.length := size_of_entries he
    have l2 : ks.length = xs.length := Paired.length pr
    have hun := hr.un
    refine PySem.Calls.call_function_entry kind_sorted plain_sorted entry_sorted (args_sorted1 _) ?_
    unfold Builtin.«sorted»
    refine wpAny_bind (m := checkCount "sorted" 1 1 _) (wpAny_pure ?_)
    refine wpAny_bind (PySem.W.kdu_collect (A := X.A.in1) (kdl_raw hs hx' hdt) (I.ok.hd calm) ho (by omega) fun h' tk acc hk it => ?_)
    have ea : acc.toList = xs.map fun x => Value.ref x.2.1 := by
      have hl : acc.toList.length = xs.length := by rw [Array.length_toList, it.1]; exact l1
      refine List.ext_getElem? fun j => ?_
      rw [List.getElem?_map]
      cases hj : acc.toList[j]? with
      | none =>
        have h1 := List.getElem?_eq_none_iff.mp hj
        rw [List.getElem?_eq_none (by omega)]
        all_goals rfl
      | some v =>
        obtain ⟨en, hen, hv⟩ := it.2 j v (by rw [← Array.getElem?_toList]; exact hj)
        have qe := entry_at he j
        rw [hen] at qe
        cases hb : xs[j]? with
        | none =>
          rw [hb] at qe
          exact nomatch (show some en = none from qe)
        | some b =>
          rw [hb] at qe
          have e2 : en = entryOfKey (tupleKind (mixKind X.prog X.w)) b := Option.some.inj qe
          rw [hv, e2]
          all_goals rfl
    obtain ⟨ts, e1, e2, e3⟩ := duo as rk pr
    have ea2 : acc.toList = ts.map fun t => Value.ref t.1 := by
      rw [ea]
      have := congrArg (List.map Value.ref) e1
      rw [List.map_map, List.map_map] at this
      exact this.symm
    rw [ea2]
    have mem : ∀ t ∈ ts, t.2 ∈ as := fun t ht => by rw [← e2]; exact List.mem_map_of_mem ht
    have lt : ts.length = as.length := by rw [← e2, List.length_map]
    have em : ts.map (fun t => q t.2) = as.map q := by rw [← e2, List.map_map]; rfl
    have I2 : Inv X pins σ H { s with heap := h', toks := tk } := I.kept hk
    obtain ⟨F2, g2, u2, tp⟩ := g.tups
    have rows : ∀ t ∈ ts, Rp X.K F2 (.ref t.1) (keyT (kf t.2)) := fun t ht => Rp.tup (tp _ _ (e3 t ht)) (keyD_rp _)
    have below : ∀ t ∈ ts, ∃ as, Reads h' (.ref t.1) (q t.2) as := fun t ht => Dp.reads I2 (q t.2) (.ref t.1) (.ref t.1) ((Rp.up (Up.of g2.sub) (rows t ht)).py (T.py _ (mem t ht))) rfl
    refine wpAny_bind (wpAny_newList ?_ (by rw [List.length_map, lt, sizeLine_eq]; have := T.few; omega))
    have there2 : (h'.push { cls := .type "list", data := .seq (ts.map fun t => Value.ref t.1).toArray }).get? h'.objs.size = some (seqObj "list" (ts.map fun t => Value.ref t.1).toArray 0) := Heap.get?_push_size _ rfl
    have alikes : ∀ t ∈ ts, PySem.W.alike (q t.2) (q t.2) = true := fun t ht => T.alike _ (List.mem_map_of_mem (mem t ht)) _ (List.mem_map_of_mem (mem t ht))
    refine wpAny_bind (wpAny_holding ?_)
    refine PySem.W.list_sort_data (A := X.A.in1) (enc := fun t : Addr × α => q t.2) (R := fun v t => v = .ref t.1) (bs := ts) (vs := ts.map fun t => Value.ref t.1) there2 (each_g fun _ _ => rfl) (by
      refine each_g fun t ht => ?_
      obtain ⟨as, r⟩ := below t ht
      exact ⟨as, PyProof.Rows.Reads.keeps (fun b ob z => Heap.get?_push_of_some _ z) r, fun z => Nat.lt_irrefl _ (readsIn _ _ _ (alikes t ht) r _ z)⟩) (by rw [em]; exact T.alike) (by rw [em]; exact T.keys) (by rw [lt, sizeLine_eq]; have := T.few; omega) (fun t ht => by have := T.deep _ (mem t ht); show X.A.units + 1 + 1 + _ < _; omega) fun out len each => ?_
    have eo := g_each each
    subst eo
    refine wpAny_pure ?_
    obtain ⟨ep2, he2⟩ := PyProof.Rows.sortedHeap_at (out := ((ts.mergeSort (PySem.W.dataLe false fun t => q t.2)).map fun t => Value.ref t.1).toArray) there2
    have sz : ((ts.mergeSort (PySem.W.dataLe false fun t => q t.2)).map fun t => V.ref t.1).length ≤ sizeLine := by rw [List.length_map, List.length_mergeSort, lt, sizeLine_eq]; have := T.few; omega
    have back := sort_back (fun t : Addr × α => t.2) q ts
    rw [e2] at back
    have keep2 : ∀ b ob, h'.get? b = some ob → (sortedHeap (h'.push { cls := .type "list", data := .seq (ts.map fun t => Value.ref t.1).toArray }) h'.objs.size (ts.map fun t => Value.ref t.1) ((ts.mergeSort (PySem.W.dataLe false fun t => q t.2)).map fun t => Value.ref t.1).toArray).get? b = some ob := fun b ob z => by
      have := Heap.lt_size z
      rw [PyProof.Rows.sortedHeap_old (Nat.ne_of_lt this) (by rw [Heap.size_push]; exact Nat.lt_succ_of_lt this)]
      exact Heap.get?_push_of_some _ z
    have gone : H h'.objs.size = none := I2.hok.fresh (Nat.le_refl _)
    refine ⟨_, rfl, .ref _, upd H h'.objs.size (.lst ((ts.mergeSort (PySem.W.dataLe false fun t => q t.2)).map fun t => V.ref t.1)), I2.laid (t' := tk) keep2 (Nat.le_refl _) ⟨sz, _, ep2, vals_each _ (fun t ht => rfl), he2⟩, rfl, ?_⟩
    refine on_lst (ds := (ts.mergeSort (PySem.W.dataLe false fun t => q t.2)).map fun t => keyT (kf t.2)) (on.go u2) g2 (rp_each _ fun t ht => rows t (List.mem_mergeSort.mp ht)) ?_ _ gone
    rw [show (ts.mergeSort (PySem.W.dataLe false fun t => q t.2)).map (fun t => keyT (kf t.2)) = (as.mergeSort (leD q)).map (fun a => keyT (kf a)) by rw [← back, List.map_map]; rfl]
    exact h
  · exact h.elim
end
/-! for x in (a, b, ..), where some of them may still be changed -/
def iTupD (gt : GRA) : GRI := fun Γ S P E => gt Γ S (fun gs S1 => gs.length ≤ sizeLine ∧ P gs always S1) E
section
variable {X : Cx} {W : WX} {es : List Expr} {gt : GRA} {pos : Pos}
theorem gi_tupD {tg : Expr} {x1} (ha : GA X W es gt) : GI X W tg (.Tuple es x1 pos) (iTupD gt) := by
  refine PI.imp (pi_any (pe_tup ha)) ?_
  rintro σ H T ⟨R, Γ, S, F, P, E, g, sl, h, on, ox⟩
  refine ⟨R, Γ, S, F, _, E, g, sl, h, fun vs S1 F1 H1 xs g1 s1 r1 h1 => ⟨by rw [gvs_len r1]; exact h1.1, fun p np => ?_⟩, ox⟩
  have u := up_new (F := F1) (p := p) (o := .tup vs) (g1.fresh np).1
  exact .inr (.inl ⟨p, rfl, ⟨vs, .inl (.inl upd_same)⟩, on S1 _ _ _ _ _ (g1.lay np (.tup vs)) (s1.trans u) (walkg_tup (.inl (.inl upd_same)) (GVs.up u r1)) h1.2⟩)
end
section
variable {T : Tgt} {gt : GRB} {ge : GR} {Γw : List (Option G)} {st : Sto → Prop} {fin : Fin_} {P : G → Sto → Prop} {S : Sto} {α : Type}
/-- some of the items, what is drawn for each -/
theorem LR.some (hs : st S) (enc : α → G) (Φ : α → G → Prop) : ∀ (as : List α) (acc : List G), acc.length + as.length ≤ 100000 →
    (∀ a ∈ as, ∀ (k1 : G → Sto → Prop) (k2 : Sto → Prop), (∀ y, Φ a y → k1 y S) → k2 S → T.put (enc a) Γw fun Γ2 => gt Γ2 S (fun b S3 => if b = true then ge Γ2 S3 k1 never else k2 S3) never) →
    (∀ as' ys, List.Sublist as' as → Paired Φ as' ys → fin (acc ++ ys) S P) → LR T gt ge Γw st fin P (as.map enc) acc S
  | [], acc, _, _, q => ⟨hs, by simpa using q [] [] (.refl _) .nil⟩
  | a :: as, acc, hl, turn, q => by
    rw [List.length_cons] at hl
    refine ⟨hs, turn a List.mem_cons_self _ _ (fun y hy => ⟨by omega, ?_⟩) ?_⟩
    · refine LR.some hs enc Φ as (acc ++ [y]) (by rw [List.length_append, List.length_singleton]; omega) (fun b hb => turn b (List.mem_cons_of_mem _ hb)) fun as' ys sub hys => ?_
      rw [List.append_assoc]
      exact q (a :: as') (y :: ys) (sub.cons_cons a) (.cons hy hys)
    · exact LR.some hs enc Φ as acc (by omega) (fun b hb => turn b (List.mem_cons_of_mem _ hb)) fun as' ys sub hys => q as' ys (sub.cons a) hys
theorem LR.someF {β : Type} (as : List α) (enc : α → G) (f : β → D) (Ψ : α → β → Prop) (hs : st S) (hl : as.length ≤ 100000)
    (turn : ∀ a ∈ as, ∀ (k1 : G → Sto → Prop) (k2 : Sto → Prop), (∀ b, Ψ a b → k1 (.dat (f b)) S) → k2 S → T.put (enc a) Γw fun Γ2 => gt Γ2 S (fun b S3 => if b = true then ge Γ2 S3 k1 never else k2 S3) never)
    (q : ∀ (as' : List α) (bs : List β), List.Sublist as' as → Paired Ψ as' bs → P (.dat (.lst (bs.map f))) S) : LR T gt ge Γw st finF P (as.map enc) [] S := by
  refine LR.some hs enc (fun a y => ∃ b, y = .dat (f b) ∧ Ψ a b) as [] (by simpa using hl) (fun a ha k1 k2 h h2 => turn a ha k1 k2 (fun b hb => h _ ⟨b, rfl, hb⟩) h2) fun as' ys sub hys => ?_
  obtain ⟨bs, rfl, h⟩ := forall₂_enc hys
  unfold finF
  rw [List.nil_append, allDat_mapf]
  exact q as' bs sub h
/-- a turn each, while things are made -/
theorem LR.grow (I : List G → Sto → Prop) (hst : ∀ acc S, I acc S → st S) (enc : α → G) : ∀ (as : List α) (acc : List G) (S : Sto), acc.length + as.length ≤ 100000 → I acc S →
    (∀ a ∈ as, ∀ (acc : List G) (S : Sto), I acc S → ∀ (k1 : G → Sto → Prop), (∀ y S', I (acc ++ [y]) S' → k1 y S') → T.put (enc a) Γw fun Γ2 => ge Γ2 S k1 never) →
    (∀ acc S, I acc S → fin acc S P) → LR T gYes ge Γw st fin P (as.map enc) acc S
  | [], acc, S, _, h, _, q => ⟨hst _ _ h, q acc S h⟩
  | a :: as, acc, S, hl, h, turn, q => by
    rw [List.length_cons] at hl
    refine ⟨hst _ _ h, ?_⟩
    have := turn a List.mem_cons_self acc S h (fun y S4 => acc.length < 100000 ∧ LR T gYes ge Γw st fin P (as.map enc) (acc ++ [y]) S4) fun y S' h' => ⟨by omega, LR.grow I hst enc as (acc ++ [y]) S' (by rw [List.length_append, List.length_singleton]; omega) h' (fun b hb => turn b (List.mem_cons_of_mem _ hb)) q⟩
    unfold gYes
    simp only [if_true]
    exact this
end
/-! x != y by an own __eq__ -/
section
variable {M : Model} {prog : Program} {w : World} {A : Around} {E : Value → Shared → Prop} {s : Shared} {K : PySem.W.Frag} {x C f : Addr} {ox : Obj} {od : Option Obj} {b : Value}
theorem ifBound_objNe {args : List Value} {Q : Option Value → Shared → Prop} (X : K.In s.heap) (I : PySem.W.InstAt s.heap x ox C od) (hs : PySem.W.findIn K (.ref C) "__ne__" = some (some (.builtin "object.__ne__")))
    (h : wpAny M A (call (.builtin "object.__ne__") (.ref x :: args)) (fun v => Q (some v)) E s) : wpAny M A (callSpecialIfBound? (.ref x) "__ne__" args) Q E s := by
  simp only [callSpecialIfBound?, bindSpecialIfBound?]
  refine wpAny_holding (wpAny_bind (wpAny_bind (wpAny_bind (I.type.here ((PySem.W.looks_findIn X hs).here ?_)))))
  refine wpAny_bind (wpAny_askSetting (wpAny_ite ?_))
  have fin : wpAny M A (call (.builtin "object.__ne__") ([.ref x] ++ args) >>= fun v => pure (some v)) Q E s := wpAny_bind (wpAny_mono h (fun v s' h' => wpAny_pure h') fun _ _ h' => h')
  split
  · exact wpAny_bind (wpAny_of_eq (F.cmp_object.ne.bind _) (wpAny_pure (by exact fin)))
  · exact wpAny_tryCatch (wpAny_bind (wpAny_of_eq (F.cmp_object.ne.bind _) (wpAny_pure (by exact fin))))
theorem entry_ne {Q : Fin → Shared → Prop} (X : K.In s.heap) (I : PySem.W.InstAt s.heap x ox C od) (hu : A.units < cLine) (hs : PySem.W.findIn K (.ref C) "__eq__" = some (some (.ref f))) (hf : PySem.W.isFn K (.ref f) = true)
    (h : wpAny M A (call (.ref f) [.ref x, b]) (fun v s' => ∃ k, v = .bool k ∧ Q (.done (.ret (.bool (!k)))) s') E s) : wpAny M A (Builtin.«object.__ne__» ⟨[.ref x, b], []⟩) Q E s := by
  unfold Builtin.«object.__ne__»
  refine wpAny_bind (wpAny_pure ?_)
  refine wpAny_bind (wpAny_cRoomFor hu ?_)
  refine wpAny_bind (PySem.W.ifBound_K X I hs hf (wpAny_mono h (fun v s' z => ?_) fun _ _ e => e))
  obtain ⟨k, rfl, q⟩ := z
  exact wpAny_bind (wpAny_truthy_bool (wpAny_pure q))
theorem ne_own {Q : Value → Shared → Prop} {L : Addr} {h₀ : Heap} {m : Str → Option Value} {tb : Value} (hu : A.units + 1 < cLine) (Fv : Fr h₀ L s.heap m) (X₀ : K.In h₀) (I : PySem.W.InstAt s.heap x ox C od) (hb : PySem.W.Looks (model prog w) s.heap (typeOf b) tb) (hn : PySem.W.notFirst K C tb = true)
    (hm : PySem.W.mroIn K C (.type "object") = some true) (hn2 : PySem.W.findIn K (.ref C) "__ne__" = some (some (.builtin "object.__ne__"))) (hs : PySem.W.findIn K (.ref C) "__eq__" = some (some (.ref f))) (hf : PySem.W.isFn K (.ref f) = true)
    (h : wpAny (model prog w) A.in1 (call (.ref f) [.ref x, b]) (fun v s' => ∃ k, v = .bool k ∧ Q (.bool (!k)) s') E s) : wpAny (model prog w) A (richCompare .NotEq (.ref x) b) Q E s := by
  have X := X₀.keeps Fv.keep
  have hu0 : A.units < cLine := by omega
  have one : wpAny (model prog w) A (tryCompare (.ref x) (cmpInfo .NotEq).2.1 b) (fun r s' => ∃ v, r = some v ∧ Q v s') E s := by
    unfold tryCompare
    refine wpAny_bind (ifBound_objNe X I hn2 (wpAny_call (codeAny_call_builtin F.cmp_object.ne.plain F.cmpEntry_ne (PySem.W.check_slot F.cmpKind_ne F.cmpSplit_ne (I.type.andThen (PySem.W.looks_mroIn X hm)) (F.cmpArgs_ne _ _)
      (entry_ne X I hu hs hf (wpAny_mono h (fun v s' z => ?_) fun _ _ e => e))))))
    obtain ⟨k, rfl, q⟩ := z
    exact ⟨k, rfl, wpAny_pure ⟨_, rfl, q⟩⟩
  unfold richCompare
  simp only [oneThing_ref]
  refine wpAny_holding (wpAny_bind (wpAny_cRoomFor hu0 ?_))
  refine wpAny_bind (I.type.here (wpAny_bind (hb.here ?_)))
  split
  · rename_i q
    have e : PySem.W.subIn K tb (.ref C) = some false := by
      rcases Bool.or_eq_true_iff.mp hn with e | e
      · rw [beq_iff_eq.mp e] at q; simp at q
      · exact beq_iff_eq.mp e
    refine wpAny_bind ((PySem.W.looks_subIn X e).here ?_)
    simp only [Bool.false_eq_true, if_false]
    refine wpAny_bind (wpAny_mono one (fun r s' z => ?_) fun _ _ e => e)
    obtain ⟨v, rfl, hq⟩ := z
    exact wpAny_pure hq
  · refine wpAny_bind (wpAny_pure ?_)
    simp only [Bool.false_eq_true, if_false]
    refine wpAny_bind (wpAny_mono one (fun r s' z => ?_) fun _ _ e => e)
    obtain ⟨v, rfl, hq⟩ := z
    exact wpAny_pure hq
end
section
variable {X : Cx} {W : WX} {k : Nat} {C f : Addr} {sp : GSp}
def rNeO (K : PySem.W.Frag) (C : Addr) (sp : GSp) : RO := fun x y S P => isOf S C x ∧ isOf S C y ∧ sp [x, y] S (fun r S' => ∃ k, r = .dat (.bl k) ∧ P (.dat (.bl (!k))) S') never
theorem opO_ne (d : Dun X.K C "__eq__" f) (hn2 : PySem.W.findIn X.K (.ref C) "__ne__" = some (some (.builtin "object.__ne__"))) (hm : PySem.W.mroIn X.K C (.type "object") = some true) (T : Call1 X W f sp) (hr : Room k X.A) : OpR X (compareOp .NotEq) (rG X.K (rNeO X.K C sp)) := by
  rintro pins s σ H x y v u Q I rx ry ⟨R, S, F, P, gx, gy, g, hx, hy, ⟨is1, is2, h⟩, on⟩
  obtain ⟨q, dx, fs, rfl, at_⟩ := isOf_at g hx is1
  obtain rfl : v = Value.ref q := rx
  obtain ⟨od, J⟩ := ins_at I at_
  obtain ⟨mm, fr⟩ := I.fr
  have lk := looks_ty I g hy ry (t := .own C) (.inl ⟨rfl, is2⟩)
  show wpAny (model X.prog X.w) X.A (richCompare .NotEq (.ref q) u) _ _ _
  have hun := hr.un
  refine ne_own (by omega) fr I.ok.mod.kin J lk (by show (Value.ref C == Value.ref C || _) = true; simp) hm hn2 d.at_ d.fn ?_
  refine thn (T.run (us := [.ref q, u]) (vs := [.ref q, y]) (Q := fun z H' => ∃ k, z = .bl k ∧ Q (.bl (!k)) H') I (.cons rfl (.cons ry .nil)) (spG0 g (.cons hx (.cons hy .nil)) h ?_)) ?_
  · rintro z S' F' H' zz g' s' r' ⟨k, rfl, q'⟩
    cases (show Rp X.K F' z (.bl k) from r')
    exact ⟨k, rfl, on _ S' F' H' (.dat (.bl (!k))) g' s' (.bl _) q'⟩
  · rintro w s1 ⟨z, H1, I1, rz, k, rfl, q1⟩
    obtain rfl : w = Value.bool k := rz
    exact ⟨k, rfl, ⟨.bl (!k), H1, I1, rfl, q1⟩⟩
end
/-- the defaults of keyword-only parameters, where none is given -/
theorem kb_none {K : PySem.W.Frag} {x qual : Str} {params : Arguments} {body : List Stmt} {scope : Scope} {kws : List (Str × V)} {f : Addr} {fd : FuncData} {ps : List Str} (F : FunD K x qual params body scope [] kws f fd) (n : Nat) (hk : kws ≠ [])
    (h : ∀ (D : Addr) (doc pm : Value) (an : Option Addr) (cdv ct : Value) (us mv ws : List Value), us.length = n → mv.length = kws.length → ws.length = 0 →
      KwChain D ((kws.map (·.1)).zip mv) (bindArgs (PySem.W.fnOf x qual params body scope .none (.ref D) doc pm an cdv ct) ⟨us, ([] : List Str).zip ws⟩) (ps.zip (us ++ ws ++ mv))) :
    ∃ mv : List Value, KBn K fd ps n [] (fun us ws => us ++ ws ++ mv) (fun vs zs => vs ++ zs ++ kws.map (·.2)) :=
  F.kbinds0 n [] kws (fun a b c => a ++ c ++ b) hk (fun _ h => h) (fun r1 r2 r3 => (r1.append r3).append r2) h
theorem isi_ltt {K : PySem.W.Frag} {S : Sto} {P : G → Sto → Prop} {ds : List D} : rIsi_ K [.dat (.tup ds), .dat (.tup [.val (.ty "list"), .val (.ty "tuple")])] S P = P (.dat (.bl true)) S := isi_gen2 (m := "tuple") (n := "list") (n' := "tuple") rfl (by decide) (by decide) (by decide)
end LN

namespace LN
open PySem PySem.Spec PyProof.Rows L2
/-! dicts whose keys are tuples, compared -/
section
variable {prog : Program} {w : World} {κ : Type} [DecidableEq κ] {knd : HeapKind prog w κ} {A : Around} {E : Value → Shared → Prop} {s : Shared}
inductive HitsH (A : Around) (s : Shared) (xb : List (κ × Addr × Value)) : List (κ × Addr × Value) → Bool → Prop
  | nil : HitsH A s xb [] true
  | miss {k : κ} {c : Addr} {v : Value} {r : List (κ × Addr × Value)} : (∀ (j : Nat) (p : Addr × Value), xb[j]? ≠ some (k, p)) → HitsH A s xb ((k, c, v) :: r) false
  | hit {k : κ} {c : Addr} {v : Value} {r : List (κ × Addr × Value)} {j : Nat} {p : Addr × Value} {e b : Bool} : xb[j]? = some (k, p) → SeqAt.EqAt A s v p.2 e → HitsH A s xb r b → HitsH A s xb ((k, c, v) :: r) (e && b)
theorem HitsH.inv {xb : List (κ × Addr × Value)} {k : κ} {c : Addr} {v : Value} {r : List (κ × Addr × Value)} {b : Bool} (h : HitsH A s xb ((k, c, v) :: r) b) :
    ((∀ (j : Nat) (p : Addr × Value), xb[j]? ≠ some (k, p)) ∧ b = false) ∨ ∃ (j : Nat) (p : Addr × Value) (e b' : Bool), xb[j]? = some (k, p) ∧ SeqAt.EqAt A s v p.2 e ∧ HitsH A s xb r b' ∧ b = (e && b') := by
  cases h with
  | miss hn => exact .inl ⟨hn, rfl⟩
  | hit hy he hr => exact .inr ⟨_, _, _, _, hy, he, hr, rfl⟩
theorem samePairsH {nm : String} {a b : Addr} {xa xb : List (κ × Addr × Value)} {r : Bool} {Q : Bool → Shared → Prop} (hu : knd.room A) (ha : (a == sysModules) = false) (hb : (b == sysModules) = false)
    (da : s.heap.DictOfH knd a xa) (db : s.heap.DictOfH knd b xb) (hits : xa.length = xb.length → HitsH A s xb xa r) (h : Q (xa.length == xb.length && r) s) :
    wpAny (model prog w) A (Builtin.Dict.samePairs nm a b) Q E s := by
  obtain ⟨oa, es, ep, hoa, _, hda, hka, isa, _⟩ := da
  obtain ⟨ob, es', ep', hob, _, hdb, hkb, isb, ndb⟩ := db
  have hla : xa.length = es.size := (size_of_entries hka).symm
  have hlb : xb.length = es'.size := (size_of_entries hkb).symm
  rw [hla, hlb] at h
  unfold Builtin.Dict.samePairs Builtin.Dict.showsAll
  rw [if_neg (show ¬ (a == sysModules) = true by rw [ha]; exact Bool.false_ne_true), if_neg (show ¬ (b == sysModules) = true by rw [hb]; exact Bool.false_ne_true)]
  refine wpAny_bind (wpAny_pure (wpAny_bind (wpAny_pure ?_)))
  refine wpAny_bind (wpAny_dictEntries hoa hda ?_)
  dsimp only
  refine wpAny_bind (wpAny_dictEntries hob hdb ?_)
  by_cases hsz : es.size = es'.size
  case neg =>
    rw [if_pos (by simpa using hsz)]
    have hbf : (es.size == es'.size) = false := by simpa using hsz
    rw [hbf, Bool.false_and] at h
    exact wpAny_bind (wpAny_rule (wpAny_pure h))
  case pos =>
    have h' : Q r s := by simpa [hsz] using h
    have hits' := hits (by rw [hla, hlb]; exact hsz)
    rw [if_neg (by rw [hsz]; simp)]
    refine wpAny_bind (wpAny_dictEpoch hoa hda ?_)
    refine wpAny_bind ?_
    rw [Std.Legacy.Range.forIn_eq_forIn_range']
    simp only [Std.Legacy.Range.size, Nat.sub_zero, Nat.add_sub_cancel, Nat.div_one]
    refine wpAny_forIn_list _
      (fun rest q s' => s' = s ∧ q = (none, ()) ∧ ∃ i, rest = List.range' i (es.size - i) ∧ i ≤ es.size ∧ HitsH A s xb (xa.drop i) r)
      _ ?_ ?_ _ _ ⟨rfl, rfl, 0, by simp, Nat.zero_le _, hits'⟩
    · rintro x rest q s' ⟨rfl, rfl, i, hr, hi, hpre⟩
      have hlt : i < es.size := by
        rcases Nat.lt_or_ge i es.size with h | h
        · exact h
        · rw [Nat.sub_eq_zero_of_le h] at hr; simp at hr
      obtain ⟨rfl, hrest⟩ : x = i ∧ rest = List.range' (i + 1) (es.size - (i + 1)) := by
        have e : es.size - i = (es.size - (i + 1)) + 1 := by omega
        rw [e, List.range'_succ] at hr
        injection hr with h1 h2
        exact ⟨h1, h2⟩
      refine wpAny_bind (wpAny_dictEntries hoa hda ?_)
      have hlt' : x < xa.length := by rw [hla]; exact hlt
      obtain ⟨k, c, v, hkv⟩ : ∃ k c v, xa[x] = (k, c, v) := ⟨_, _, _, rfl⟩
      have hdrop : xa.drop x = (k, c, v) :: xa.drop (x + 1) := by rw [← hkv]; exact List.drop_eq_getElem_cons hlt'
      have hent : es[x]? = some (entryOfKey knd (k, c, v)) := by
        rw [entry_at hka x, List.getElem?_eq_getElem hlt', hkv]
        rfl
      rw [hent]
      have isk : knd.is s'.heap k c := by
        have := isa xa[x] (List.getElem_mem hlt')
        rw [hkv] at this
        exact this
      rw [hdrop] at hpre
      show wpAny _ _ (holding [Value.ref c, v] _ >>= _) _ _ _
      refine wpAny_bind (wpAny_holding (wpAny_bind (wpAny_dictFind_heap hu isk hob hdb hkb isb ndb (fun none_ => ?_) fun j p hj => ?_)))
      · rcases hpre.inv with ⟨_, er⟩ | ⟨j, p, _, _, hy, _⟩
        · rw [er] at h'
          refine wpAny_pure ?_
          show wpAny _ _ (if (!false) = true then _ else _) _ _ _
          rw [if_pos (by decide)]
          exact wpAny_pure (wpAny_pure h')
        · exact absurd hy (none_ j p)
      · refine wpAny_bind (wpAny_dictEntries hob hdb ?_)
        have hent2 : es'[j]? = some (entryOfKey knd (k, p)) := by rw [entry_at hkb j, hj]; rfl
        rw [hent2]
        rcases hpre.inv with ⟨hn, _⟩ | ⟨j2, p2, e, b', hy, he, hrr, er⟩
        · exact absurd hj (hn j p)
        · have ep : p2 = p := by
            obtain ⟨h1, e1⟩ := List.getElem?_eq_some_iff.mp hj
            obtain ⟨h2, e2⟩ := List.getElem?_eq_some_iff.mp hy
            have : j = j2 := by
              have l1 : j < (xb.map (·.1)).length := by rw [List.length_map]; exact h1
              have l2 : j2 < (xb.map (·.1)).length := by rw [List.length_map]; exact h2
              refine (List.getElem_inj (h₀ := l1) (h₁ := l2) ndb).mp ?_
              simp only [List.getElem_map]
              rw [e1, e2]
            subst this
            rw [e1] at e2
            exact (Prod.ext_iff.mp e2).2.symm
          subst ep
          refine wpAny_holding (he prog w _ _ ?_)
          cases e with
          | false =>
            rw [er, Bool.false_and] at h'
            show wpAny _ _ (if (!false) = true then _ else _) _ _ _
            rw [if_pos (by decide)]
            exact wpAny_pure (wpAny_pure h')
          | true =>
            rw [Bool.true_and] at er
            rw [← er] at hrr
            show wpAny _ _ (if (!true) = true then _ else _) _ _ _
            rw [if_neg (by decide)]
            refine wpAny_bind (wpAny_dictEpoch hoa hda ?_)
            rw [if_neg (by simp)]
            exact wpAny_pure ⟨rfl, rfl, x + 1, hrest, hlt, hrr⟩
    · rintro q s' ⟨rfl, rfl, i, hr, hi, hpre⟩
      have hin : i = es.size := by
        rcases Nat.lt_or_ge i es.size with h | h
        · have e : es.size - i = (es.size - (i + 1)) + 1 := by omega
          rw [e, List.range'_succ] at hr; exact nomatch hr
        · exact Nat.le_antisymm hi h
      refine wpAny_pure ?_
      rw [hin, ← hla, List.drop_length] at hpre
      cases hpre
      exact h'
theorem eq_dictH {a b : Addr} {xa xb : List (κ × Addr × Value)} {r : Bool} {Q : Value → Shared → Prop} (hr : knd.room A.in1) (ha : (a == sysModules) = false) (hb : (b == sysModules) = false)
    (da : s.heap.DictOfH knd a xa) (db : s.heap.DictOfH knd b xb) (hu : A.units < cLine) (hits : xa.length = xb.length → HitsH A.in1 s xb xa r) (h : Q (.bool (xa.length == xb.length && r)) s) :
    wpAny (model prog w) A (compareOp .Eq (.ref a) (.ref b)) Q E s := by
  refine wpAny_richCompare_same_room (op := .Eq) da.typeIs db.typeIs PySem.F.slot_dict_eq (wpAny_call_entry PySem.F.slot_dict_eq da.typeIs PySem.F.entry_dict_eq ?_ (PySem.F.args_dict_eq_2 _ _)) hu
  show wpAny _ _ (Builtin.Dict.dictSlotArgs "__eq__" ⟨[.ref a, .ref b], []⟩ >>= _) _ _ s
  refine wpAny_bind ?_
  unfold Builtin.Dict.dictSlotArgs
  refine wpAny_bind (wpAny_notOrdered_dict da.typeIs ?_)
  show wpAny _ _ (pure (Value.ref a, Value.ref b)) _ _ s
  refine wpAny_pure ?_
  refine wpAny_bind (wpAny_isInstance (T := "dict") db.typeIs PySem.F.sub_dict_dict ?_)
  simp only [Bool.not_true, Bool.false_eq_true, if_false]
  refine wpAny_bind (wpAny_pure (wpAny_bind (wpAny_pure ?_)))
  refine wpAny_bind (samePairsH hr ha hb da db hits ?_)
  refine wpAny_pure ⟨_, rfl, ?_, ?_⟩
  · exact fun x => nomatch x
  · simpa using h
end
/-- tables of numbers, compared -/
def eqTb {κ : Type} [DecidableEq κ] (t u : List (κ × Int)) : Bool := decide (t.length = u.length) && t.all fun p => decide (look u p.1 = some p.2)
def rEqD_ : RO := fun x y S P => ∃ t u : List (List L2.Key × Int), dctOf S x = some (t.map fun p => (p.1, .dat (.int p.2))) ∧ dctOf S y = some (u.map fun p => (p.1, .dat (.int p.2))) ∧ P (.dat (.bl (eqTb t u))) S
theorem look_rel {K : PySem.W.Frag} {F H : Hp} : ∀ {u : List (List L2.Key × Int)} {ks : List (List L2.Key × V)} {xs : List (List L2.Key × Addr × Value)}, GKs K F ks (u.map fun p => (p.1, G.dat (.int p.2))) → KT H ks xs →
    ∀ key, (look u key = none ∧ ∀ (j : Nat) (p : Addr × Value), xs[j]? ≠ some (key, p)) ∨ ∃ (i : Int) (j : Nat) (c : Addr) (t : Tok), look u key = some i ∧ xs[j]? = some (key, c, .int i t)
  | [], ks, xs, h, r, key => by
    cases (show Paired _ ks [] from h)
    cases r
    exact .inl ⟨rfl, fun j p z => by simp at z⟩
  | q :: u, ks, xs, h, r, key => by
    cases (show Paired _ ks ((q.1, G.dat (.int q.2)) :: u.map fun p => (p.1, G.dat (.int p.2))) from h) with
    | cons h1 r1 =>
      cases r with
      | cons h2 r2 =>
        rename_i kv l1 xv l2
        obtain ⟨e1, rv⟩ := h1
        have e2 := h2.1
        obtain ⟨tk, etk⟩ : ∃ tk, xv.2.2 = .int q.2 tk := by
          have := h2.2.2
          have rv : Rp K F kv.2 (.int q.2) := rv
          generalize kv.2 = vv at rv this
          cases rv
          exact this
        unfold look
        rw [List.find?_cons]
        by_cases hk : q.1 = key
        · refine .inr ⟨q.2, 0, xv.2.1, tk, by rw [decide_eq_true hk]; rfl, ?_⟩
          have : xv.1 = key := by rw [← e2, ← e1]; exact hk
          rw [← this, ← etk]
          rfl
        · rw [decide_eq_false hk]
          rcases look_rel r1 r2 key with ⟨a, b⟩ | ⟨i, j, c, t, a, b⟩
          · refine .inl ⟨a, fun j p => ?_⟩
            cases j with
            | zero =>
              intro z
              have z : xv = (key, p) := Option.some.inj z
              have : xv.1 = key := by rw [z]
              rw [← e2, ← e1] at this
              exact hk this
            | succ j => exact b j p
          · exact .inr ⟨i, j + 1, c, t, a, b⟩
theorem hits_rel {K : PySem.W.Frag} {F H : Hp} {A : Around} {s : Shared} {u : List (List L2.Key × Int)} {ks' : List (List L2.Key × V)} {xb : List (List L2.Key × Addr × Value)} (gu : GKs K F ks' (u.map fun p => (p.1, G.dat (.int p.2)))) (ru : KT H ks' xb) :
    ∀ {t : List (List L2.Key × Int)} {ks : List (List L2.Key × V)} {xa : List (List L2.Key × Addr × Value)}, GKs K F ks (t.map fun p => (p.1, G.dat (.int p.2))) → KT H ks xa → HitsH A s xb xa (t.all fun p => decide (look u p.1 = some p.2))
  | [], ks, xa, h, r => by
    cases (show Paired _ ks [] from h)
    cases r
    exact .nil
  | q :: t, ks, xa, h, r => by
    cases (show Paired _ ks ((q.1, G.dat (.int q.2)) :: t.map fun p => (p.1, G.dat (.int p.2))) from h) with
    | cons h1 r1 =>
      cases r with
      | cons h2 r2 =>
        rename_i kv l1 xv l2
        obtain ⟨e1, rv⟩ := h1
        have e2 := h2.1
        have rvl := h2.2.2
        obtain ⟨xk, xc, xval⟩ := xv
        have rv : Rp K F kv.2 (.int q.2) := rv
        generalize kv.2 = vv at rv rvl
        cases rv
        obtain ⟨tk, etk⟩ := rvl
        have ek : xk = q.1 := by
          have : q.1 = kv.1 := e1
          exact (e2.symm.trans this.symm)
        subst ek
        have etk : xval = .int q.2 tk := etk
        subst etk
        rw [List.all_cons]
        have ih := hits_rel (A := A) (s := s) gu ru r1 r2
        rcases look_rel gu ru q.1 with ⟨a, b⟩ | ⟨i, j, c, t2, a, b⟩
        · rw [a, decide_eq_false (by simp), Bool.false_and]
          exact .miss b
        · rw [a]
          have : decide (some i = some q.2) = (q.2 == i) := by
            by_cases h : i = q.2
            · subst h; simp
            · have h' : ¬ q.2 = i := fun z => h z.symm
              simp [h, h']
          rw [this]
          exact .hit b (SeqAt.EqAt.int_int q.2 tk i t2) ih
section
variable {X : Cx} {K : PySem.W.Frag} {R F H : Hp} {S : Sto} {k : Nat}
theorem opD_eq (hr : Room k X.A) : OpR X (compareOp .Eq) (rG X.K rEqD_) := by
  rintro pins s σ H x y v u Q I rx ry ⟨R, S, F, P, gx, gy, g, hx, hy, ⟨t, t', e1, e2, h⟩, on⟩
  obtain ⟨a, ks, rfl, at1, rk1⟩ := dct_of g hx e1
  obtain ⟨b, ks', rfl, at2, rk2⟩ := dct_of g hy e2
  obtain rfl : v = Value.ref a := rx
  obtain rfl : u = Value.ref b := ry
  obtain ⟨few1, low1, xa, rel1, da⟩ := dt_rd I.hok at1
  obtain ⟨few2, low2, xb, rel2, db⟩ := dt_rd I.hok at2
  have hun := hr.un
  refine eq_dictH (tupleKind_room_in1 (room1 hr)) low1 low2 da db (by omega) (fun _ => hits_rel rk2 rel2 rk1 rel1) ?_
  have l1 : xa.length = t.length := by rw [← Paired.length rel1, Paired.length rk1, List.length_map]
  have l2 : xb.length = t'.length := by rw [← Paired.length rel2, Paired.length rk2, List.length_map]
  rw [l1, l2]
  refine ⟨.bl _, H, I, rfl, ?_⟩
  have e : (t.length == t'.length && t.all fun p => decide (look t' p.1 = some p.2)) = eqTb t t' := by
    unfold eqTb
    rw [Bool.eq_iff_iff]
    simp
  rw [e]
  exact on.now g (x := .dat (.bl _)) (.bl _) h
end
end LN

namespace LN
open PySem PySem.Spec PyProof.Rows L2
/-! own errors as values -/
/-- what is asked of an own error's class -/
structure ErrC (K : PySem.W.Frag) (C : Addr) : Prop where
  oex : OexC K C
  xf : XfC K C
  ca : PySem.W.findIn K (.ref C) "__class__" = some (some (.builtin "object.__class__"))
  cn : PySem.W.specialIn K (.builtin "object.__class__") "__get__" = some (some (.builtin "getset_descriptor.__get__"))
  ct : PySem.W.takesIn K (.builtin "object.__class__") = some true
  cm : PySem.W.mroIn K C (.type "object") = some true
/-- the error at a: its class, its dict, what it keeps -/
def Err (H : Hp) (a C d : Addr) (fs : List (Str × V)) : Prop := H a = some (exo a C (some d)) ∧ H d = some (exd d fs)
def tMkE (C : Addr) (sp : Sp) (ta : TA) : TE := fun σ H Q => ta σ H fun vs H1 => vs.length ≤ 1000 ∧ ∀ a, H1 a = none → sp (.ref a :: vs) (upd H1 a (exo a C none)) (fun v H2 => v = .non ∧ Q (.ref a) H2) (fun _ _ _ => False)
section
variable {X : Cx} {e : Expr} {es : List Expr} {ta : TA} {te : TE} {p pos : Pos}
theorem pe_error {CX : CXT} {x : Str} {C fI : Addr} {k : Nat} {fd : FuncData} {ps : List Str} {sp : Sp} (T : OexC X.K C) (iC : PySem.W.findIn X.K (.ref C) "__init__" = some (some (.ref fI))) (tI : PySem.W.typeIn X.K (.ref fI) = some (.type "function"))
    (F1 : FnOk X.prog X.w X.K X.mg X.base CX k fI fd ps sp) (hr : Room (k + 1) X.A) (hb : Binds X.K fd ps []) (hx : Passes CX X (fun _ _ _ => False)) (hg : Gl X x) (hm : X.mg x = some (.ref C)) (ha : PA X (e :: es) ta)
    (hdb : (x == ("__debug__" : Str)) = false := by decide) (he : starEach (e :: es) X.env = (false, eval e X.env) :: starEach es X.env := by rfl) (hpl : (backTo pos (starEach es X.env)).any (·.1) = false := by rfl) :
    PE X (.Call (.Name x p) (e :: es) [] pos) (tMkE C sp ta) := by
  refine ⟨fun pins s σ H Q I want => ?_⟩
  obtain ⟨nm, q, N, bs, bm, sn, sub, ab, col, dd, k0, k1, k2, k3, k5, hC, hbm⟩ := T.cls
  refine wpAny_Call_Name_kw (ld_glob I hg hm ?_ hdb)
  refine PySem.W.callWith_K (h₀ := X.base) I.ok.mod.kin T.kC (thn (ha.run pos pins s σ H _ I want) fun us s1 ⟨vs, H1, I1, r1, few, q1⟩ => ⟨I1.kIn, ?_⟩) he hpl
  show wpAny _ _ (call (.ref C) us) _ _ _
  obtain ⟨hp, g, dr, tk, os⟩ := s1
  have new := q1 (hp.objs.size + 1) (I1.hok.fresh (Nat.le_succ _))
  have I2 : Inv X pins σ (upd H1 (hp.objs.size + 1) (exo (hp.objs.size + 1) C none)) ⟨(hp.push (PySem.W.kdv_tup us)).push (PySem.HandSPX.excO C hp.objs.size), g, dr, tk, os⟩ :=
    I1.laid (t' := tk) (a := hp.objs.size + 1) (fun b o e => Heap.get?_push_of_some _ (Heap.get?_push_of_some _ e)) (Nat.le_succ _) (exo_ok (by heap_get))
  have r2 : Vals (V.ref (hp.objs.size + 1) :: vs) (Value.ref (hp.objs.size + 1) :: us) := .cons rfl r1
  have len : (Value.ref (hp.objs.size + 1) :: us ++ []).length = ps.length := by
    rw [List.append_nil, ← r2.length]
    exact F1.len _ _ _ _ new
  have line : us.length ≤ sizeLine := by rw [← Paired.length r1, sizeLine_eq]; omega
  have binds := hb ⟨(hp.push (PySem.W.kdv_tup us)).push (PySem.HandSPX.excO C hp.objs.size), g, dr, tk, os⟩ (Value.ref (hp.objs.size + 1) :: us) I2.kIn len
  rw [List.append_nil] at binds
  refine wpAny_call (PySem.HandSPX.call_own F.excBase_ValueError (fun Y => PySem.HandSPX.refsVE_contains Y bm hbm) (I1.kIn _ _ hC) (PySem.W.looks_findIn I1.kIn iC) (fun self => PySem.W.bind_fn I1.kIn self tI) line
    (codeAny_mono (F1.run _ X.stack _ _ ⟨Value.ref (hp.objs.size + 1) :: us, []⟩ (Value.ref (hp.objs.size + 1) :: us) _ _ (fun _ _ _ => False) (hr.make C us []) (I2.env0.make C us []) binds r2 new) fun r s' hq => ?_))
  cases r with
  | error er => exact hx pins σ _ _ er s' I2 hq
  | ok fl =>
    cases fl with
    | ret u =>
      obtain ⟨v, H3, I3, rv, ev, q3⟩ := I2.after hq
      subst ev
      exact ⟨rv, .ref (hp.objs.size + 1), H3, I3, rfl, q3⟩
    | next => exact False.elim hq
    | brk => exact False.elim hq
    | cont => exact False.elim hq
/-- err.f -/
def tErrF (K : PySem.W.Frag) (f : Str) (te : TE) : TE := fun σ H Q => te σ H fun x H1 => ∃ a C d fs v, x = .ref a ∧ Err H1 a C d fs ∧ XfC K C ∧ PySem.W.findIn K (.ref C) f = some none ∧ fs.lookup f = some v ∧ Q v H1
theorem pe_errf {n : Str} (he : PE X e te) (hb : attributeBase e n X.env (eval e X.env) = eval e X.env := by rfl) : PE X (.Attribute e n pos) (tErrF X.K n te) := by
  refine ⟨fun pins s σ H Q I want => ?_⟩
  refine attr_of hb (thn (he.run pins s σ H _ I want) fun u s1 got => ?_)
  obtain ⟨x, H1, I1, rx, a, C, d, fs, v, rfl, ⟨ea, ed⟩, T, hno, l, q⟩ := got
  obtain rfl : u = Value.ref a := rx
  obtain ⟨t1, ho⟩ := exo_at I1.hok ea
  obtain ⟨mA, hns, rel⟩ := exd_at I1.hok ed
  have hns' := hns
  obtain ⟨od, hod, hl⟩ := lookIn_ns hns
  obtain ⟨w', hw, rw'⟩ := RelO.some_of (v := v) (o := mA n) (by rw [← l]; exact rel n)
  exact HandSPX.exc_get I1.kIn ⟨ho, rfl, rfl, hod⟩ T.ga T.gg T.exC (PySem.W.findObj_own T.hdC hno rfl (by rw [hl, hw])) (handed_of rw') ⟨v, H1, I1.tok _, rw', q⟩
/-- C() of an own error without an __init__ of its own -/
theorem pe_error0 {x : Str} {C : Addr} {bmB : List Value} {B newId initId : String} (F : ExcBaseFacts B newId initId bmB) (q : PySem.W.excIn X.K C bmB newId = true) (hm : X.mg x = some (.ref C)) (kC : PySem.W.keepIn X.K (.ref C) = true) (hg : Gl X x)
    (hdb : (x == ("__debug__" : Str)) = false := by decide) : PE X (.Call (.Name x p) [] [] pos) (fun _ H Q => ∀ a, H a = none → Q (.ref a) (upd H a (exo a C none))) := by
  refine ⟨fun pins s σ H Q I want => ?_⟩
  refine wpAny_Call_Name_kw (ld_glob I hg hm ?_ hdb)
  refine PySem.W.callWith_K0 I.kIn kC ?_
  show wpAny _ _ (call (.ref C) []) _ _ _
  obtain ⟨bm, N, nm, qn, bs, hdct, sn, sub, ab, col, dd, k0, k1, k2, k3, k5, mN, hC, hN, hni, T⟩ := exc_obj I.kIn q
  refine wpAny_call_exc_subT F T hC hN hni (fun h' e made => ?_) (by show 0 ≤ sizeLine; decide)
  obtain ⟨t, he, _, _⟩ := made.there
  have free := I.hok.gone made.new
  exact ⟨.ref e, _, I.laidN (t' := s.toks) made.keeps made.new free (exo_ok he), rfl, want e free⟩
/-- isinstance(err, c) -/
theorem call_isErr : CallR X (.builtin "isinstance") (fun xs H Q => ∃ (a C : Addr) (d : Option Addr) (c : V) (cv : Value) (b : Bool), xs = [.ref a, c] ∧ H a = some (exo a C d) ∧ (∀ dd, d = some dd → ∃ fs, H dd = some (exd dd fs)) ∧ ErrC X.K C ∧ (∀ u, RelV c u → u = cv) ∧ PySem.W.kitOne X.K (.ref C) cv = some b ∧ Q (.bl b) H) := by
  intro pins s σ H xs us Q I r want
  obtain ⟨a, C, d, c, cv, b, rfl, ea, ed, T, hcv, e, q⟩ := want
  obtain ⟨u1, u2, rfl, r1, r2⟩ := vals2 r
  obtain rfl : u1 = Value.ref a := r1
  rw [hcv _ r2]
  obtain ⟨t1, ho⟩ := exo_at I.hok ea
  obtain ⟨od, at_⟩ : ∃ od, PySem.W.InstAt s.heap a { cls := .ref C, dict := d, data := .fields #[.ref t1, .none, .none, .none, .bool false, .none] } C od := by
    cases d with
    | none => exact ⟨none, ho, rfl, rfl, trivial⟩
    | some dd =>
      obtain ⟨fs, ed⟩ := ed dd rfl
      obtain ⟨mA, hns, _⟩ := exd_at I.hok ed
      obtain ⟨od, hod, _⟩ := lookIn_ns hns
      exact ⟨some od, ho, rfl, rfl, hod⟩
  have there : (PySem.W.clsIn X.K C).isSome = true := by
    obtain ⟨cd, hc, _⟩ := PySem.W.any_some T.xf.hdC
    rw [hc]
    rfl
  exact PySem.W.kia_one (PySem.W.kitx_exc there T.xf.ga T.xf.gg T.xf.exC T.ca T.cn T.ct T.cm) I.kIn at_ e (fun z => nomatch z) fun tk => ⟨.bl b, H, I.kept (t' := tk) fun _ _ z => z, rfl, q⟩
end
end LN

namespace LN
open PySem PySem.Spec PyProof.Rows L2
/-! an error and its fields -/
def ErrAt (H : Hp) (a C : Addr) (fs : List (Str × V)) : Prop := ∃ d : Option Addr, H a = some (exo a C d) ∧ match d with
  | none => fs = []
  | some dd => H dd = some (exd dd fs)
theorem ErrAt.keep {H H' : Hp} {a C : Addr} {fs : List (Str × V)} (h : ErrAt H a C fs) (s : ∀ b o, H b = some o → (∀ xs, o ≠ .lst xs) → H' b = some o) : ErrAt H' a C fs := by
  obtain ⟨d, e, q⟩ := h
  refine ⟨d, s _ _ e (fun xs z => by have z' : HO.ext _ = HO.lst xs := z; cases z'), ?_⟩
  cases d with
  | none => exact q
  | some dd => exact s _ _ q (fun xs z => by have z' : HO.ext _ = HO.lst xs := z; cases z')
theorem ErrAt.same {H H' : Hp} {a C : Addr} {fs : List (Str × V)} (h : ErrAt H a C fs) (s : Same H H') : ErrAt H' a C fs := h.keep fun b o e _ => s b o e
/-- an __init__ that keeps its arguments -/
def spEI (C : Addr) (fn : List Str) : Sp := fun vs H Q _ => ∃ (a : Addr) (ws : List V), vs = .ref a :: ws ∧ ws.length = fn.length ∧ H a = some (exo a C none) ∧ ∀ H', (∀ b o, H b = some o → b ≠ a → H' b = some o) → ErrAt H' a C (fn.zip ws).reverse → Q .non H'
section
variable {P : Program} {w : World} {K : PySem.W.Frag} {mg : Str → Option Value} {base : Heap} {C fI : Addr} {fd : FuncData} {qual f f1 f2 f3 : Str} {st : Stmt}
theorem ok_ei1 {q1 q2 q3 q4 : Pos} (F : L2.Fun K "__init__" qual st fI fd) (T : OexC K C) (no : PySem.W.findIn K (.ref C) f = some none)
    (sc : FnScope ["self", f] ["self", f] (defScope st)) (loc1 : (defScope st).names.lookup ("self" : Str) = some NameKind.local) (loc2 : (defScope st).names.lookup f = some NameKind.local) (hf : (f == ("__debug__" : Str)) = false) (hcd : (f == ("__classdict__" : Str)) = false)
    (body : defBody st = [.Assign [.Attribute (.Name "self" q1) f q2] (.Name f q3) q4]) : FnOk P w K mg base CX0 1 fI fd ["self", f] (spEI C [f]) := by
  refine F.ok sc (fun vs H Q E h => ?_) (fun cdv A outer s H vs Q E hr h => ?_)
  · obtain ⟨a, ws, rfl, hl, _⟩ := h
    obtain ⟨v, rfl⟩ := List.length_eq_one_iff.mp hl
    rfl
  obtain ⟨a, ws, rfl, hl, ha, q⟩ := h
  obtain ⟨v, rfl⟩ := List.length_eq_one_iff.mp hl
  rw [body]
  refine ⟨_, pss_one (ps_ost (pe_var (i := 0) rfl (.inl loc1)) (pe_var (i := 1) rfl (.inl loc2) hf hcd)), ?_⟩
  refine ⟨v, rfl, .ref a, rfl, a, C, rfl, T, no, .inl ⟨ha, fun dx nd ne => ?_⟩⟩
  refine q _ (fun b o e nb => ?_) ⟨some dx, upd_same, ?_⟩
  · rw [upd_ne nb, upd_ne (ne_of_none e nd)]
    exact e
  · show upd (upd H dx (exd dx [(f, v)])) a (exo a C (some dx)) dx = _
    rw [upd_ne ne, upd_same]
    rfl
theorem ok_ei3 {q1 q2 q3 q4 r1 r2 r3 r4 t1 t2 t3 t4 : Pos} (F : L2.Fun K "__init__" qual st fI fd) (T : OexC K C) (no1 : PySem.W.findIn K (.ref C) f1 = some none) (no2 : PySem.W.findIn K (.ref C) f2 = some none) (no3 : PySem.W.findIn K (.ref C) f3 = some none)
    (sc : FnScope ["self", f1, f2, f3] ["self", f1, f2, f3] (defScope st)) (loc0 : (defScope st).names.lookup ("self" : Str) = some NameKind.local) (loc1 : (defScope st).names.lookup f1 = some NameKind.local) (loc2 : (defScope st).names.lookup f2 = some NameKind.local) (loc3 : (defScope st).names.lookup f3 = some NameKind.local)
    (hf1 : (f1 == ("__debug__" : Str)) = false) (hc1 : (f1 == ("__classdict__" : Str)) = false) (hf2 : (f2 == ("__debug__" : Str)) = false) (hc2 : (f2 == ("__classdict__" : Str)) = false) (hf3 : (f3 == ("__debug__" : Str)) = false) (hc3 : (f3 == ("__classdict__" : Str)) = false)
    (body : defBody st = [.Assign [.Attribute (.Name "self" q1) f1 q2] (.Name f1 q3) q4, .Assign [.Attribute (.Name "self" r1) f2 r2] (.Name f2 r3) r4, .Assign [.Attribute (.Name "self" t1) f3 t2] (.Name f3 t3) t4]) : FnOk P w K mg base CX0 1 fI fd ["self", f1, f2, f3] (spEI C [f1, f2, f3]) := by
  refine F.ok sc (fun vs H Q E h => ?_) (fun cdv A outer s H vs Q E hr h => ?_)
  · obtain ⟨a, ws, rfl, hl, _⟩ := h
    rw [List.length_cons, hl]
    rfl
  obtain ⟨a, ws, rfl, hl, ha, q⟩ := h
  obtain ⟨v1, v2, v3, rfl⟩ : ∃ v1 v2 v3, ws = [v1, v2, v3] := by
    match ws, hl with
    | [v1, v2, v3], _ => exact ⟨v1, v2, v3, rfl⟩
  rw [body]
  refine ⟨_, pss_cons (ps_ost (pe_var (i := 0) rfl (.inl loc0)) (pe_var (i := 1) rfl (.inl loc1) hf1 hc1)) (pss_cons (ps_ost (pe_var (i := 0) rfl (.inl loc0)) (pe_var (i := 2) rfl (.inl loc2) hf2 hc2)) (pss_one (ps_ost (pe_var (i := 0) rfl (.inl loc0)) (pe_var (i := 3) rfl (.inl loc3) hf3 hc3)))), ?_⟩
  refine ⟨v1, rfl, .ref a, rfl, a, C, rfl, T, no1, .inl ⟨ha, fun dx nd ne => ?_⟩⟩
  refine ⟨v2, rfl, .ref a, rfl, a, C, rfl, T, no2, .inr ⟨dx, [(f1, v1)], upd_same, by rw [upd_ne ne, upd_same], by show 1 ≤ 900; decide, ?_⟩⟩
  refine ⟨v3, rfl, .ref a, rfl, a, C, rfl, T, no3, .inr ⟨dx, [(f2, v2), (f1, v1)], by rw [upd_ne (Ne.symm ne), upd_same], upd_same, by show 2 ≤ 900; decide, ?_⟩⟩
  refine q _ (fun b o e nb => ?_) ⟨some dx, ?_, upd_same⟩
  · have nd' := ne_of_none e nd
    rw [upd_ne nd', upd_ne nd', upd_ne nb, upd_ne nd']
    exact e
  · rw [upd_ne (Ne.symm ne), upd_ne (Ne.symm ne), upd_same]
end
/-- such a class -/
structure EInit (P : Program) (w : World) (K : PySem.W.Frag) (mg : Str → Option Value) (base : Heap) (x : Str) (C : Addr) (fn : List Str) : Prop where
  oex : OexC K C
  ex : ∃ fI fd, PySem.W.findIn K (.ref C) "__init__" = some (some (.ref fI)) ∧ PySem.W.typeIn K (.ref fI) = some (.type "function") ∧ FnOk P w K mg base CX0 1 fI fd ("self" :: fn) (spEI C fn) ∧ Binds K fd ("self" :: fn) []
  m : mg x = some (.ref C)
section
variable {X : Cx} {e : Expr} {es : List Expr} {ta : TA} {te : TE} {p pos : Pos}
theorem pe_mkE {x : Str} {C : Addr} {fn : List Str} (T : EInit X.prog X.w X.K X.mg X.base x C fn) (hr : Room 2 X.A) (hx : Passes CX0 X (fun _ _ _ => False)) (ha : PA X (e :: es) ta) (hg : Gl X x := by rfl)
    (hdb : (x == ("__debug__" : Str)) = false := by decide) (he : starEach (e :: es) X.env = (false, eval e X.env) :: starEach es X.env := by rfl) (hpl : (backTo pos (starEach es X.env)).any (·.1) = false := by rfl) :
    PE X (.Call (.Name x p) (e :: es) [] pos) (tMkE C (spEI C fn) ta) := by
  obtain ⟨fI, fd, iC, tI, F1, hb⟩ := T.ex
  exact pe_error T.oex iC tI F1 hr hb hx hg T.m ha hdb he hpl
theorem mkE_of {C : Addr} {fn : List Str} {vs : List V} {H1 : Hp} {Q : Addr → Hp → Prop} (h1 : vs.length ≤ 1000) (h2 : vs.length = fn.length) (h : ∀ H2 a, Same H1 H2 → ErrAt H2 a C (fn.zip vs).reverse → Q a H2) :
    vs.length ≤ 1000 ∧ ∀ a, H1 a = none → spEI C fn (.ref a :: vs) (upd H1 a (exo a C none)) (fun v H2 => v = .non ∧ Q a H2) (fun _ _ _ => False) := by
  refine ⟨h1, fun a na => ⟨a, vs, rfl, h2, upd_same, fun H' kp er => ⟨rfl, h H' a (fun b o e => ?_) er⟩⟩⟩
  have nb := ne_of_none e na
  exact kp b o (by rw [upd_ne nb]; exact e) nb
theorem err0 {H : Hp} {e : Addr} (m : H e = none) (C : Addr) : ErrAt (upd H e (exo e C none)) e C [] := ⟨none, upd_same, rfl⟩
theorem isE_of {K : PySem.W.Frag} {a C D : Addr} {fs : List (Str × V)} {b : Bool} {H : Hp} {Q : Bool → Prop} (h : ErrAt H a C fs) (T : ErrC K C) (k : PySem.W.kitOne K (.ref C) (.ref D) = some b) (q : Q b) :
    ∃ (a' C : Addr) (d : Option Addr) (c : V) (cv : Value) (b : Bool), [V.ref a, V.ref D] = [.ref a', c] ∧ H a' = some (exo a' C d) ∧ (∀ dd, d = some dd → ∃ fs, H dd = some (exd dd fs)) ∧ ErrC K C ∧ (∀ u, RelV c u → u = cv) ∧ PySem.W.kitOne K (.ref C) cv = some b ∧ Q b := by
  obtain ⟨d, e, z⟩ := h
  exact ⟨a, C, d, .ref D, .ref D, b, rfl, e, fun dd y => by subst y; exact ⟨fs, z⟩, T, fun u r => r, k, q⟩
theorem isE_ty {K : PySem.W.Frag} {a C : Addr} {n : String} {fs : List (Str × V)} {b : Bool} {H : Hp} {Q : Bool → Prop} (h : ErrAt H a C fs) (T : ErrC K C) (k : PySem.W.kitOne K (.ref C) (.type n) = some b) (q : Q b) :
    ∃ (a' C : Addr) (d : Option Addr) (c : V) (cv : Value) (b : Bool), [V.ref a, V.ty n] = [.ref a', c] ∧ H a' = some (exo a' C d) ∧ (∀ dd, d = some dd → ∃ fs, H dd = some (exd dd fs)) ∧ ErrC K C ∧ (∀ u, RelV c u → u = cv) ∧ PySem.W.kitOne K (.ref C) cv = some b ∧ Q b := by
  obtain ⟨d, e, z⟩ := h
  exact ⟨a, C, d, .ty n, .type n, b, rfl, e, fun dd y => by subst y; exact ⟨fs, z⟩, T, fun u r => r, k, q⟩
theorem errF_of {K : PySem.W.Frag} {f : Str} {a C : Addr} {fs : List (Str × V)} {v : V} {H : Hp} {Q : V → Prop} (h : ErrAt H a C fs) (T : XfC K C) (no : PySem.W.findIn K (.ref C) f = some none) (l : fs.lookup f = some v) (q : Q v) :
    ∃ a' C d fs v, V.ref a = .ref a' ∧ Err H a' C d fs ∧ XfC K C ∧ PySem.W.findIn K (.ref C) f = some none ∧ fs.lookup f = some v ∧ Q v := by
  obtain ⟨d, e, z⟩ := h
  cases d with
  | none =>
    have z' : fs = [] := z
    subst z'
    cases l
  | some dd => exact ⟨a, C, dd, fs, v, rfl, ⟨e, z⟩, T, no, l, q⟩
end
/-! what is drawn -/
inductive Fl : V → PyData → Prop
  | non : Fl .non .none
  | bl (b : Bool) : Fl (.bl b) (.bool b)
  | int (i : Int) : Fl (.int i) (.int i)
  | str (x : Str) : Fl (.str x) (.str x)
structure Sm (k n : Nat) (d : PyData) : Prop where
  shows : d.showable = true
  deep : d.depth ≤ k
  len : d.shown.length ≤ n
def FlS (v : V) (d : PyData) : Prop := Fl v d ∧ Sm 0 45 d
inductive Vx (K : PySem.W.Frag) (H : Hp) (n : Nat) : V → PyData → Prop
  | flat {v : V} {d : PyData} : FlS v d → Vx K H n v d
  | tup {a : Addr} {xs : List V} {ds : List PyData} : SqT K H a xs → Paired FlS xs ds → xs.length ≤ 4 → Vx K H n (.ref a) (.tuple ds)
  | emp {a : Addr} : H a = some (.dK []) → Vx K H n (.ref a) (.dict [])
  | lst {a : Addr} {xs : List V} {ds : List PyData} : H a = some (.lst xs) → a ≠ sysModules → Paired FlS xs ds → xs.length ≤ n → Vx K H n (.ref a) (.list ds)
theorem paired_mem {α β : Type} {R : α → β → Prop} {Q : β → Prop} (h : ∀ a b, R a b → Q b) : ∀ {l : List α} {m : List β}, Paired R l m → ∀ b ∈ m, Q b
  | _, _, .nil, _, z => absurd z List.not_mem_nil
  | _, _, .cons r t, b, z => (List.mem_cons.mp z).elim (fun e => e ▸ h _ _ r) (paired_mem h t b)
theorem Sm.mono {k n k' n' : Nat} {d : PyData} (h : Sm k n d) (a : k ≤ k') (b : n ≤ n') : Sm k' n' d := ⟨h.shows, Nat.le_trans h.deep a, Nat.le_trans h.len b⟩
theorem Sm.list {ds : List PyData} {k n m : Nat} (h : ∀ d ∈ ds, Sm k n d) (l : ds.length ≤ m) : Sm (k + 1) (2 + m * (n + 2)) (.list ds) := by
  refine ⟨all_shows fun d hd => (h d hd).shows, Nat.succ_le_succ (all_deep fun d hd => (h d hd).deep), ?_⟩
  show (listText (PyData.shownAll ds)).length ≤ _
  have h1 := listText_le (PyData.shownAll ds)
  have h2 := piled_le fun d hd => (h d hd).len
  have h3 := Nat.mul_le_mul_right (n + 2) l
  omega
theorem Sm.tuple {ds : List PyData} {k n m : Nat} (h : ∀ d ∈ ds, Sm k n d) (l : ds.length ≤ m) : Sm (k + 1) (3 + m * (n + 2)) (.tuple ds) := by
  refine ⟨all_shows fun d hd => (h d hd).shows, Nat.succ_le_succ (all_deep fun d hd => (h d hd).deep), ?_⟩
  show (tupleText (PyData.shownAll ds)).length ≤ _
  have h1 := tupleText_le (PyData.shownAll ds)
  have h2 := piled_le fun d hd => (h d hd).len
  have h3 := Nat.mul_le_mul_right (n + 2) l
  omega
theorem Vx.sm {K : PySem.W.Frag} {H : Hp} {n : Nat} {v : V} {d : PyData} (h : Vx K H n v d) (hn : n ≤ 4) : Sm 1 200 d := by
  cases h with
  | flat q => exact q.2.mono (by decide) (by decide)
  | tup h1 h2 h3 => exact (Sm.tuple (m := 4) (paired_mem (fun _ _ q => q.2) h2) (by rw [← Paired.length h2]; exact h3)).mono (by decide) (by decide)
  | emp _ => exact ⟨rfl, by decide, by decide⟩
  | lst h1 _ h2 h3 => exact (Sm.list (m := 4) (paired_mem (fun _ _ q => q.2) h2) (by rw [← Paired.length h2]; exact Nat.le_trans h3 hn)).mono (by decide) (by decide)
section
variable {X : Cx} {pins : List (Addr × Obj)} {σ : L2.St} {H : Hp} {s : Shared}
theorem fl_reads {h : Heap} {v : V} {d : PyData} {u : Value} (f : Fl v d) (r : RelV v u) : Reads h u d [] := by
  cases f with
  | non => cases (show u = Value.none from r); exact .none
  | bl b => cases (show u = Value.bool b from r); exact .bool b
  | int i => obtain ⟨t, rfl⟩ := r; exact .int i t
  | str x => obtain ⟨t, rfl⟩ := r; exact .str x t
theorem fls_reads {h : Heap} : ∀ {vs : List V} {ds : List PyData} {us : List Value}, Paired FlS vs ds → Vals vs us → ReadsAll h us ds []
  | _, _, _, .nil, .nil => .nil
  | _, _, _, .cons f t, .cons r t' => .cons (as := []) (bs := []) (fl_reads f.1 r) (fls_reads t t')
theorem Vx.reads (I : Inv X pins σ H s) {n : Nat} {v : V} {d : PyData} {u : Value} (h : Vx X.K H n v d) (r : RelV v u) : ∃ as, Reads s.heap u d as ∧ sysModules ∉ as := by
  cases h with
  | flat q => exact ⟨[], fl_reads q.1 r, List.not_mem_nil⟩
  | tup h1 h2 _ =>
    cases (show u = Value.ref _ from r)
    obtain ⟨its, rv, ⟨o, ho, hc, m, hd⟩, _⟩ := I.tuple h1
    exact ⟨[], .tuple ho hc hd (by simpa using fls_reads h2 rv), List.not_mem_nil⟩
  | emp h1 =>
    rename_i a
    cases (show u = Value.ref a from r)
    obtain ⟨_, off, vs, kv, o, es, ep, ho, ex, hd, _, prs, _⟩ := dk_of I.hok h1
    cases kv
    have len := prs.length
    have nil : es.toList = [] := List.length_eq_zero_iff.mp len
    refine ⟨a :: [] ++ [], .dict ho ex.1 hd (by rw [nil]; exact .nil) (by rw [nil]; exact .nil), fun m => ?_⟩
    simp only [List.append_nil, List.mem_singleton] at m
    exact absurd m.symm (beq_eq_false_iff_ne.mp off)
  | lst h1 h0 h2 _ =>
    rename_i xs a ds
    cases (show u = Value.ref _ from r)
    obtain ⟨_, its, m, rv, ho⟩ := (show ObjOk X.prog X.w H s.heap _ (.lst _) from I.hok _ _ h1)
    refine ⟨[_], .list ho rfl rfl (by simpa using fls_reads h2 rv), fun z => ?_⟩
    rw [List.mem_singleton] at z
    exact h0 z.symm
theorem vxs_reads (I : Inv X pins σ H s) {n : Nat} : ∀ {vs : List V} {ds : List PyData} {us : List Value}, Paired (Vx X.K H n) vs ds → Vals vs us → ∃ as, ReadsAll s.heap us ds as ∧ sysModules ∉ as
  | _, _, _, .nil, .nil => ⟨[], .nil, List.not_mem_nil⟩
  | _, _, _, .cons f t, .cons r t' => by
    obtain ⟨as, h1, h2⟩ := f.reads I r
    obtain ⟨bs, h3, h4⟩ := vxs_reads I t t'
    exact ⟨as ++ bs, .cons h1 h3, fun z => (List.mem_append.mp z).elim h2 h4⟩
end
section
variable {X : Cx}
/-! lists that are new, and stand behind what the world began with -/
def tLstN (ta : TA) : TE := fun σ H Q => ta σ H fun xs G => xs.length ≤ sizeLine ∧ ∀ p, G p = none → p ≠ sysModules → Q (.ref p) (upd G p (.lst xs))
theorem pe_lstN {es : List Expr} {ta : TA} {pos : Pos} (h : PA X es ta) : PE X (.List es pos) (tLstN ta) := by
  constructor
  intro pins s σ H Q I want
  apply wpAny_List_spliced
  apply thn (h.run pos pins s σ H _ I want)
  rintro us s1 ⟨xs, G, J, r, few, q⟩
  refine ⟨by rw [← r.length]; exact few, ?_⟩
  have big := J.big
  exact ⟨.ref s1.heap.objs.size, _, J.lnew (t' := s1.toks) r few, rfl, q _ J.fresh (Nat.ne_of_gt big)⟩
def rCatN : R2 := fun x y G Q => ∃ a b xs ys, x = .ref a ∧ y = .ref b ∧ G a = some (.lst xs) ∧ G b = some (.lst ys) ∧ xs.length + ys.length ≤ sizeLine ∧ ∀ p, G p = none → p ≠ sysModules → Q (.ref p) (upd G p (.lst (xs ++ ys)))
theorem op_catN : OpR X (binaryOp .Add) rCatN := by
  intro pins s σ G x y v u Q J r1 r2 want
  obtain ⟨a, b, xs, ys, rfl, rfl, ea, eb, few, q⟩ := want
  cases r1
  cases r2
  obtain ⟨_, us, _, ru, lu, au⟩ := J.lstM ea
  obtain ⟨_, ws, _, rw_, lw, aw⟩ := J.lstM eb
  apply PySem.P.add_list au aw _ (by rw [List.size_toArray, List.size_toArray]; omega)
  have big := J.big
  rw [show us.toArray ++ ws.toArray = (us ++ ws).toArray by simp]
  exact ⟨.ref _, _, J.lnew (t' := s.toks) (ru.append rw_) (by rw [List.length_append]; omega), rfl, q _ J.fresh (Nat.ne_of_gt big)⟩
theorem cr_reprV (quiet : Quiet X.A) (hu : X.A.units + 70 < cLine) : CallR X (.builtin "repr") (fun xs H Q => ∃ a vs ds n, xs = [.ref a] ∧ H a = some (.lst vs) ∧ a ≠ sysModules ∧ Paired (Vx X.K H n) vs ds ∧ n ≤ 4 ∧ vs.length ≤ 100 ∧ Q (.str (PyData.list ds).shown) H) := by
  intro pins s σ H xs us Q inv rel want
  obtain ⟨a, vs, ds, n, rfl, ha, off, hp, hn, hl, q⟩ := want
  obtain ⟨u, rfl, ru⟩ := vals1 rel
  obtain rfl : u = Value.ref a := ru
  obtain ⟨_, its, m, rv, ho⟩ := (show ObjOk X.prog X.w H s.heap a (.lst vs) from inv.hok a _ ha)
  obtain ⟨as, h1, h2⟩ := vxs_reads inv hp rv
  have rd : Reads s.heap (.ref a) (.list ds) (a :: as) := .list ho rfl rfl (by simpa using h1)
  have sm : Sm 2 20202 (.list ds) := Sm.list (m := 100) (paired_mem (fun _ _ q => Vx.sm q hn) hp) (by rw [← Paired.length hp]; exact hl)
  have dp := sm.deep
  refine repr_of_reads' rd sm.shows (fun _ z => ?_) quiet (by omega) (fun _ _ e => e) ?_ (Nat.le_trans sm.len (by decide))
  · exact (List.mem_cons.mp z).elim (fun e => off e.symm) h2
  intro h' u tk hk
  exact ⟨.str (PyData.list ds).shown, H, inv.un (t' := tk) (Un.kept hk) (inv.hok.kept hk), ⟨u, rfl⟩, q⟩
end
theorem vx_eq {K : PySem.W.Frag} {H : Hp} {n : Nat} : ∀ {vs : List V} {ds : List PyData}, Paired (Vx K H n) vs ds → Paired (EqV K H 1) vs vs
  | _, _, .nil => .nil
  | _, _, .cons h t => .cons (by
      cases h with
      | flat q =>
        refine .inl ⟨rfl, ?_⟩
        obtain ⟨q, _⟩ := q
        cases q <;> rfl
      | tup => exact .inr (.inl ⟨_, rfl, rfl⟩)
      | emp => exact .inr (.inl ⟨_, rfl, rfl⟩)
      | lst => exact .inr (.inl ⟨_, rfl, rfl⟩)) (vx_eq t)
end LN

namespace LN
open PySem PySem.Spec PyProof.Rows L2
/-! what an own error's class must have, as one check -/
def veNew : String := "ValueError.__new__"
def veBase : List Value := [.type "ValueError", .type "Exception", .type "BaseException", .type "object"]
def clsB (K : PySem.W.Frag) (C : Addr) : Bool := match K.lookup C with
  | some ⟨.type "type", _, .cls cd, sl⟩ => (match cd.mro, sl.toList with
    | .ref D :: bm, [_, _, _, _, some (.builtin n), _] => D == C && (n == veNew && (!cd.hasDel && (cd.hasDict && PySem.HandSPX.refsVE bm)))
    | _, _ => false)
  | _ => false
theorem clsB_ok {K : PySem.W.Frag} {C : Addr} (h : clsB K C = true) : ∃ nm q N bs bm sn sub ab col dd k0 k1 k2 k3 k5, K.lookup C = some (excClassObj nm q C N bs bm true sn sub ab col dd k0 k1 k2 k3 k5 "ValueError.__new__") ∧ PySem.HandSPX.refsVE bm = true := by
  unfold clsB at h
  split at h
  · rename_i dd cd sl ho
    split at h
    · rename_i D bm k0 k1 k2 k3 n k5 hm hs
      simp only [Bool.and_eq_true, beq_iff_eq, Bool.not_eq_true'] at h
      obtain ⟨rfl, rfl, hdel, hd, hv⟩ := h
      obtain ⟨nm, bs, mro, ns, qn, hd', sn, sub, ab, col, del⟩ := cd
      dsimp only at hm hdel hd
      subst hm hdel hd
      have hsl : sl = #[k0, k1, k2, k3, some (.builtin veNew), k5] := by
        obtain ⟨l⟩ := sl
        simp only at hs
        rw [hs]
      subst hsl
      exact ⟨nm, qn, ns, bs, bm, sn, sub, ab, col, dd, k0, k1, k2, k3, k5, ho, hv⟩
    · cases h
  · cases h
def errB (K : PySem.W.Frag) (C : Addr) : Bool := clsB K C && (decide (PySem.W.findIn K (.ref C) "__setattr__" = some (some (.builtin "object.__setattr__"))) && (decide (PySem.W.subIn K (.ref C) (.type "BaseException") = some true) && (decide (PySem.W.typeIn K (.ref C) = some (.type "type")) && (PySem.W.keepIn K (.ref C) && (xfB K C &&
  (decide (PySem.W.findIn K (.ref C) "__class__" = some (some (.builtin "object.__class__"))) && (decide (PySem.W.specialIn K (.builtin "object.__class__") "__get__" = some (some (.builtin "getset_descriptor.__get__"))) && (decide (PySem.W.takesIn K (.builtin "object.__class__") = some true) && decide (PySem.W.mroIn K C (.type "object") = some true)))))))))
theorem errB_ok {K : PySem.W.Frag} {C : Addr} (h : errB K C = true) : ErrC K C := by
  unfold errB at h
  simp only [Bool.and_eq_true, decide_eq_true_eq] at h
  obtain ⟨h1, h2, h3, h4, h5, h6, h7, h8, h9, h10⟩ := h
  exact ⟨⟨clsB_ok h1, h2, h3, h4, h5⟩, xfB_ok h6, h7, h8, h9, h10⟩
/-- nineteen such classes under one, none under another one -/
def tabB (K : PySem.W.Frag) (Cs : List Addr) (L : Addr) : Bool := errB K L && (Cs.all (errB K) && ((List.range Cs.length).all (fun i => (List.range Cs.length).all fun j => decide (PySem.W.kitOne K (.ref (Cs.getD i 0)) (.ref (Cs.getD j 0)) = some (decide (i = j)))) &&
  (Cs.all (fun C => decide (PySem.W.kitOne K (.ref L) (.ref C) = some false) && (decide (PySem.W.kitOne K (.ref C) (.ref L) = some true) && decide (PySem.W.kitOne K (.ref C) (.type "ValueError") = some true))))))
structure Tab (K : PySem.W.Frag) (n : Nat) (E : Nat → Addr) (L : Addr) : Prop where
  low : ErrC K L
  ec : ∀ i, i < n → ErrC K (E i)
  kk : ∀ i j, i < n → j < n → PySem.W.kitOne K (.ref (E i)) (.ref (E j)) = some (decide (i = j))
  lk : ∀ j, j < n → PySem.W.kitOne K (.ref L) (.ref (E j)) = some false
  up : ∀ i, i < n → PySem.W.kitOne K (.ref (E i)) (.ref L) = some true
  uv : ∀ i, i < n → PySem.W.kitOne K (.ref (E i)) (.type "ValueError") = some true
theorem tab_of {K : PySem.W.Frag} {Cs : List Addr} {L : Addr} (h : tabB K Cs L = true) : Tab K Cs.length (fun i => Cs.getD i 0) L := by
  unfold tabB at h
  simp only [Bool.and_eq_true, List.all_eq_true, decide_eq_true_eq, List.mem_range] at h
  obtain ⟨h1, h2, h3, h4⟩ := h
  have mem : ∀ i, i < Cs.length → Cs.getD i 0 ∈ Cs := fun i hi => by
    rw [List.getD_eq_getElem?_getD, List.getElem?_eq_getElem hi]
    exact List.getElem_mem hi
  exact ⟨errB_ok h1, fun i hi => errB_ok (h2 _ (mem i hi)), fun i j hi hj => h3 i hi j hj, fun j hj => (h4 _ (mem j hj)).1, fun i hi => (h4 _ (mem i hi)).2.1, fun i hi => (h4 _ (mem i hi)).2.2⟩
end LN

namespace LN
open PySem PySem.Spec PyProof.Rows L2
/-! raise C(x), C an own error that keeps one thing -/
/-- the __init__ of such an error -/
def spErr (C : Addr) (f : Str) : Sp := fun vs H Q _ => ∃ (a : Addr) (v : V), vs = [.ref a, v] ∧ H a = some (exo a C none) ∧ ∀ dx, H dx = none → dx ≠ a → Q .non (upd (upd H dx (exd dx [(f, v)])) a (exo a C (some dx)))
theorem ok_err {P : Program} {w : World} {K : PySem.W.Frag} {mg : Str → Option Value} {base : Heap} {C fI : Addr} {fd : FuncData} {qual f : Str} {st : Stmt} {q1 q2 q3 q4 : Pos} (F : L2.Fun K "__init__" qual st fI fd) (T : OexC K C) (no : PySem.W.findIn K (.ref C) f = some none)
    (sc : FnScope ["self", f] ["self", f] (defScope st)) (loc1 : (defScope st).names.lookup ("self" : Str) = some NameKind.local) (loc2 : (defScope st).names.lookup f = some NameKind.local) (hf : (f == ("__debug__" : Str)) = false) (hcd : (f == ("__classdict__" : Str)) = false)
    (body : defBody st = [.Assign [.Attribute (.Name "self" q1) f q2] (.Name f q3) q4]) : FnOk P w K mg base CX0 1 fI fd ["self", f] (spErr C f) := by
  refine F.ok sc (fun vs H Q E h => ?_) (fun cdv A outer s H vs Q E hr h => ?_)
  · obtain ⟨a, v, rfl, _⟩ := h
    rfl
  obtain ⟨a, v, rfl, ha, q⟩ := h
  rw [body]
  refine ⟨_, pss_one (ps_ost (pe_var (i := 0) rfl (.inl loc1)) (pe_var (i := 1) rfl (.inl loc2) hf hcd)), ?_⟩
  exact ⟨v, rfl, .ref a, rfl, a, C, rfl, T, no, .inl ⟨ha, fun dx nd ne => q dx nd ne⟩⟩
/-- such a class -/
structure ErrI (P : Program) (w : World) (K : PySem.W.Frag) (mg : Str → Option Value) (base : Heap) (x : Str) (C : Addr) (f : Str) : Prop where
  er : ErrC K C
  ex : ∃ fI fd, PySem.W.findIn K (.ref C) "__init__" = some (some (.ref fI)) ∧ PySem.W.typeIn K (.ref fI) = some (.type "function") ∧ FnOk P w K mg base CX0 1 fI fd ["self", f] (spErr C f) ∧ Binds K fd ["self", f] []
  m : mg x = some (.ref C)
section
variable {X : Cx} {W : WX} {e : Expr} {es : List Expr} {ga : GR} {pos : Pos}
def gRaise (C : Addr) (f : Str) (ga : GRA) : GRS := fun d Γ S => ga Γ S (fun gs S1 => match gs with
  | [.dat x] => d.xr C [(f, x)] Γ S1
  | _ => False) (d.ex Γ)
theorem gs_raise {x : Str} {C : Addr} {f : Str} {ga : GRA} {p pos2 : Pos} (calm : X.calm = true) (tk : Takes X W) (T : ErrI X.prog X.w X.K X.mg X.base x C f) (hr : Room 2 X.A) (ha : GA X W (e :: es) ga) (hg : Gl X x := by rfl)
    (hdb : (x == ("__debug__" : Str)) = false := by decide) (he : starEach (e :: es) X.env = (false, eval e X.env) :: starEach es X.env := by rfl) (hpl : (backTo pos (starEach es X.env)).any (·.1) = false := by rfl) :
    GSt X W (.Raise (some (.Call (.Name x p) (e :: es) [] pos)) none pos2) (gRaise C f ga) := by
  obtain ⟨fI, fd, iC, tI, F1, hb⟩ := T.ex
  refine PS.imp (ps_raise calm tk (pmk_oex T.er.oex iC tI F1 hr hb .nil pass0 hg T.m ha hdb he hpl)) ?_
  rintro D σ H ⟨R, Γ, S, F, d, g, sl, h, on⟩
  refine ⟨R, Γ, S, F, _, _, g, sl, h, fun vs S1 F1 H1 gs g1 s1 r1 h1 => ?_, on.ex sl⟩
  dsimp only at h1
  split at h1
  · rename_i y
    obtain ⟨v, rfl, rv⟩ := gvs1 r1
    refine ⟨by show 1 ≤ 1000; decide, fun a na => ⟨a, v, rfl, upd_same, fun dx nd ne => ⟨rfl, dx, [(f, v)], upd_same, ?_, ?_, ?_⟩⟩⟩
    · rw [upd_ne ne, upd_same]
    · rw [upd_ne ne] at nd
      exact nd
    · rw [upd_ne ne] at nd
      have e1 : upd (del (upd (upd (upd H1 a (exo a C none)) dx (exd dx [(f, v)])) a (exo a C (some dx))) a) dx (.xd [(f, v)]) = upd H1 dx (.xd [(f, v)]) := by
        funext b
        by_cases hb : b = dx
        · rw [hb, upd_same, upd_same]
        · rw [upd_ne hb, upd_ne hb]
          by_cases hba : b = a
          · rw [hba, del_same, na]
          · rw [del_ne hba, upd_ne hba, upd_ne hb, upd_ne hba]
      rw [e1]
      have u := up_new (F := F1) (p := dx) (o := .xd [(f, v)]) (g1.fresh nd).1
      exact on.xr C (some dx) [(f, y)] Γ S1 _ _ σ (g1.lay nd _) (sl.up (s1.trans u)) (s1.trans u) ⟨_, upd_same, .cons (Rp.up u rv) .nil⟩ h1
  · exact h1.elim
/-! try: .. except C as n: .. -/
theorem SL.none {K : PySem.W.Frag} {F : Hp} {Γ : List (Option G)} {σ : L2.St} (h : SL K F Γ σ) (i : Nat) : SL K F (Γ.set i .none) (σ.set i .none) := by
  refine ⟨by simp [h.len], fun j x e => ?_⟩
  by_cases hj : i = j
  · subst hj
    have hi : i < Γ.length := by
      obtain ⟨hi, _⟩ := List.getElem?_eq_some_iff.mp e
      simpa using hi
    rw [List.getElem?_set_self hi] at e
    cases e
  · rw [List.getElem?_set_ne hj] at e ⊢
    exact h.at_ j x e
/-- what comes behind the suite -/
def GEnds.suite (d : GEnds) (i : Nat) : GEnds where
  nx := fun Γ S => d.nx (Γ.set i .none) S
  rt := d.rt
  bk := fun Γ S => d.bk (Γ.set i .none) S
  ct := fun Γ S => d.ct (Γ.set i .none) S
def gTryAs (K : PySem.W.Frag) (c : Value) (i : Nat) (tb : GRS) (ts : Addr → Value → Option Addr → GRS) : GRS := fun d Γ S => tb { d with xr := fun C gs Γ' S' => ∃ b, PySem.W.exmOne K (.ref C) c = some b ∧
  (if b = true then (∀ (a : Addr) (od : Option Addr), ts a (.ref C) od (d.suite i) (Γ'.set i (some (.dat (.exc a od C gs)))) S') else d.xr C gs Γ' S') } Γ S
abbrev WNo : WX := fun _ _ _ _ => False
theorem gs_tryAs {x n : Str} {c : Value} {i : Nat} {body suite : List Stmt} {b₀ : Stmt} {np pos pos' : Pos} {tb : GRS} {ts : Addr → Value → Option Addr → GRS} (hs : X.stack = X.env :: X.outer) (hf : X.env.frame = some X.env.locals) (nd : X.N.Nodup) (hi : X.N[i]? = some n) (hln : X.env.kindOf n = some .local)
    (hc : L2.Names X x c) (tk : Takes X W) (hb : ∀ (W' : WX) (pn : List (Addr × Obj)) (xe : Value → Shared → Prop), Takes (X.tr pn xe) W' → GSs (X.tr pn xe) W' body tb)
    (hsu : ∀ (a : Addr) (oe : Obj) (cls : Value) (d : Option Addr) (pn : List (Addr × Obj)), Zc cls d oe → (∃ vs, oe.data = .fields vs) → GSs (X.suite a ((a, oe) :: pn)) WNo (b₀ :: suite) (ts a cls d)) :
    GSt X W (.Try body [.ExceptHandler (some (.Name x np)) (some n) (b₀ :: suite) pos'] [] [] pos) (gTryAs X.K c i tb ts) := by
  refine PS.imp (ps_try_as (tb := fun W' => tGS X.K W' tb) (ts := fun a cls d => tGS X.K WNo (ts a cls d)) (Wout := W) hs hf nd hi hln hc tk (fun W' pn xe tk' _ => hb W' pn xe tk') hsu) ?_
  rintro D σ H ⟨R, Γ, S, F, d, g, sl, h, on⟩
  refine ⟨R, Γ, S, F, _, g, sl, h, ⟨on.nx, on.rt, on.bk, on.ct, ?_⟩⟩
  rintro C od gs Γ' S' F' H' σ' g' sl' s' x' ⟨b, e, h'⟩
  refine ⟨b, e, fun hb a na => ?_, fun hb => ?_⟩
  · rw [hb, if_pos rfl] at h'
    have rx : Rp X.K F' (.ref a) (.exc a od C gs) := by
      cases od with
      | none => cases (show gs = [] from x'); exact .exc0
      | some dd => obtain ⟨fs, h1, h2⟩ := x'; exact .exc1 h1 h2
    refine ⟨R, _, S', F', _, g', sl'.set (g := .dat (.exc a od C gs)) rx, h' a od, ⟨?_, ?_, ?_, ?_, ?_⟩⟩
    · exact fun Γ2 S2 F2 H2 σ2 g2 sl2 s2 h2 => on.nx _ S2 F2 H2 _ g2 (sl2.none i) (s'.trans s2) h2
    · exact fun v S2 F2 H2 x g2 s2 r2 h2 => on.rt v S2 F2 H2 x g2 (s'.trans s2) r2 h2
    · exact fun Γ2 S2 F2 H2 σ2 g2 sl2 s2 h2 => on.bk _ S2 F2 H2 _ g2 (sl2.none i) (s'.trans s2) h2
    · exact fun Γ2 S2 F2 H2 σ2 g2 sl2 s2 h2 => on.ct _ S2 F2 H2 _ g2 (sl2.none i) (s'.trans s2) h2
    · exact fun _ _ _ _ _ _ _ _ _ _ _ _ h2 => (show False from h2).elim
  · rw [hb, if_neg Bool.false_ne_true] at h'
    exact on.xr C od gs Γ' S' F' H' σ' g' sl' s' x' h'
/-! what an except suite asks of its error -/
def gXf (K : PySem.W.Frag) (f : Str) (ga : GR) (a : Addr) (cls : Value) (od : Option Addr) : GR := fun Γ S P E => ga Γ S (fun x S1 => match x with
  | .dat (.exc a' od' C fs) => (a' = a ∧ od' = od ∧ cls = .ref C) ∧ (XfC K C ∧ PySem.W.findIn K (.ref C) f = some none) ∧ (match fs.lookup f with
    | some y => P (.dat y) S1
    | none => False)
  | _ => False) E
theorem rpfs_at {K : PySem.W.Frag} {F : Hp} {f : Str} {y : D} {fs : List (Str × V)} {gs : List (Str × D)} (h : RpFs K F fs gs) (e : gs.lookup f = some y) : ∃ v, fs.lookup f = some v ∧ Rp K F v y := h.at e
end
section
variable {X : Cx} {a : Addr} {oe : Obj} {cls : Value} {d : Option Addr} {pn : List (Addr × Obj)} {e : Expr} {ga : GR} {pos : Pos} {W : WX}
theorem ge_xf {n : Str} (hz : Zc cls d oe) (hf : ∃ vs, oe.data = .fields vs) (he : GE (X.suite a ((a, oe) :: pn)) W e ga) (hb : attributeBase e n X.env (eval e X.env) = eval e X.env := by rfl) :
    GE (X.suite a ((a, oe) :: pn)) W (.Attribute e n pos) (gXf X.K n ga a cls d) := by
  refine ⟨fun pins s σ H Q I h => ?_⟩
  obtain ⟨R, Γ, S, F, P, E, g, sl, h, on, ox⟩ := h
  have h2 : tG X.K W ga σ H (fun v H1 => ∃ (C : Addr) (dd : Addr) (fs : List (Str × V)) (w : V), v = .ref a ∧ cls = .ref C ∧ (XfC X.K C ∧ PySem.W.findIn X.K (.ref C) n = some none) ∧ d = some dd ∧ H1 dd = some (.xd fs) ∧ fs.lookup n = some w ∧ Q w H1) := by
    refine ⟨R, Γ, S, F, _, E, g, sl, h, fun v S1 F1 H1 x g1 s1 r1 h1 => ?_, ox⟩
    dsimp only at h1
    split at h1
    · rename_i a' od' C fs
      obtain ⟨⟨rfl, rfl, ec⟩, T, h1⟩ := h1
      split at h1
      · rename_i y ly
        cases (show Rp X.K F1 v (.exc a' od' C fs) from r1) with
        | exc0 => cases ly
        | @exc1 _ _ dd fs' _ h3 h4 =>
          obtain ⟨w, lw, rw'⟩ := rpfs_at h4 ly
          exact ⟨C, dd, fs', w, rfl, ec, T, rfl, g1.sub _ _ h3, lw, on w S1 F1 H1 (.dat y) g1 s1 rw' h1⟩
      · exact h1.elim
    · exact h1.elim
  refine attr_of hb (thn (he.run pins s σ H _ I h2) fun u s1 hh => ?_)
  obtain ⟨x, H1, I1, rx, C, dd, fs, v, ex, ec, ⟨T, hno⟩, ed, ea, l, q⟩ := hh
  subst ex
  obtain rfl : u = Value.ref a := rx
  subst ec
  subst ed
  obtain ⟨ha, _⟩ := I1.pin (a, oe) (List.mem_append_left _ List.mem_cons_self)
  obtain ⟨vs, hd⟩ := hf
  have hx : ObjOk X.prog X.w H1 s1.heap dd (.xd fs) := I1.hok dd _ ea
  obtain ⟨mA, hns, hr⟩ := hx
  obtain ⟨od, ho, hl⟩ := lookIn_ns hns
  obtain ⟨u, hu, ru⟩ := RelO.some_of (v := v) (o := mA n) (by rw [← l]; exact hr n)
  have J : PySem.W.InstAt s1.heap a oe C (some od) := ⟨ha, hz.1, by unfold PySem.W.notCls; rw [hd] <;> rfl, by rw [hz.2]; exact ho⟩
  exact HandSPX.exc_get I1.kIn J T.ga T.gg T.exC (PySem.W.findObj_own T.hdC hno rfl (by rw [hl, hu])) (handed_of ru) ⟨v, H1, I1.tok _, ru, q⟩
/-- is it of one of these classes? -/
def excIs (K : PySem.W.Frag) (C : Addr) : List D → (Bool → Prop) → Prop
  | [], P => P false
  | .val v :: cs, P => ∃ u b, ClsV v u ∧ PySem.W.kitOne K (.ref C) u = some b ∧ excIs K C cs fun b2 => P (b || b2)
  | _, _ => False
def rIsE_ (K : PySem.W.Frag) (a : Addr) (cls : Value) (od : Option Addr) : RC := fun gs S P => match gs with
  | [.dat (.exc a' od' C _), .dat (.val v)] => (a' = a ∧ od' = od ∧ cls = .ref C) ∧ ErrC K C ∧ ∃ u b, ClsV v u ∧ PySem.W.kitOne K (.ref C) u = some b ∧ P (.dat (.bl b)) S
  | [.dat (.exc a' od' C _), .dat (.tup cs)] => (a' = a ∧ od' = od ∧ cls = .ref C) ∧ ErrC K C ∧ excIs K C cs fun b => P (.dat (.bl b)) S
  | _ => False
theorem excIs_of {K : PySem.W.Frag} {F : Hp} {C : Addr} : ∀ {cs : List D} {vs : List V} {P : Bool → Prop}, RpAll K F vs cs → excIs K C cs P → ∃ us b, Paired ClsV vs us ∧ PySem.W.kitAny K (.ref C) us = some b ∧ P b
  | [], vs, P, r, h => by
    cases (show RpAll K F vs [] from r)
    exact ⟨[], false, .nil, kitAny_nil, h⟩
  | c :: cs, vs, P, r, h => by
    cases r with
    | @cons v _ vs' _ r1 r2 =>
      unfold excIs at h
      split at h
      · rename_i e; cases e
      · rename_i w cs' e
        cases e
        obtain ⟨u, b, k1, e1, h⟩ := h
        obtain ⟨us, b2, k2, e2, h⟩ := excIs_of r2 h
        cases r1
        exact ⟨u :: us, b || b2, .cons k1 k2, kitAny_cons e1 (fun z => by rw [z]; rw [z] at *; exact e2) (fun z => by rw [z]; rfl), h⟩
      · exact h.elim
theorem crg_isE (hz : Zc cls d oe) (hf : ∃ vs, oe.data = .fields vs) : CallR (X.suite a ((a, oe) :: pn)) (.builtin "isinstance") (cG X.K (rIsE_ X.K a cls d)) := by
  rintro pins s σ H vs us Q I r ⟨R, S, F, P, gs, g, hv, h, on⟩
  have kit : ∀ (C : Addr) (fs : List (Str × D)) (v : V) (u : Value), Rp X.K F v (.exc a d C fs) → cls = .ref C → ErrC X.K C → RelV v u → ∃ P : Heap → Prop, PySem.W.KitX X.K u (.ref C) P ∧ P s.heap ∧ u ≠ .builtin "__main__.__loader__#opaque" := by
    rintro C fs v u rv rfl T ru
    obtain ⟨hget, _⟩ := I.pin (a, oe) (List.mem_append.mpr (.inl List.mem_cons_self))
    obtain ⟨vs, hd⟩ := hf
    have there : (PySem.W.clsIn X.K C).isSome = true := by
      obtain ⟨cd, hc, _⟩ := PySem.W.any_some T.xf.hdC
      rw [hc]
      rfl
    obtain ⟨od, J⟩ : ∃ od, PySem.W.InstAt s.heap a oe C od := by
      cases rv with
      | exc0 => exact ⟨none, hget, hz.1, by unfold PySem.W.notCls; rw [hd] <;> rfl, by rw [hz.2]; trivial⟩
      | @exc1 _ _ dd fs' _ h3 h4 =>
        have hx : ObjOk X.prog X.w H s.heap dd (.xd fs') := I.hok dd _ (g.sub _ _ h3)
        obtain ⟨mA, hns, hr⟩ := hx
        obtain ⟨od, ho, hl⟩ := lookIn_ns hns
        exact ⟨some od, hget, hz.1, by unfold PySem.W.notCls; rw [hd] <;> rfl, by rw [hz.2]; exact ho⟩
    obtain rfl : v = .ref a := by cases rv <;> rfl
    obtain rfl : u = Value.ref a := ru
    exact ⟨_, PySem.W.kitx_exc there T.xf.ga T.xf.gg T.xf.exC T.ca T.cn T.ct T.cm, J, fun z => nomatch z⟩
  unfold rIsE_ at h
  split at h
  · rename_i a' od' C fs w
    obtain ⟨v, v2, rfl, hx, hy⟩ := gvs2 hv
    obtain ⟨⟨rfl, rfl, ec⟩, T, u, b, k1, e1, h⟩ := h
    cases (show Rp X.K F v2 (.val w) from hy)
    obtain ⟨y1, y2, rfl, r1, r2⟩ := vals2 r
    exact isi_one I k1 (kit C fs v y1 hx ec T r1) r2 e1 (on.now g (x := .dat (.bl b)) (.bl _) h)
  · rename_i a' od' C fs cs
    obtain ⟨v, v2, rfl, hx, hy⟩ := gvs2 hv
    obtain ⟨⟨rfl, rfl, ec⟩, T, h⟩ := h
    cases (show Rp X.K F v2 (.tup cs) from hy) with
    | @tup b xs _ h1 h2 =>
      obtain ⟨us', bb, k1, e1, h⟩ := excIs_of h2 h
      obtain ⟨y1, y2, rfl, r1, r2⟩ := vals2 r
      exact isi_two I (g.sub _ _ h1) k1 (kit C fs v y1 hx ec T r1) r2 e1 (on.now g (x := .dat (.bl bb)) (.bl _) h)
  · exact h.elim
end
/-! d.get(k), there -/
section
variable {X : Cx}
def rDGetM_ : RM := fun x gs S P => match x, gs with
  | .loc n, [y] => (match S n, keyG y with
    | some (.dct kvs), some key => (match look kvs key with
      | some z => P z S
      | none => False)
    | _, _ => False)
  | _, _ => False
theorem md_get {k : Nat} (hr : Room k X.A) : MtR X "dict.get" (mG X.K rDGetM_) := by
  rintro pins s σ H x xs v us Q I rx rs ⟨R, S, F, P, gx, gs, g, hx, hs, h, on⟩
  unfold rDGetM_ at h
  split at h
  · rename_i n y
    split at h
    · rename_i kvs key q e
      split at h
      · rename_i z lk
        obtain ⟨w, rfl, rw'⟩ := gvs1 hs
        obtain rfl := (show x = .ref n from hx)
        obtain rfl : v = Value.ref n := rx
        obtain ⟨_, ks, at_, rk⟩ := g.obj n _ q
        obtain ⟨c, rfl, hc⟩ := keyg_at g rw' e
        obtain ⟨u, rfl, ru⟩ := vals1 rs
        obtain rfl : u = Value.ref c := ru
        obtain ⟨vz, e1, rz⟩ := gks_look rk lk
        obtain ⟨few, low, ys, rel, dd⟩ := dt_of I.hok at_
        obtain ⟨uz, e2, ruz⟩ := RelO.some_of (v := vz) (o := (atKey ys key).map (·.2)) (by rw [← e1]; exact rel.val key)
        refine call_meetsIn PySem.F.slot_dict_get dd.typeIs PySem.F.entry_dict_get (PySem.F.args_dict_get_2 _ _) (meetsH_dict_get _ n c low) ⟨tupleKind_room_in1 (room1 hr), key, ys, key_of I.hok hc, dd, ?_⟩
        rw [e2]
        exact ⟨vz, H, I.tok _, ruz, on.now g rz h⟩
      · exact h.elim
    · exact h.elim
  · exact h.elim
/-! xs + ys, a new own list -/
def rAddL_ : RO := fun x y S P => match lstOf S x, lstOf S y with
  | some xs, some ys => xs.length + ys.length ≤ sizeLine ∧ ∀ p, S p = none → P (.loc p) (sup S p (.lst (xs ++ ys)))
  | _, _ => False
theorem opg_addL : OpR X (binaryOp .Add) (rG X.K rAddL_) := by
  rintro pins s σ H x y v u Q I rx ry ⟨R, S, F, P, gx, gy, g, hx, hy, h, on⟩
  unfold rAddL_ at h
  split at h
  · rename_i a b e1 e2
    obtain ⟨h1, h2⟩ := h
    obtain ⟨p, xs, rfl, hp, rp⟩ := lst_of g hx e1
    obtain ⟨q, ys, rfl, hq, rq⟩ := lst_of g hy e2
    exact op_cat pins s σ H _ _ v u Q I rx ry ⟨p, q, xs, ys, rfl, rfl, hp, hq, by rw [gvs_len rp, gvs_len rq]; exact h1, on_own on g (gvs_app rp rq) h2⟩
  · exact h.elim
/-! a, b = x, y, some of them own, some of the names cells -/
variable {W : WX} {pos : Pos}
theorem nms_runG {K : PySem.W.Frag} {R F : Hp} {S : Sto} {H : Hp} {P : List (Option G) → Sto → Prop} {Q : L2.St → Hp → Prop} (g : GS K R S F H) (on : OnS K R F P Q) : ∀ {is : List Nat} {vs : List V} {xs : List G} {Γ : List (Option G)} {σ : L2.St}, SL K F Γ σ → GVs K F vs xs → xs.length = is.length → P (setAll is xs Γ) S → gNms is vs σ H Q
  | [], _, _, Γ, σ, sl, .nil, _, h => ⟨rfl, on Γ S F H σ g sl (Up.refl _) h⟩
  | i :: is, _, _, Γ, σ, sl, .cons (b := d) r rs, hl, h => ⟨_, _, rfl, nms_runG g on (sl.set (g := d) r) rs (by simpa using hl) h⟩
def gPars (is : List Nat) (ga : GRA) : GRS := fun d Γ S => ga Γ S (fun gs S1 => gs.length ≤ sizeLine ∧ gs.length = is.length ∧ d.nx (setAll is gs Γ) S1) (d.ex Γ)
theorem gs_pars {es as : List Expr} {k j : Nat} {is : List Nat} {ga : GRA} {pt pt2 : Pos} (hc : X.calm = true) (ha : GA X W as ga) (h : PGs X es (gNms is)) (hn : (assignEach es X.env).length = is.length := by rfl) (hst : (assignEach es X.env).findIdx? (·.1) = none := by rfl)
    (hs : swapsWithSole [.Tuple es k pt] (.Tuple as j pt2) pos.line X.env = pure false := by rfl) (hw : swappedStores [.Tuple es k pt] (.Tuple as j pt2) X.env = pure none := by rfl)
    (h1 : (assignEach [.Tuple es k pt] X.env).map (·.2) = [assign (.Tuple es k pt) X.env] := by rfl) : GSt X W (.Assign [.Tuple es k pt] (.Tuple as j pt2) pos) (gPars is ga) := by
  refine PS.imp (ps_asg (pe_tup ha) (pg_tup hc h hn hst) hs hw h1) ?_
  rintro D σ H ⟨R, Γ, S, F, d, g, sl, h, on⟩
  refine ⟨R, Γ, S, F, _, _, g, sl, h, fun vs S1 F1 H1 xs g1 s1 r1 h1 => ⟨by rw [gvs_len r1]; exact h1.1, fun p np => ?_⟩, on.ex sl⟩
  have u := up_new (F := F1) (p := p) (o := .tup vs) (g1.fresh np).1
  exact ⟨p, vs, rfl, .inl (.inl upd_same), by rw [gvs_len r1]; exact h1.2.1, nms_runG (g1.lay np (.tup vs)) (on.nx.go (s1.trans u)) (sl.up (s1.trans u)) (GVs.up u r1) h1.2.1 h1.2.2⟩
/-! a, b, c = x, y, z -/
def gPar3 (i j l : Nat) (ga : GRA) : GRS := fun d Γ S => ga Γ S (fun gs S1 => match gs with
  | [x, y, z] => d.nx (((Γ.set i (some x)).set j (some y)).set l (some z)) S1
  | _ => False) (d.ex Γ)
theorem gvs3 {K : PySem.W.Frag} {F : Hp} {vs : List V} {x y z : G} (h : GVs K F vs [x, y, z]) : ∃ u v w, vs = [u, v, w] ∧ GV K F u x ∧ GV K F v y ∧ GV K F w z := by
  cases h with
  | cons h r =>
    obtain ⟨v, w, rfl, h1, h2⟩ := gvs2 r
    exact ⟨_, v, w, rfl, h, h1, h2⟩
theorem gs_par3 {i j l : Nat} {x y z : Str} {a b c : Expr} {ga : GRA} {px py pz pt : Pos} {kt k2 pt2} (hc : X.calm = true) (hN : X.N.Nodup) (hi : X.N[i]? = some x) (hj : X.N[j]? = some y) (hl : X.N[l]? = some z) (hij : i ≠ j) (hil : i ≠ l) (hjl : j ≠ l)
    (hx : X.env.scope.names.lookup x = some .local) (hy : X.env.scope.names.lookup y = some .local) (hz : X.env.scope.names.lookup z = some .local) (ha : GA X W [a, b, c] ga)
    (hw : swappedStores [.Tuple [.Name x px, .Name y py, .Name z pz] kt pt] (.Tuple [a, b, c] k2 pt2) X.env = pure (some [x, y, z]))
    (hs : swapsWithSole [.Tuple [.Name x px, .Name y py, .Name z pz] kt pt] (.Tuple [a, b, c] k2 pt2) pos.line X.env = pure false := by rfl) :
    GSt X W (.Assign [.Tuple [.Name x px, .Name y py, .Name z pz] kt pt] (.Tuple [a, b, c] k2 pt2) pos) (gPar3 i j l ga) := by
  refine PS.imp (ps_par3 hc hN hi hj hl hij hil hjl hx hy hz ha hw hs) ?_
  rintro D σ H ⟨R, Γ, S, F, d, g, sl, h, on⟩
  refine ⟨R, Γ, S, F, _, _, g, sl, h, fun vs S1 F1 H1 xs g1 s1 r1 h1 => ?_, on.ex sl⟩
  dsimp only at h1
  split at h1
  · obtain ⟨u, v, w, rfl, ru, rv, rw'⟩ := gvs3 r1
    exact ⟨u, v, w, rfl, on.nx _ S1 F1 H1 _ g1 ((((sl.up s1).set ru).set rv).set rw') s1 h1⟩
  · exact h1.elim
end
end LN

namespace LN
open PySem PySem.Spec PyProof.Rows L2
/-! the text of data, dicts within too -/
def keyP : L2.Key → PyData
  | .inl i => .int i
  | .inr x => .str x
mutual
def D.pz : D → Option PyData
  | .non => some .none
  | .bl b => some (.bool b)
  | .int i => some (.int i)
  | .str x => some (.str x)
  | .tup ds => (D.pzs ds).map .tuple
  | .lst ds => (D.pzs ds).map .list
  | .dct kvs => (D.pzk kvs).map .dict
  | .wt _ => none
  | .ro _ => none
  | .val _ => none
  | .obj _ _ => none
  | .raw _ => none
  | .exc _ _ _ _ => none
def D.pzs : List D → Option (List PyData)
  | [] => some []
  | d :: ds => match D.pz d, D.pzs ds with
    | some p, some ps => some (p :: ps)
    | _, _ => none
def D.pzk : List (List L2.Key × D) → Option (List (PyData × PyData))
  | [] => some []
  | (k, d) :: ds => match D.pz d, D.pzk ds with
    | some p, some ps => some ((.tuple (k.map keyP), p) :: ps)
    | _, _ => none
end
section
variable {P : Program} {w : World} {h : Heap}
/-- shown as that -/
def Shn (P : Program) (w : World) (h : Heap) (u : Value) (p : PyData) : Prop := ∃ as bs, Reads h u p as ∧ ReadAtMost h p.depth bs ∧ ReprK P w bs h p.depth u p.shown
def ShnA (P : Program) (w : World) (h : Heap) (us : List Value) (ps : List PyData) : Prop := ∃ as bs, ReadsAll h us ps as ∧ ReadAtMost h (PyData.depthAll ps) bs ∧ ReprAllK P w bs h (PyData.depthAll ps) us (PyData.shownAll ps)
theorem ShnA.nil : ShnA P w h [] [] := ⟨[], [], .nil, nofun, by simp only [PyData.shownAll]; exact .nil⟩
theorem ShnA.cons {u : Value} {us : List Value} {p : PyData} {ps : List PyData} (a : Shn P w h u p) (b : ShnA P w h us ps) : ShnA P w h (u :: us) (p :: ps) := by
  obtain ⟨a1, a2, ra, ma, ka⟩ := a
  obtain ⟨b1, b2, rb, mb, kb⟩ := b
  refine ⟨a1 ++ b1, a2 ++ b2, .cons ra rb, ?_, ?_⟩
  · simp only [PyData.depthAll]
    exact (ma.mono (Nat.le_max_left _ _)).append (mb.mono (Nat.le_max_right _ _))
  · simp only [PyData.depthAll, PyData.shownAll]
    refine .cons (ReprK.level_le (ReprK.more ka fun b hb => ?_) (Nat.le_max_left _ _)) (ReprAllK.more_le (fun b hb => ?_) (Nat.le_max_right _ _) kb)
    · exact List.mem_append.mpr (.inl hb)
    · exact List.mem_append.mpr (.inr hb)
theorem Shn.leaf {u : Value} {p : PyData} (r : Reads h u p []) (k : ReprIs P w u p.shown) : Shn P w h u p := ⟨[], [], r, nofun, .of_is k _ _ _⟩
section
variable {a : Addr} {o : Obj} {vs : Array Value} {n : Nat} {ps : List PyData}
theorem Shn.tuple (h1 : h.get? a = some o) (h2 : o.cls = .type "tuple") (h3 : o.data = .seq vs n) (r : ShnA P w h vs.toList ps) : Shn P w h (.ref a) (.tuple ps) := by
  obtain ⟨as, bs, q, hb, hk⟩ := r
  have rd : Reads h (.ref a) (.tuple ps) as := .tuple h1 h2 h3 q
  refine ⟨as, a :: bs, rd, ReadAtMost.cons rd (by simp only [PyData.depth]; omega) hb, ?_⟩
  simp only [PyData.depth, PyData.shown]
  exact ReprK.tuple h1 h2 h3 (not_mem_of_deeper rd (by simp only [PyData.depth]; omega) hb) hk
theorem Shn.list (h1 : h.get? a = some o) (h2 : o.cls = .type "list") (h3 : o.data = .seq vs n) (r : ShnA P w h vs.toList ps) : Shn P w h (.ref a) (.list ps) := by
  obtain ⟨as, bs, q, hb, hk⟩ := r
  have rd : Reads h (.ref a) (.list ps) (a :: as) := .list h1 h2 h3 q
  refine ⟨a :: as, a :: bs, rd, ReadAtMost.cons rd (by simp only [PyData.depth]; omega) hb, ?_⟩
  simp only [PyData.depth, PyData.shown]
  obtain ⟨l⟩ := vs
  cases l with
  | nil =>
    cases (show ReadsAll h [] ps as from q)
    rw [show PyData.shownAll [] = [] by simp only [PyData.shownAll], listText_nil]
    exact ReprK.listEmpty h1 h2 h3
  | cons x l => exact ReprK.list h1 h2 h3 (not_mem_of_deeper rd (by simp only [PyData.depth]; omega) hb) (by simpa using hk.length_eq) fun i y e => ReprAllK.item hk i y (by simpa using e)
end
section
variable {a : Addr} {o : Obj} {es : Array DictEntry} {n : Nat} {kvs : List (PyData × PyData)}
theorem dict_parts (r1 : ShnA P w h (es.toList.map (·.key)) (kvs.map (·.1))) (r2 : ShnA P w h (es.toList.map (·.val)) (kvs.map (·.2))) (h1 : h.get? a = some o) (h2 : o.cls = .type "dict") (h3 : o.data = .dict es n) :
    ∃ as bs, Reads h (.ref a) (.dict kvs) as ∧ ReadAtMost h (PyData.depthKv kvs) bs ∧ a ∉ bs ∧ ReprEntriesK P w bs h (PyData.depthKv kvs) es.toList (PyData.shownKv kvs) := by
  obtain ⟨as1, bs1, q1, m1, k1⟩ := r1
  obtain ⟨as2, bs2, q2, m2, k2⟩ := r2
  have rd : Reads h (.ref a) (.dict kvs) (a :: as1 ++ as2) := .dict h1 h2 h3 q1 q2
  have d1 := PyData.depthAll_keys_le kvs
  have d2 := PyData.depthAll_vals_le kvs
  have m := (m1.mono d1).append (m2.mono d2)
  refine ⟨_, bs1 ++ bs2, rd, m, not_mem_of_deeper rd (by simp only [PyData.depth]; omega) m, ?_⟩
  rw [PyData.shownKv_eq]
  exact ReprEntriesK.of_two _ _ _ (ReprAllK.more_le (fun b z => List.mem_append.mpr (.inl z)) d1 k1) (ReprAllK.more_le (fun b z => List.mem_append.mpr (.inr z)) d2 k2)
theorem Shn.dict (off : (a == sysModules) = false) (h1 : h.get? a = some o) (h2 : o.cls = .type "dict") (h3 : o.data = .dict es n) (r1 : ShnA P w h (es.toList.map (·.key)) (kvs.map (·.1))) (r2 : ShnA P w h (es.toList.map (·.val)) (kvs.map (·.2))) : Shn P w h (.ref a) (.dict kvs) := by
  obtain ⟨as, bs, rd, m, hna, k⟩ := dict_parts r1 r2 h1 h2 h3
  refine ⟨as, a :: bs, rd, ReadAtMost.cons rd (by simp only [PyData.depth]; omega) m, ?_⟩
  simp only [PyData.depth, PyData.shown]
  exact ReprK.dict h1 h2 h3 off hna k
end
/-- small enough to be shown -/
def SmP (p : PyData) : Prop := p.showable = true ∧ p.shown.length ≤ sizeLine
def SmA (ps : List PyData) : Prop := PyData.showableAll ps = true ∧ ∀ t ∈ PyData.shownAll ps, t.length ≤ sizeLine
theorem SmA.head {p : PyData} {ps : List PyData} (s : SmA (p :: ps)) : SmP p ∧ SmA ps := by
  obtain ⟨h1, h2⟩ := s
  simp only [PyData.showableAll, Bool.and_eq_true] at h1
  simp only [PyData.shownAll, List.mem_cons, forall_eq_or_imp] at h2
  exact ⟨⟨h1.1, h2.1⟩, h1.2, h2.2⟩
theorem SmP.ofL {ps : List PyData} (s : SmP (.list ps)) : SmA ps := ⟨by simpa [PyData.showable] using s.1, fun t ht => Nat.le_trans (listText_mem_le ht) (by simpa only [PyData.shown] using s.2)⟩
theorem SmP.ofT {ps : List PyData} (s : SmP (.tuple ps)) : SmA ps := ⟨by simpa [PyData.showable] using s.1, fun t ht => Nat.le_trans (tupleText_mem_le ht) (by simpa only [PyData.shown] using s.2)⟩
theorem SmP.ofD {kvs : List (PyData × PyData)} (s : SmP (.dict kvs)) : SmA (kvs.map (·.1)) ∧ SmA (kvs.map (·.2)) := by
  obtain ⟨h1, h2⟩ := PyData.showableKv_split kvs (by simpa [PyData.showable] using s.1)
  have hz : (dictText (PyData.shownKv kvs)).length ≤ sizeLine := by simpa only [PyData.shown] using s.2
  exact ⟨⟨h1, fun t ht => let ⟨_, a, b⟩ := PyData.shownKv_key_le kvs t ht; Nat.le_trans b (Nat.le_trans (dictText_mem_le a) hz)⟩, h2, fun t ht => let ⟨_, a, b⟩ := PyData.shownKv_val_le kvs t ht; Nat.le_trans b (Nat.le_trans (dictText_mem_le a) hz)⟩
variable {H : Hp}
theorem shn_int {i : Int} {t : Tok} (s : SmP (.int i)) : Shn P w h (.int i t) (.int i) := .leaf (.int i t) (by simp only [PyData.shown]; exact .int t (by simpa [PyData.showable] using s.1))
theorem shn_str {x : Str} {t : Tok} (s : SmP (.str x)) : Shn P w h (.str x t) (.str x) := .leaf (.str x t) (by simp only [PyData.shown]; exact .str x t (by simpa only [PyData.shown] using s.2))
theorem key_shn : ∀ {ks : List L2.Key} {us : List Value}, Vals (ks.map kV) us → SmA (ks.map keyP) → ShnA P w h us (ks.map keyP)
  | [], _, .nil, _ => .nil
  | .inl i :: ks, _, .cons r rs, s => by
    obtain ⟨t, rfl⟩ := r
    exact .cons (shn_int s.head.1) (key_shn rs s.head.2)
  | .inr x :: ks, _, .cons r rs, s => by
    obtain ⟨t, rfl⟩ := r
    exact .cons (shn_str s.head.1) (key_shn rs s.head.2)
theorem tup_shn {a : Addr} {xs : List V} {ps : List PyData} (ok : HOk P w H h) (e : H a = some (.tup xs)) (r : ∀ us, Vals xs us → ShnA P w h us ps) : Shn P w h (.ref a) (.tuple ps) := by
  obtain ⟨_, its, rv, o, h1, h2, n, h3⟩ := (show ObjOk P w H h a (.tup xs) from ok a _ e)
  exact .tuple h1 h2 h3 (r its rv)
theorem keys_shn (ok : HOk P w H h) : ∀ {kvs : List (List L2.Key × V)} {xs : List (List L2.Key × Addr × Value)} {ps : List PyData}, KT H kvs xs → ps = kvs.map (fun p => PyData.tuple (p.1.map keyP)) → SmA ps → ShnA P w h (xs.map fun x => .ref x.2.1) ps
  | [], _, _, .nil, e, _ => by subst e; exact .nil
  | (k, v) :: kvs, _, _, .cons (b := b) r rs, e, s => by
    subst e
    exact .cons (tup_shn ok r.2.1 fun us ru => key_shn ru s.head.1.ofT) (keys_shn ok rs rfl s.head.2)
variable {K : PySem.W.Frag} {F : Hp}
theorem pz_cons {d : D} {ds : List D} {ps : List PyData} (e : D.pzs (d :: ds) = some ps) : ∃ p qs, D.pz d = some p ∧ D.pzs ds = some qs ∧ ps = p :: qs := by
  rw [D.pzs] at e
  cases q : D.pz d with
  | none => rw [q] at e; cases e
  | some p =>
    cases q2 : D.pzs ds with
    | none => rw [q, q2] at e; cases e
    | some qs => rw [q, q2] at e; cases e; exact ⟨p, qs, rfl, rfl, rfl⟩
theorem pzk_cons {k : List L2.Key} {d : D} {ds : List (List L2.Key × D)} {ps : List (PyData × PyData)} (e : D.pzk ((k, d) :: ds) = some ps) : ∃ p qs, D.pz d = some p ∧ D.pzk ds = some qs ∧ ps = (.tuple (k.map keyP), p) :: qs := by
  rw [D.pzk] at e
  cases q : D.pz d with
  | none => rw [q] at e; cases e
  | some p =>
    cases q2 : D.pzk ds with
    | none => rw [q, q2] at e; cases e
    | some qs => rw [q, q2] at e; cases e; exact ⟨p, qs, rfl, rfl, rfl⟩
theorem lst_shn {a : Addr} {xs : List V} {ps : List PyData} (ok : HOk P w H h) (e : H a = some (.lst xs)) (r : ∀ us, Vals xs us → ShnA P w h us ps) : Shn P w h (.ref a) (.list ps) := by
  obtain ⟨_, its, n, rv, h1⟩ := (show ObjOk P w H h a (.lst xs) from ok a _ e)
  exact .list h1 rfl rfl (r its rv)
mutual
theorem Rp.shn (ok : HOk P w H h) (sm : Same F H) : ∀ {v : V} {d : D} {p : PyData} {u : Value}, Rp K F v d → d.pz = some p → RelV v u → SmP p → Shn P w h u p
  | _, _, _, u, .non, e, r, s => by
    cases (show some PyData.none = some _ from e)
    obtain rfl : u = Value.none := r
    exact .leaf .none (by simp only [PyData.shown]; exact .none)
  | _, _, _, u, .bl b, e, r, s => by
    cases (show some (PyData.bool b) = some _ from e)
    obtain rfl : u = Value.bool b := r
    exact .leaf (.bool b) (by simp only [PyData.shown]; exact .bool b)
  | _, _, _, u, .int i, e, r, s => by
    cases (show some (PyData.int i) = some _ from e)
    obtain ⟨t, rfl⟩ := r
    exact shn_int s
  | _, _, _, u, .str x, e, r, s => by
    cases (show some (PyData.str x) = some _ from e)
    obtain ⟨t, rfl⟩ := r
    exact shn_str s
  | _, _, _, u, .val v, e, r, s => by cases (show none = some _ from e)
  | _, _, p, u, .tup (a := a) (ds := ds) q rs, e, r, s => by
    obtain ⟨ps, z, rfl⟩ := mapS (show (D.pzs ds).map PyData.tuple = some p by simpa only [D.pz] using e)
    obtain rfl : u = Value.ref a := r
    exact tup_shn ok (sm _ _ q) fun us ru => rs.shn ok sm z ru s.ofT
  | _, _, p, u, .lst (a := a) (ds := ds) q rs, e, r, s => by
    obtain ⟨ps, z, rfl⟩ := mapS (show (D.pzs ds).map PyData.list = some p by simpa only [D.pz] using e)
    obtain rfl : u = Value.ref a := r
    exact lst_shn ok (sm _ _ q) fun us ru => rs.shn ok sm z ru s.ofL
  | _, _, _, _, .wt q rs, e, r, s => by cases (show none = some _ by simpa only [D.pz] using e)
  | _, _, _, _, .ro q rs, e, r, s => by cases (show none = some _ by simpa only [D.pz] using e)
  | _, _, p, u, .dct (a := a) (ds := ds) q rs, e, r, s => by
    obtain ⟨ps, z, rfl⟩ := mapS (show (D.pzk ds).map PyData.dict = some p by simpa only [D.pz] using e)
    obtain rfl : u = Value.ref a := r
    obtain ⟨few, off, xs, kt, o, es, ep, h1, h2, h3, h4, h5⟩ := (show ObjOk P w H h a (.dT _) from rd_of ok (q.elim (fun e => .inl (sm _ _ e)) fun ⟨o, e⟩ => .inr ⟨o, sm _ _ e⟩))
    obtain ⟨s1, s2⟩ := s.ofD
    obtain ⟨k1, k2⟩ := rs.shn ok sm z kt s2
    refine .dict off h1 h2.1 h3 ?_ ?_
    · rw [h4, List.map_map]
      exact keys_shn ok kt k1 s1
    · rw [h4, List.map_map]
      exact k2
  | _, _, _, _, .obj q rs, e, r, s => by cases (show none = some _ by simpa only [D.pz] using e)
  | _, _, _, _, .raw q l, e, r, s => by cases (show none = some _ by simpa only [D.pz] using e)
  | _, _, _, _, .exc0, e, r, s => by cases (show none = some _ by simpa only [D.pz] using e)
  | _, _, _, _, .exc1 q rs, e, r, s => by cases (show none = some _ by simpa only [D.pz] using e)
theorem RpAll.shn (ok : HOk P w H h) (sm : Same F H) : ∀ {vs : List V} {ds : List D} {ps : List PyData} {us : List Value}, RpAll K F vs ds → D.pzs ds = some ps → Vals vs us → SmA ps → ShnA P w h us ps
  | _, _, _, _, .nil, e, .nil, s => by cases (show some [] = some _ by simpa only [D.pzs] using e); exact .nil
  | _, _, _, _, .cons q rs, e, .cons r t, s => by
    obtain ⟨p, qs, e1, e2, rfl⟩ := pz_cons e
    exact .cons (q.shn ok sm e1 r s.head.1) (rs.shn ok sm e2 t s.head.2)
theorem RpKv.shn (ok : HOk P w H h) (sm : Same F H) : ∀ {ks : List (List L2.Key × V)} {ds : List (List L2.Key × D)} {ps : List (PyData × PyData)} {xs : List (List L2.Key × Addr × Value)}, RpKv K F ks ds → D.pzk ds = some ps → KT H ks xs → SmA (ps.map (·.2)) →
    (ps.map (·.1) = ks.map fun p => PyData.tuple (p.1.map keyP)) ∧ ShnA P w h (xs.map fun x => x.2.2) (ps.map (·.2))
  | _, _, _, _, .nil, e, .nil, s => by cases (show some [] = some _ by simpa only [D.pzk] using e); exact ⟨rfl, .nil⟩
  | _, _, _, _, .cons (k := k) q rs, e, .cons r t, s => by
    obtain ⟨p, qs, e1, e2, rfl⟩ := pzk_cons e
    obtain ⟨a, b⟩ := rs.shn ok sm e2 t s.head.2
    exact ⟨by rw [List.map_cons, List.map_cons, a], .cons (q.shn ok sm e1 r.2.2 s.head.1) b⟩
end
end

/-! repr(x), dicts within -/
inductive Top (P : Program) (w : World) (h : Heap) : Value → PyData → Prop
  | leaf {u : Value} {p : PyData} (r : Reads h u p []) (nt : ∀ ps, p ≠ .tuple ps) (k : ReprIs P w u p.shown) : Top P w h u p
  | list {a : Addr} {o : Obj} {vs : Array Value} {n : Nat} {ps : List PyData} (h1 : h.get? a = some o) (h2 : o.cls = .type "list") (h3 : o.data = .seq vs n) (r : ShnA P w h vs.toList ps) : Top P w h (.ref a) (.list ps)
  | tuple {a : Addr} {o : Obj} {vs : Array Value} {n : Nat} {ps : List PyData} (h1 : h.get? a = some o) (h2 : o.cls = .type "tuple") (h3 : o.data = .seq vs n) (r : ShnA P w h vs.toList ps) : Top P w h (.ref a) (.tuple ps)
  | dict {a : Addr} {o : Obj} {es : Array DictEntry} {n : Nat} {kvs : List (PyData × PyData)} (off : (a == sysModules) = false) (h1 : h.get? a = some o) (h2 : o.cls = .type "dict") (h3 : o.data = .dict es n)
      (r1 : ShnA P w h (es.toList.map (·.key)) (kvs.map (·.1))) (r2 : ShnA P w h (es.toList.map (·.val)) (kvs.map (·.2))) : Top P w h (.ref a) (.dict kvs)
theorem Top.shn {P : Program} {w : World} {h : Heap} {u : Value} {p : PyData} (t : Top P w h u p) : Shn P w h u p := by
  cases t with
  | leaf r _ k => exact .leaf r k
  | list h1 h2 h3 r => exact .list h1 h2 h3 r
  | tuple h1 h2 h3 r => exact .tuple h1 h2 h3 r
  | dict off h1 h2 h3 r1 r2 => exact .dict off h1 h2 h3 r1 r2
section
variable {P : Program} {w : World} {h : Heap} {H F : Hp} {K : PySem.W.Frag}
theorem Rp.top (ok : HOk P w H h) (sm : Same F H) {v : V} {d : D} {p : PyData} {u : Value} (q : Rp K F v d) (e : d.pz = some p) (r : RelV v u) (s : SmP p) : Top P w h u p := by
  cases q with
  | non =>
    cases (show some PyData.none = some _ from e)
    obtain rfl : u = Value.none := r
    exact .leaf .none nofun (by simp only [PyData.shown]; exact .none)
  | bl b =>
    cases (show some (PyData.bool b) = some _ from e)
    obtain rfl : u = Value.bool b := r
    exact .leaf (.bool b) nofun (by simp only [PyData.shown]; exact .bool b)
  | int i =>
    cases (show some (PyData.int i) = some _ from e)
    obtain ⟨t, rfl⟩ := r
    exact .leaf (.int i t) nofun (by simp only [PyData.shown]; exact .int t (by simpa [PyData.showable] using s.1))
  | str x =>
    cases (show some (PyData.str x) = some _ from e)
    obtain ⟨t, rfl⟩ := r
    exact .leaf (.str x t) nofun (by simp only [PyData.shown]; exact .str x t (by simpa only [PyData.shown] using s.2))
  | @tup a xs ds q rs =>
    obtain ⟨ps, z, rfl⟩ := mapS (show (D.pzs ds).map PyData.tuple = some p by simpa only [D.pz] using e)
    obtain rfl : u = Value.ref a := r
    obtain ⟨_, its, rv, o, h1, h2, n, h3⟩ := (show ObjOk P w H h a (.tup xs) from ok a _ (sm _ _ q))
    exact .tuple h1 h2 h3 (rs.shn ok sm z rv s.ofT)
  | @lst a xs ds q rs =>
    obtain ⟨ps, z, rfl⟩ := mapS (show (D.pzs ds).map PyData.list = some p by simpa only [D.pz] using e)
    obtain rfl : u = Value.ref a := r
    obtain ⟨_, its, n, rv, h1⟩ := (show ObjOk P w H h a (.lst xs) from ok a _ (sm _ _ q))
    exact .list h1 rfl rfl (rs.shn ok sm z rv s.ofL)
  | @dct a kvs ds q rs =>
    obtain ⟨ps, z, rfl⟩ := mapS (show (D.pzk ds).map PyData.dict = some p by simpa only [D.pz] using e)
    obtain rfl : u = Value.ref a := r
    obtain ⟨few, off, xs, kt, o, es, ep, h1, h2, h3, h4, h5⟩ := (show ObjOk P w H h a (.dT _) from rd_of ok (q.elim (fun e => .inl (sm _ _ e)) fun ⟨o, e⟩ => .inr ⟨o, sm _ _ e⟩))
    obtain ⟨s1, s2⟩ := s.ofD
    obtain ⟨k1, k2⟩ := rs.shn ok sm z kt s2
    refine .dict off h1 h2.1 h3 ?_ ?_
    · rw [h4, List.map_map]
      exact keys_shn ok kt k1 s1
    · rw [h4, List.map_map]
      exact k2
  | _ => cases (show none = some _ by simpa only [D.pz] using e)
theorem repr_top {A : Around} {E : Value → Shared → Prop} {s : Shared} {Q : Value → Shared → Prop} {u : Value} {p : PyData} (t : Top P w s.heap u p) (sz : SmP p) (hg : A.guards = some []) (hu : A.units + (p.depth + 1) < cLine)
    (hQ : ∀ h' x tk, (∀ b o, s.heap.get? b = some o → h'.get? b = some o) → Q (.str p.shown x) { s with heap := h', toks := tk }) : wpAny (model P w) A (call (.builtin "repr") [u]) Q E s := by
  have z := sz.2
  have same : ∀ tk, { s with heap := s.heap, toks := tk } = { s with toks := tk } := fun _ => rfl
  cases t with
  | leaf r nt k =>
    cases r with
    | tuple => exact absurd rfl (nt _)
    | none => simp only [PyData.shown] at hQ; exact PySem.P.repr_of_none (hQ s.heap _ _ fun _ _ e => e)
    | bool b => simp only [PyData.shown] at hQ; exact PySem.P.repr_of_bool (hQ s.heap _ _ fun _ _ e => e)
    | int i t => simp only [PyData.shown] at hQ; exact PySem.P.repr_of_int (of_decide_eq_true sz.1) (hQ s.heap _ _ fun _ _ e => e)
    | str x t => simp only [PyData.shown] at hQ z; exact PySem.P.repr_of_str (hQ s.heap _ _ fun _ _ e => e) z
  | @list a o vs n ps h1 h2 h3 r =>
    obtain ⟨as, bs, q, hb, hk⟩ := r
    have rd : Reads s.heap (.ref a) (.list ps) (a :: as) := .list h1 h2 h3 q
    have na := not_mem_of_deeper rd (by simp only [PyData.depth]; omega) hb
    simp only [PyData.shown] at hQ z
    simp only [PyData.depth] at hu
    refine call_repr_slot (by omega) ⟨o, h1, h2⟩ F.slot_list_repr.toG ?_
    obtain ⟨l⟩ := vs
    cases l with
    | nil =>
      cases (show ReadsAll s.heap [] ps as from q)
      simp only [PyData.shownAll, listText_nil] at hQ
      exact call_list_repr_empty ⟨o, h1, h2⟩ h1 h3 ⟨_, _, rfl, hQ s.heap _ _ fun _ _ e => e⟩
    | cons x l => exact call_list_reprK h1 h2 h3 na (by simpa using hk.length_eq) (fun i y e => ReprAllK.item hk i y (by simpa using e)) hg (fun b _ => Clear.nil b) (by show A.units + 1 + _ < cLine; omega) (fun _ _ e => e) (fun h' u tk k => ⟨_, _, rfl, hQ h' u tk k⟩) z
  | @tuple a o vs n ps h1 h2 h3 r =>
    obtain ⟨as, bs, q, hb, hk⟩ := r
    have rd : Reads s.heap (.ref a) (.tuple ps) as := .tuple h1 h2 h3 q
    have na := not_mem_of_deeper rd (by simp only [PyData.depth]; omega) hb
    simp only [PyData.shown] at hQ z
    simp only [PyData.depth] at hu
    exact call_repr_slot (by omega) ⟨o, h1, h2⟩ F.slot_tuple_repr (call_tuple_reprK h1 h2 h3 na hk hg (fun b _ => Clear.nil b) (by show A.units + 1 + _ < cLine; omega) (fun _ _ e => e) (fun h' u tk k => ⟨_, _, rfl, hQ h' u tk k⟩) z)
  | @dict a o es n kvs off h1 h2 h3 r1 r2 =>
    obtain ⟨as, bs, rd, m, na, k⟩ := dict_parts r1 r2 h1 h2 h3
    simp only [PyData.shown] at hQ z
    simp only [PyData.depth] at hu
    exact call_repr_slot (by omega) ⟨o, h1, h2⟩ F.slot_dict_repr (call_dict_reprK h1 h2 h3 off na k hg (fun b _ => Clear.nil b) (by show A.units + 1 + _ < cLine; omega) (fun _ _ e => e) (fun h' u tk k => ⟨_, _, rfl, hQ h' u tk k⟩) z)
/-- .. of lists that may be changed, too -/
def zall (f : G → Option PyData) : List G → Option (List PyData)
  | [] => some []
  | x :: xs => match f x, zall f xs with
    | some p, some ps => some (p :: ps)
    | _, _ => none
def vzN : Nat → Sto → G → Option PyData
  | 0, _, .dat d => d.pz
  | 0, _, .loc _ => none
  | _ + 1, _, .dat d => d.pz
  | k + 1, S, .loc n => match S n with
    | some (.lst gs) => (zall (vzN k S) gs).map .list
    | _ => none
def vz (S : Sto) (x : G) : Option PyData := vzN 3 S x
theorem vz_dat {S : Sto} {d : D} : vz S (.dat d) = d.pz := rfl
theorem zall_dat {S : Sto} : ∀ (k : Nat) (ds : List D), zall (vzN k S) (ds.map .dat) = D.pzs ds
  | _, [] => by rw [D.pzs]; rfl
  | k, d :: ds => by
    have ih := zall_dat (S := S) k ds
    show (match vzN k S (.dat d), zall (vzN k S) (ds.map .dat) with
      | some p, some ps => some (p :: ps)
      | _, _ => none) = _
    rw [ih, show vzN k S (.dat d) = d.pz by cases k <;> rfl, D.pzs]
    all_goals rfl
theorem vzN_top {R : Hp} {S : Sto} (ok : HOk P w H h) (g : GS K R S F H) : ∀ (k : Nat) {v : V} {x : G} {p : PyData} {u : Value}, GV K F v x → vzN k S x = some p → RelV v u → SmP p → Top P w h u p
  | 0, _, .dat d, _, _, q, e, r, s => Rp.top ok g.sub q e r s
  | _ + 1, _, .dat d, _, _, q, e, r, s => Rp.top ok g.sub q e r s
  | 0, _, .loc n, p, _, _, e, _, _ => nomatch (show none = some p from e)
  | k + 1, v, .loc n, p, u, q, e, r, s => by
    have ih := @vzN_top R S ok g k
    obtain rfl := (show v = .ref n from q)
    obtain rfl : u = Value.ref n := r
    cases z : S n with
    | none => simp only [vzN, z] at e; cases e
    | some o =>
      cases o with
      | lst gs =>
        simp only [vzN, z] at e
        obtain ⟨ps, e1, rfl⟩ := mapS e
        obtain ⟨_, vs, h1, h2⟩ := g.obj n _ z
        obtain ⟨few, its, m, rv, h3⟩ := (show ObjOk P w H h n (.lst vs) from ok n _ h1)
        refine .list h3 rfl rfl ?_
        have s' := s.ofL
        clear e z h1 h3 few s
        show ShnA P w h its ps
        induction h2 generalizing ps its with
        | nil => cases rv; cases (show some [] = some ps from e1); exact .nil
        | @cons v x vs xs hv hr ih2 =>
          have e1 : (match vzN k S x, zall (vzN k S) xs with
            | some p, some ps => some (p :: ps)
            | _, _ => none) = some ps := e1
          cases q1 : vzN k S x with
          | none => rw [q1] at e1; cases e1
          | some p =>
            cases q2 : zall (vzN k S) xs with
            | none => rw [q1, q2] at e1; cases e1
            | some ps' =>
              rw [q1, q2] at e1
              cases e1
              cases rv with
              | cons r rs => exact .cons (ih hv q1 r s'.head.1).shn (ih2 _ q2 _ rs s'.head.2)
      | _ => simp only [vzN, z] at e; cases e
end
def rReprZ_ : RC := fun gs S P => match gs with
  | [x] => ∃ p, vz S x = some p ∧ SmP p ∧ p.depth ≤ 60 ∧ P (.dat (.str p.shown)) S
  | _ => False
section
variable {X : Cx} {k : Nat}
theorem crg_reprz (quiet : Quiet X.A) (hr : Room k X.A) : CallR X (.builtin "repr") (cG X.K rReprZ_) := by
  rintro pins s σ H vs us Q I r ⟨R, S, F, P, gs, g, hv, h, on⟩
  unfold rReprZ_ at h
  split at h
  · rename_i x
    obtain ⟨p, e, sz, dp, h⟩ := h
    obtain ⟨v, rfl, hx⟩ := gvs1 hv
    obtain ⟨u, rfl, ru⟩ := vals1 r
    have hun := hr.un
    refine repr_top (vzN_top I.hok g 3 hx e ru sz) sz quiet (by omega) fun h' z tk kp => ?_
    exact ⟨.str p.shown, H, I.un (t' := tk) (Un.kept kp) (I.hok.kept kp), ⟨z, rfl⟩, on.now g (x := .dat (.str _)) (.str _) h⟩
  · exact h.elim
end
/-! an object of one's own is compared with something else -/
theorem looks_at {M : Model} {h : Heap} {a : Addr} {o : Obj} {t : Value} (e : h.get? a = some o) (c : o.cls = t) : PySem.W.Looks M h (typeOf (.ref a)) t := c ▸ (PySem.W.Looks.ld e).andThen .now
section
variable {X : Cx} {pins : List (Addr × Obj)} {σ : L2.St} {H : Hp} {s : Shared}
theorem looks_tyx {M : Model} {v : V} {u t : Value} (I : Inv X pins σ H s) (r : RelV v u) (h : TyX X.K H v t) (n : ∀ C, t ≠ .ref C) : PySem.W.Looks M s.heap (typeOf u) t := by
  cases h with
  | base h =>
    cases h with
    | non => obtain rfl : u = Value.none := r; exact .now
    | bl b => obtain rfl : u = Value.bool b := r; exact .now
    | int i => obtain ⟨t, rfl⟩ := r; exact .now
    | str x => obtain ⟨t, rfl⟩ := r; exact .now
    | flt x => obtain ⟨t, rfl⟩ := r; exact .now
    | @lst a xs e =>
      obtain rfl : u = Value.ref a := r
      obtain ⟨_, its, m, _, e2⟩ := (show ObjOk X.prog X.w H s.heap a (.lst xs) from I.hok a _ e)
      exact looks_at e2 rfl
    | @frz a o xs e =>
      obtain rfl : u = Value.ref a := r
      obtain ⟨_, _, its, m, _, e2⟩ := (show ObjOk X.prog X.w H s.heap a (.frz o (.lst xs)) from I.hok a _ e)
      exact looks_at e2 rfl
    | @tup a xs e =>
      obtain rfl : u = Value.ref a := r
      obtain ⟨_, its, _, o, e1, e2, _⟩ := (show ObjOk X.prog X.w H s.heap a (.tup xs) from I.hok a _ e)
      exact looks_at e1 e2
    | @dK a kvs e =>
      obtain rfl : u = Value.ref a := r
      obtain ⟨_, _, vs, _, o, es, ep, e1, e2, _⟩ := (show ObjOk X.prog X.w H s.heap a (.dK kvs) from I.hok a _ e)
      exact looks_at e1 e2.1
    | @dT a kvs e =>
      obtain rfl : u = Value.ref a := r
      obtain ⟨_, _, xs, _, o, es, ep, e1, e2, _⟩ := (show ObjOk X.prog X.w H s.heap a (.dT kvs) from I.hok a _ e)
      exact looks_at e1 e2.1
    | ins e _ _ _ _ _ => exact absurd rfl (n _)
  | byt b => obtain ⟨t, rfl⟩ := r; exact .now
  | set e =>
    rename_i a T m
    obtain rfl : u = Value.ref a := r
    obtain ⟨o, es, ep, tt, e1, e2, _⟩ := (show ObjOk X.prog X.w H s.heap a (.set T m) from I.hok a _ e)
    exact looks_at e1 e2.1
  | @kList a o e c => obtain rfl : u = Value.ref a := r; exact looks_at (I.kIn _ _ e) c
  | @kTuple a o e c => obtain rfl : u = Value.ref a := r; exact looks_at (I.kIn _ _ e) c
  | @kDict a o e c => obtain rfl : u = Value.ref a := r; exact looks_at (I.kIn _ _ e) c
  | @fTuple a o xs e =>
    obtain rfl : u = Value.ref a := r
    obtain ⟨_, _, its, _, o, e1, e2, _⟩ := (show ObjOk X.prog X.w H s.heap a (.frz o (.tup xs)) from I.hok a _ e)
    exact looks_at e1 e2
  | @fDict a o kvs e =>
    obtain rfl : u = Value.ref a := r
    obtain ⟨_, _, _, vs, _, o, es, ep, e1, e2, _⟩ := (show ObjOk X.prog X.w H s.heap a (.frz o (.dK kvs)) from I.hok a _ e)
    exact looks_at e1 e2.1
theorem looks_tyy {M : Model} {v : V} {u t : Value} (I : Inv X pins σ H s) (r : RelV v u) (h : TyY X.K H v t) (n : ∀ C, t ≠ .ref C) : PySem.W.Looks M s.heap (typeOf u) t := by
  cases h with
  | x h => exact looks_tyx I r h n
  | @fT a o kvs e =>
    obtain rfl : u = Value.ref a := r
    obtain ⟨_, _, _, xs, _, o, es, ep, e1, e2, _⟩ := (show ObjOk X.prog X.w H s.heap a (.frz o (.dT kvs)) from I.hok a _ e)
    exact looks_at e1 e2.1
end
/-- none of the built-in types stands under the class -/
def ntfB (K : PySem.W.Frag) (C : Addr) : Bool := tyNames.all fun t => PySem.W.notFirst K C (.type t)
def rEqX (C : Addr) (sp : GSp) : RO := fun x y S P => isOf S C x ∧ ∃ t, tyG S y = some (.ty t) ∧ t ∈ tyNames ∧ sp [x, y] S (fun r S' => ∃ k, r = .dat (.bl k) ∧ P (.dat (.bl k)) S') never
def rNeX (C : Addr) (sp : GSp) : RO := fun x y S P => isOf S C x ∧ ∃ t, tyG S y = some (.ty t) ∧ t ∈ tyNames ∧ sp [x, y] S (fun r S' => ∃ k, r = .dat (.bl k) ∧ P (.dat (.bl (!k))) S') never
section
variable {X : Cx} {W : WX} {k : Nat} {C f : Addr} {sp : GSp}
theorem opO_eqX (d : Dun X.K C "__eq__" f) (nf : ntfB X.K C = true) (T : CallG X W f sp) (hr : Room k X.A) : OpR X (compareOp .Eq) (rG X.K (rEqX C sp)) := by
  rintro pins s σ H x y v u Q I rx ry ⟨R, S, F, P, gx, gy, g, hx, hy, ⟨is1, t, et, ht, h⟩, on⟩
  obtain ⟨q, dx, fs, rfl, at_⟩ := isOf_at g hx is1
  obtain rfl : v = Value.ref q := rx
  obtain ⟨od, J⟩ := ins_at I at_
  obtain ⟨mm, fr⟩ := I.fr
  have lk := looks_tyy (M := model X.prog X.w) I ry (ty_of (t := .ty t) g (fun C z => by cases z) hy et) (fun C z => by cases z)
  show wpAny (model X.prog X.w) X.A (richCompare .Eq (.ref q) u) _ _ _
  refine PySem.W.cmp_K (op := .Eq) hr.units0 fr I.ok.mod.kin J lk (List.all_eq_true.mp nf t ht) d.at_ d.fn ?_
  refine thn (T.run (us := [.ref q, u]) (vs := [.ref q, y]) (Q := fun z H' => ∃ k, z = .bl k ∧ Q (.bl k) H') I (.cons rfl (.cons ry .nil)) (spG0 g (.cons hx (.cons hy .nil)) h ?_)) ?_
  · rintro z S' F' H' zz g' s' r' ⟨k, rfl, q'⟩
    cases (show Rp X.K F' z (.bl k) from r')
    exact ⟨k, rfl, on _ S' F' H' (.dat (.bl k)) g' s' (.bl k) q'⟩
  · rintro w s1 ⟨z, H1, I1, rz, k, rfl, q1⟩
    exact notNI rz ⟨.bl k, H1, I1, rz, q1⟩
theorem opO_neX (d : Dun X.K C "__eq__" f) (nf : ntfB X.K C = true) (hn2 : PySem.W.findIn X.K (.ref C) "__ne__" = some (some (.builtin "object.__ne__"))) (hm : PySem.W.mroIn X.K C (.type "object") = some true) (T : Call1 X W f sp) (hr : Room k X.A) : OpR X (compareOp .NotEq) (rG X.K (rNeX C sp)) := by
  rintro pins s σ H x y v u Q I rx ry ⟨R, S, F, P, gx, gy, g, hx, hy, ⟨is1, t, et, ht, h⟩, on⟩
  obtain ⟨q, dx, fs, rfl, at_⟩ := isOf_at g hx is1
  obtain rfl : v = Value.ref q := rx
  obtain ⟨od, J⟩ := ins_at I at_
  obtain ⟨mm, fr⟩ := I.fr
  have lk := looks_tyy (M := model X.prog X.w) I ry (ty_of (t := .ty t) g (fun C z => by cases z) hy et) (fun C z => by cases z)
  show wpAny (model X.prog X.w) X.A (richCompare .NotEq (.ref q) u) _ _ _
  have hun := hr.un
  refine ne_own (by omega) fr I.ok.mod.kin J lk (List.all_eq_true.mp nf t ht) hm hn2 d.at_ d.fn ?_
  refine thn (T.run (us := [.ref q, u]) (vs := [.ref q, y]) (Q := fun z H' => ∃ k, z = .bl k ∧ Q (.bl (!k)) H') I (.cons rfl (.cons ry .nil)) (spG0 g (.cons hx (.cons hy .nil)) h ?_)) ?_
  · rintro z S' F' H' zz g' s' r' ⟨k, rfl, q'⟩
    cases (show Rp X.K F' z (.bl k) from r')
    exact ⟨k, rfl, on _ S' F' H' (.dat (.bl (!k))) g' s' (.bl _) q'⟩
  · rintro w s1 ⟨z, H1, I1, rz, k, rfl, q1⟩
    obtain rfl : w = Value.bool k := rz
    exact ⟨k, rfl, ⟨.bl (!k), H1, I1, rfl, q1⟩⟩
end
/-! a list, repeated -/
def rMulL_ : RO := fun x y S P => match dlst S x, y with
  | some ds, .dat (.int j) => (0 ≤ j ∧ j ≤ 10000 ∧ ds.length ≤ 1000) ∧ P (.dat (.lst (List.replicate j.toNat ds).flatten)) S
  | _, _ => False
theorem opg_mulL {X : Cx} : OpR X (binaryOp .Mult) (rG X.K rMulL_) := by
  rintro pins s σ H x y v u Q I rx ry ⟨R, S, F0, P, gx, gy, g, hx, hy, h, on⟩
  unfold rMulL_ at h
  split at h
  · rename_i ds j e
    obtain ⟨⟨h1, h2, h3⟩, h4⟩ := h
    obtain ⟨p, xs, rfl, hp, rp⟩ := dlst_of g hx e
    cases (show Rp X.K F0 y (.int j) from hy)
    obtain rfl : v = Value.ref p := rx
    obtain ⟨t, rfl⟩ := ry
    obtain ⟨_, its, n, rv, ho⟩ := (show ObjOk X.prog X.w H s.heap p (.lst xs) from I.hok p _ hp)
    have il : its.length = ds.length := rv.length.symm.trans rp.len
    have sz : its.length * j.toNat ≤ 1000 * 10000 := Nat.mul_le_mul (by omega) (by omega)
    have e2 : List.foldl (fun x1 x2 => x1 ++ x2) #[] (List.replicate (if its.toArray.isEmpty = true then 0 else j.toNat) its.toArray) = (List.replicate j.toNat its).flatten.toArray := by
      cases its with
      | nil =>
        rw [show (([] : List Value).toArray.isEmpty) = true from rfl, if_pos rfl]
        have : (List.replicate j.toNat ([] : List Value)).flatten = [] := by simp
        rw [this]
        rfl
      | cons a b =>
        rw [show ((a :: b).toArray.isEmpty) = false from rfl, if_neg Bool.false_ne_true]
        exact size_rep _ _
    refine wpAny_binaryOp_repeat_ref (T := "list") (U := "int") (by decide) ⟨_, ho, rfl⟩ (fun s' => typeIs_int s' j t) noFill_list_mul F.fills_int_mul F.slot_int_rmul repeat_list F.slot_int_index.lookup
      (call_meets F.slot_int_rmul (typeIs_int s j t) F.entry_int_rmul (F.args_int_rmul_2 _ _) (int___rmul___int_list j t p its.toArray n)
        ⟨ho, rfl, ⟨_, ho, rfl⟩, call_meets F.slot_list_mul ⟨_, ho, rfl⟩ F.entry_list_mul (F.args_list_mul_2 _ _) (AutoListH.list___mul___list_int_3 p its.toArray n j t (by simp [Builtin.List.listFitsIndex]; omega) (by rw [List.size_toArray]; omega) (by simp [Builtin.List.listTooLong, sizeLine]; omega)) ⟨ho, ?_⟩⟩)
    rw [e2]
    have rr := rv.rep j.toNat
    have ln : (List.replicate j.toNat xs).flatten.length ≤ sizeLine := by
      rw [rr.length, PyProof.Rows.lm_len_rep_flat, sizeLine_eq]
      have : j.toNat * its.length ≤ 10000 * 1000 := Nat.mul_le_mul (by omega) (by omega)
      omega
    exact ⟨.ref s.heap.objs.size, _, I.lnew (t' := s.toks) rr ln, rfl, on_lst on g (rp_rep rp j.toNat) h4 _ I.fresh⟩
  · exact h.elim
theorem rMulL_lst {ds : List D} {j : Int} {S : Sto} {P : G → Sto → Prop} : rMulL_ (.dat (.lst ds)) (.dat (.int j)) S P = ((0 ≤ j ∧ j ≤ 10000 ∧ ds.length ≤ 1000) ∧ P (.dat (.lst (List.replicate j.toNat ds).flatten)) S) := rfl
end LN

namespace LN
open PySem PySem.Spec PyProof.Rows L2
section
variable {X : Cx} {W : WX} {e o : Expr} {es : List Expr} {ga : GR} {gt : GRA} {apos cpos : Pos} {K : PySem.W.Frag} {R F H : Hp} {S : Sto}
/-! i ** j -/
def rPow_ : RO := fun x y S P => match x, y with
  | .dat (.int i), .dat (.int j) => CPow i j ∧ P (.dat (.int (i ^ j.toNat))) S
  | _, _ => False
theorem opg_pow : OpR X (binaryOp .Pow) (rG X.K rPow_) := by
  rintro pins s σ H x y v u Q I rx ry ⟨R, S, F, P, gx, gy, g, hx, hy, h, on⟩
  unfold rPow_ at h
  split at h
  · cases hx; cases hy
    exact op_pow pins s σ H _ _ v u Q I rx ry ⟨_, _, rfl, rfl, h.1, on.now g (x := .dat _) (.int _) h.2⟩
  · exact h.elim
theorem rPow_int {i j : Int} {P : G → Sto → Prop} : rPow_ (.dat (.int i)) (.dat (.int j)) S P = (CPow i j ∧ P (.dat (.int (i ^ j.toNat))) S) := rfl
/-! methods of texts -/
def isTxt (x : G) : Prop := ∃ a, x = .dat (.str a)
theorem tyv_txt {v : V} {x : G} (r : GV K F v x) (h : isTxt x) : tyV K "str" v H := by
  obtain ⟨a, rfl⟩ := h
  cases (show Rp K F v (.str a) from r)
  exact rfl
def gBT (r : RM) (a : GR) (t : GRA) : GR := fun Γ S P E => a Γ S (fun x S1 => isTxt x ∧ t Γ S1 (fun xs S2 => r x xs S2 P) E) E
theorem ge_tm {name : Str} {id : String} {r : RM} (slot : Slot "str" name id) (hty : typeOf (.builtin id) = pure (.type "method_descriptor")) (hm : MtR X id (mG X.K r)) (ho : GE X W o ga) (ha : GA X W (e :: es) gt)
    (hbase : attributeBase o name X.env (eval o X.env) = eval o X.env := by rfl)
    (hfew : ((backTo cpos (starEach (e :: es) X.env)).all (fun x => !x.1) && (backToKw cpos (keywordEach [] X.env)).all (fun x => x.1.isSome)
      && decide ((e :: es).length + ([] : List Keyword).length + (if ([] : List Keyword).isEmpty then 0 else 1) < 30)) = true := by rfl)
    (hline : (apos.endLine == cpos.line) = true := by rfl) (hs : starEach (e :: es) X.env = (false, eval e X.env) :: starEach es X.env := by rfl) (hplain : (backTo cpos (starEach es X.env)).any (·.1) = false := by rfl) :
    GE X W (.Call (.Attribute o name apos) (e :: es) [] cpos) (gBT r ga gt) := by
  refine PE.imp (pe_bm PySem.F.plainAttrs_str slot hty hm ho ha hbase hfew hline hs hplain) ?_
  rintro σ H Q ⟨R, Γ, S, F, P, E, g, sl, h, on, ox⟩
  refine ⟨R, Γ, S, F, _, E, g, sl, h, fun v S1 F1 H1 x g1 s1 r1 h1 => ⟨tyv_txt r1 h1.1, ?_⟩, ox⟩
  refine ⟨R, Γ, S1, F1, _, E, g1, sl.up s1, h1.2, fun ws S2 F2 H2 ys g2 s2 r2 h2 => ?_, ox.go s1⟩
  exact ⟨R, S2, F2, P, x, ys, g2, r1.up s2, r2, h2, on.go (s1.trans s2)⟩
theorem rp_strs : ∀ {ys : List Str} {vs : List V}, RpAll K F vs (ys.map .str) → vs = ys.map V.str
  | [], _, .nil => rfl
  | y :: ys, _, .cons h r => by cases h; rw [List.map_cons, ← rp_strs r]
def rJoin_ : RM := fun x gs S P => match x, gs with
  | .dat (.str a), [y] => ∃ ys : List Str, dseq S y = some (ys.map .str) ∧ (ys.map (·.length)).sum + ys.length * a.length ≤ 16777216 ∧ P (.dat (.str (Txt.join a ys))) S
  | _, _ => False
theorem mt_joinG : MtR X "str.join" (mG X.K rJoin_) := by
  rintro pins s σ H x xs v us Q I rx rs ⟨R, S, F, P, gx, gs, g, hx, hs, h, on⟩
  unfold rJoin_ at h
  split at h
  · rename_i a y
    obtain ⟨ys, e, sz, h⟩ := h
    obtain ⟨w, rfl, rw'⟩ := gvs1 hs
    cases (show Rp X.K F x (.str a) from hx)
    obtain ⟨p, vs, rfl, at_, rp⟩ := seq_of g rw' (dseq_seq e)
    have := rp_strs (dat_gvs rp)
    subst this
    exact mt_join pins s σ H _ _ v us Q I rx rs ⟨a, p, ys, rfl, rfl, at_, sz, on.now g (x := .dat (.str _)) (.str _) h⟩
  · exact h.elim
theorem rJoin_str {a : Str} {y : G} {P : G → Sto → Prop} : rJoin_ (.dat (.str a)) [y] S P = (∃ ys : List Str, dseq S y = some (ys.map .str) ∧ (ys.map (·.length)).sum + ys.length * a.length ≤ 16777216 ∧ P (.dat (.str (Txt.join a ys))) S) := rfl
theorem isTxt_str {a : Str} : isTxt (.dat (.str a)) = True := eq_true ⟨a, rfl⟩
end
/-- what is shown, grown -/
theorem Sm.leaf_none : Sm 0 4 .none := ⟨rfl, Nat.le_refl _, by decide⟩
end LN

namespace LN
open PySem PySem.Spec PyProof.Rows L2
/-! sorted(set(names)) -/
theorem perm_map {α β : Type} [DecidableEq α] {f : α → β} : ∀ {out : List β} {L : List α}, out.Perm (L.map f) → ∃ ts : List α, ts.Perm L ∧ ts.map f = out
  | [], L, h => by
    have : L.map f = [] := h.nil_eq.symm
    exact ⟨[], by rw [List.map_eq_nil_iff.mp this], rfl⟩
  | x :: out, L, h => by
    obtain ⟨p, hp, e⟩ := List.mem_map.mp (h.mem_iff.mp List.mem_cons_self)
    have pe := List.perm_cons_erase hp
    have h2 : out.Perm ((L.erase p).map f) := by
      have h3 := h.trans (pe.map f)
      rw [List.map_cons, e] at h3
      exact List.Perm.cons_inv h3
    obtain ⟨ts, t1, t2⟩ := perm_map h2
    exact ⟨p :: ts, (t1.cons p).trans pe.symm, by rw [List.map_cons, t2, e]⟩
/-- a set at a, of these names -/
def setL (w : World) (a : Addr) (L : List (Addr × List Str)) : HO := .ext fun h => L.length < 64 ∧ ∃ o es ep t, h.get? a = some o ∧ o.ExactSet ∧ o.data = .set es ep t ∧ t.fits es.size = true ∧ es.toList.map (·.2) = L.map (fun p => Value.ref p.1) ∧ Ris t.place.toList ∧ (w.params.followText "set-order" = true ∨ t.led = true)
theorem setL_ok {P : Program} {w : World} {kd : PySem.KeyKind P w Str} {H : Hp} {h : Heap} {a : Addr} {L : List (Addr × List Str)} {es : Array (Int × Value)} {ep : Nat} {t : SetTable} (T : TSet kd h a L es ep t) : ObjOk P w H h a (setL w a L) := by
  obtain ⟨o, ho, ex, hd⟩ := T.there
  refine ⟨⟨T.few, o, es, ep, t, ho, ex, hd, T.fits, by rw [T.rows, List.map_map]; rfl, T.table.ris, T.led⟩, ⟨o, ho⟩, fun h1 h2 q st => ?_⟩
  obtain ⟨few, o', es', ep', t', ho', r⟩ := q
  exact ⟨few, o', es', ep', t', st o' ho', r⟩
section
variable {X : Cx}
def rSetLV (K : PySem.W.Frag) (w : World) : List V → Hp → VK → Prop := fun xs H Q => ∃ (l : Addr) (ks : List (Addr × List Str)), xs = [.ref l] ∧ (SqL K H l (ks.map fun p => V.ref p.1) ∨ SqT K H l (ks.map fun p => V.ref p.1)) ∧ (∀ p ∈ ks, SqT K H p.1 (p.2.map V.str)) ∧ ks.length < 64 ∧
  ∀ a L, H a = none → (L.map (·.2)).Nodup → (∀ k, k ∈ L.map (·.2) ↔ k ∈ ks.map (·.2)) → (∀ p ∈ L, p ∈ ks) → Q (.ref a) (upd H a (setL w a L))
theorem cr_setL (hc : X.calm = true) (hu : X.A.units + 64 < cLine) : CallR X (.type "set") (rSetLV X.K X.w) := by
  rintro pins s σ H xs us Q I rel ⟨l, ks, rfl, there, names, few, q⟩
  obtain ⟨u, rfl, ru⟩ := vals1 rel
  obtain rfl : u = Value.ref l := ru
  have new : H s.heap.objs.size = none := I.hok.fresh (Nat.le_refl _)
  have fin : ∀ (h' : Heap) (tk : Nat) L es ep t, TSet (PySem.strKind X.prog X.w) h' s.heap.objs.size L es ep t → Has ks ks.length L → (∀ b o, s.heap.get? b = some o → h'.get? b = some o) → EP X pins σ Q (.ref s.heap.objs.size) { s with heap := h', toks := tk } := by
    intro h' tk L es ep t T has on
    refine ⟨.ref s.heap.objs.size, _, I.laid (t' := tk) on (Nat.le_refl _) (setL_ok T), rfl, q _ L new T.once (fun k => ?_) fun p hp => ?_⟩
    · have := has.all k
      rw [List.take_length] at this
      exact this
    · have := has.from_ p hp
      rw [List.take_length] at this
      exact this
  have keys : ∀ p ∈ ks, PySem.IsTupleKey (PySem.strKind X.prog X.w) s.heap p.2 p.1 := fun p hp => inv_key I (names p hp)
  rcases there with there | there
  · obtain ⟨its, rv, pl, _⟩ := I.list there
    obtain ⟨⟨cls, dd, data, sl⟩, ho, hcl, n, hd⟩ := pl.isList
    simp only at hcl hd
    subst hcl hd
    exact call_set_on (strs_tell _ _) (seqs_list _ _) ks (I.ok.hd hc) ho (by simpa using refs_are rv) keys few (by omega) fin
  · obtain ⟨its, rv, ⟨⟨cls, dd, data, sl⟩, ho, hcl, n, hd⟩, _⟩ := I.tuple there
    simp only at hcl hd
    subst hcl hd
    exact call_set_on (strs_tell _ _) (seqs_tuple _ _) ks (I.ok.hd hc) ho (by simpa using refs_are rv) keys few (by omega) fin
/-- the state behind a look at things that stay -/
theorem inv_kept {pins : List (Addr × Obj)} {σ : L2.St} {H : Hp} {s s1 : Shared} (I : Inv X pins σ H s) (k : ∀ b o, s.heap.get? b = some o → s1.heap.get? b = some o) (g : s1.gens = s.gens) (o : s1.os = s.os) : Inv X pins σ H s1 := by
  have J := I.un (t' := s1.toks) (Un.kept k) (I.hok.kept k)
  exact ⟨J.ok, o.trans J.os, by rw [g]; exact J.bare, J.base, J.loc, J.cell, J.free, J.freeC, J.pin, J.hok, J.len⟩
def rSortLV (K : PySem.W.Frag) (w : World) : List V → Hp → VK → Prop := fun xs H Q => ∃ (a : Addr) (L : List (Addr × List Str)), xs = [.ref a] ∧ H a = some (setL w a L) ∧ (∀ p ∈ L, SqT K H p.1 (p.2.map V.str)) ∧ (∀ p ∈ L, p.2 ≠ []) ∧
  ∀ (q : Addr) (ts : List (Addr × List Str)), H q = none → ts.Perm L → Q (.ref q) (upd H q (.lst ((ts.mergeSort (leD fun p => nmQ p.2)).map fun p => V.ref p.1)))
theorem sqt_reads {pins : List (Addr × Obj)} {σ : L2.St} {H : Hp} {s : Shared} {b : Addr} {n : List Str} (I : Inv X pins σ H s) (h : SqT X.K H b (n.map V.str)) : ∃ as, Reads s.heap (.ref b) (nmQ n) as := by
  have all : ∀ n : List Str, DpAll X.K H (n.map V.str) (n.map PyData.str) := fun n => by
    induction n with
    | nil => exact .nil
    | cons x n ih => exact .cons (.str x) ih
  exact Dp.reads I (nmQ n) (.ref b) (.ref b) (.tup h (all n)) rfl
theorem cr_sortL {k : Nat} (calm : X.calm = true) (hr : Room k X.A) : CallR X (.builtin "sorted") (rSortLV X.K X.w) := by
  rintro pins s σ H xs us Q I rel ⟨a, L, rfl, ha, names, some_, q⟩
  obtain ⟨u, rfl, ru⟩ := vals1 rel
  obtain rfl : u = Value.ref a := ru
  obtain ⟨few, o, es, ep, t, ho, ex, hd, fits, rows, ris, led⟩ := (show ObjOk X.prog X.w H s.heap a (setL X.w a L) from I.hok a _ ha).1
  have hun := hr.un
  have size : es.size = L.length := by
    have := congrArg List.length rows
    simpa using this
  refine PySem.Calls.call_function_entry kind_sorted plain_sorted entry_sorted (args_sorted1 _) ?_
  unfold Builtin.«sorted»
  refine wpAny_bind (m := checkCount "sorted" 1 1 _) (wpAny_pure ?_)
  refine wpAny_bind (collect_set (A := X.A.in1) (I.ok.hd calm) ⟨o, ho, ex.1, hd⟩ fits (by rw [size]; exact Nat.lt_trans few (by decide)) ris led fun s1 out k1 z1 g1 o1 pm => ?_)
  rw [rows] at pm
  obtain ⟨ts, tp, rfl⟩ := perm_map pm
  have I1 := inv_kept I k1 g1 o1
  have lt : ts.length = L.length := tp.length_eq
  have big : L.length ≤ 100000 := by omega
  refine wpAny_bind (wpAny_newList ?_ (by rw [List.length_map, lt, sizeLine_eq]; omega))
  have there2 : (s1.heap.push { cls := .type "list", data := .seq (ts.map fun p => Value.ref p.1).toArray }).get? s1.heap.objs.size = some (seqObj "list" (ts.map fun p => Value.ref p.1).toArray 0) := Heap.get?_push_size _ rfl
  have below : ∀ p ∈ ts, ∃ as, Reads s1.heap (.ref p.1) (nmQ p.2) as := fun p hp => sqt_reads I1 (names p (tp.mem_iff.mp hp))
  have T : Srt (ts.map (·.2)) (fun n => .tup (n.map .str)) nmQ := srt_names (fun n hn => by
    obtain ⟨p, hp, rfl⟩ := List.mem_map.mp hn
    exact some_ p (tp.mem_iff.mp hp)) (by rw [List.length_map]; omega)
  have em : ts.map (fun p => nmQ p.2) = (ts.map (·.2)).map nmQ := by rw [List.map_map]; rfl
  refine wpAny_bind (wpAny_holding ?_)
  refine PySem.W.list_sort_data (A := X.A.in1) (enc := fun p : Addr × List Str => nmQ p.2) (R := fun v p => v = .ref p.1) (bs := ts) (vs := ts.map fun p => Value.ref p.1) there2 (each_g fun _ _ => rfl) (by
    refine each_g fun p hp => ?_
    obtain ⟨as, r⟩ := below p hp
    exact ⟨as, PyProof.Rows.Reads.keeps (fun b ob z => Heap.get?_push_of_some _ z) r, fun z => Nat.lt_irrefl _ (readsIn _ _ _ (alike_nm p.2 p.2) r _ z)⟩) (by rw [em]; exact T.alike) (by rw [em]; exact T.keys) (by rw [lt, sizeLine_eq]; omega) (fun p hp => by have := T.deep p.2 (List.mem_map_of_mem hp); show X.A.units + 1 + 1 + _ < _; omega) fun out len each => ?_
  have eo := g_each each
  subst eo
  refine wpAny_pure ?_
  obtain ⟨ep2, he2⟩ := PyProof.Rows.sortedHeap_at (out := ((ts.mergeSort (PySem.W.dataLe false fun p => nmQ p.2)).map fun p => Value.ref p.1).toArray) there2
  have sz : ((ts.mergeSort (PySem.W.dataLe false fun p : Addr × List Str => nmQ p.2)).map fun p => V.ref p.1).length ≤ sizeLine := by rw [List.length_map, List.length_mergeSort, lt, sizeLine_eq]; omega
  have keep2 : ∀ b ob, s1.heap.get? b = some ob → (sortedHeap (s1.heap.push { cls := .type "list", data := .seq (ts.map fun p => Value.ref p.1).toArray }) s1.heap.objs.size (ts.map fun p => Value.ref p.1) ((ts.mergeSort (PySem.W.dataLe false fun p => nmQ p.2)).map fun p => Value.ref p.1).toArray).get? b = some ob := fun b ob z => by
    have := Heap.lt_size z
    rw [PyProof.Rows.sortedHeap_old (Nat.ne_of_lt this) (by rw [Heap.size_push]; exact Nat.lt_succ_of_lt this)]
    exact Heap.get?_push_of_some _ z
  have gone : H s1.heap.objs.size = none := I1.hok.fresh (Nat.le_refl _)
  exact ⟨_, rfl, .ref _, upd H s1.heap.objs.size (.lst ((ts.mergeSort (leD fun p => nmQ p.2)).map fun p => V.ref p.1)), I1.laid (t' := s1.toks) keep2 (Nat.le_refl _) ⟨sz, _, ep2, vals_each _ (fun p hp => rfl), he2⟩, rfl, q _ ts gone tp⟩
end
section
variable {X : Cx} {W : WX} {e : Expr} {ga : GR} {p1 p2 pos2 pos : Pos} {K : PySem.W.Frag} {k : Nat}
def gSortSet (ga : GR) : GR := fun Γ S P E => ga Γ S (fun x S1 => ∃ ls : List (List Str), dseq S1 x = some (ls.map nmD) ∧ ls.length < 64 ∧ (∀ n ∈ ls, n ≠ []) ∧ ∀ ms : List (List Str), ms.Nodup → (∀ n, n ∈ ms ↔ n ∈ ls) → P (.dat (.lst ((ms.mergeSort (leD nmQ)).map nmD))) S1) E
theorem ge_sortSet (calm : X.calm = true) (hr : Room k X.A) (he : GE X W e ga) (g1 : Gl X "sorted") (m1 : X.mg "sorted" = none) (g2 : Gl X "set") (m2 : X.mg "set" = none)
    (hs1 : starEach [.Call (.Name "set" p2) [e] [] pos2] X.env = (false, eval (.Call (.Name "set" p2) [e] [] pos2) X.env) :: starEach [] X.env := by rfl) (hpl1 : (backTo pos (starEach [] X.env)).any (·.1) = false := by rfl)
    (hs2 : starEach [e] X.env = (false, eval e X.env) :: starEach [] X.env := by rfl) (hpl2 : (backTo pos2 (starEach [] X.env)).any (·.1) = false := by rfl) : GE X W (.Call (.Name "sorted" p1) [.Call (.Name "set" p2) [e] [] pos2] [] pos) (gSortSet ga) := by
  have hun := hr.un
  have inner := pe_callTy (p := p2) (pos := pos2) (cr_setL calm (by omega)) g2 m2 (by decide +kernel) (pa_cons he pa_nil hs2) (by decide) (by decide) hs2 hpl2
  refine PE.imp (pe_callB (cr_sortL calm hr) g1 m1 (by decide +kernel) (pa_cons inner pa_nil hs1) (by decide) (by decide) hs1 hpl1) ?_
  rintro σ H Q ⟨R, Γ, S, F, P, E, g, sl, h, on, ox⟩
  show tG X.K W ga σ H _
  refine ⟨R, Γ, S, F, _, E, g, sl, h, fun v S1 F1 H1 x gg s1 rx h1 => ?_, ox⟩
  obtain ⟨ls, q, few, some_, h1⟩ := h1
  obtain ⟨a, ws, rfl, hq, rr⟩ := seq_of gg rx (dseq_seq q)
  obtain ⟨ks, rfl, rfl, h2⟩ := names_at (dat_gvs rr)
  refine ⟨a, ks, rfl, hq, fun p hp => .inl (.inl (gg.sub _ _ (h2 p hp))), by simpa using few, fun c L nc once same from_ => ?_⟩
  have g2' := gg.pass nc (setL X.w c L)
  refine ⟨c, L, rfl, upd_same, fun p hp => .inl (.inl (g2'.sub _ _ (h2 p (from_ p hp)))), fun p hp => some_ p.2 (List.mem_map_of_mem (from_ p hp)), fun r ts nr tp => ?_⟩
  have back := sort_back (fun p : Addr × List Str => p.2) nmQ ts
  have once2 : (ts.map (·.2)).Nodup := (tp.map (·.2)).nodup_iff.mpr once
  have same2 : ∀ n, n ∈ ts.map (·.2) ↔ n ∈ ks.map (·.2) := fun n => ((tp.map (·.2)).mem_iff).trans (same n)
  have rows : ∀ p ∈ ts.mergeSort (leD fun p => nmQ p.2), F1 p.1 = some (.tup (p.2.map V.str)) := fun p hp => h2 p (from_ p (tp.mem_iff.mp (List.mem_mergeSort.mp hp)))
  refine on_lst (ds := (ts.mergeSort (leD fun p => nmQ p.2)).map fun p => nmD p.2) (on.go s1) g2' (rp_names rows) ?_ _ nr
  have := h1 (ts.map (·.2)) once2 same2
  rw [← back, List.map_map] at this
  exact this
end
end LN

namespace LN
open PySem PySem.Spec PyProof.Rows L2
/-! names, sorted: one row for each lot of them -/
theorem toks_nil : PySem.W.keyToksAll [] = PySem.W.keyToksAll ([] : List PyData) := rfl
theorem dataLt_nm : ∀ a b : List Str, PySem.W.dataLt (nmQ a) (nmQ b) = nameLt a b
  | [], [] => dataLt_self _
  | [], y :: b => by
    rw [PySem.W.dataLt_tuple]
    show _ = true
    simp only [List.map_nil, List.map_cons, PySem.W.keyToksAll, PySem.W.keyToks]
    rfl
  | x :: a, [] => by
    rw [PySem.W.dataLt_tuple]
    show _ = false
    simp only [List.map_nil, List.map_cons, PySem.W.keyToksAll, PySem.W.keyToks]
    rfl
  | x :: a, y :: b => by
    rw [PySem.W.dataLt_tuple, List.map_cons, List.map_cons, PySem.W.dataLt_cons (by simp [PySem.W.alike]), ← PySem.W.dataLt_tuple, dataLt_nm a b]
    by_cases e : x = y
    · subst e
      rw [if_pos (by rw [eqv_str]; simp), nameLt_eq]
    · rw [if_neg (by rw [eqv_str]; simp [e]), PySem.W.dataLt_str, strLt_is, nameLt_ne e]
theorem leD_nm (a b : List Str) : leD nmQ a b = !nameLt b a := by
  show (!PySem.W.dataLt (nmQ b) (nmQ a)) = _
  rw [dataLt_nm]
theorem le_trans_nm (a b c : List Str) (h1 : leD nmQ a b = true) (h2 : leD nmQ b c = true) : leD nmQ a c = true := by
  rw [leD_nm, Bool.not_eq_true'] at h1 h2 ⊢
  cases e : nameLt c a with
  | false => rfl
  | true =>
    cases e2 : nameLt a b with
    | true =>
      have := nameLin.tr _ _ _ e e2
      rw [this] at h2
      cases h2
    | false =>
      have : a = b := nameLin.tri _ _ e2 h1
      subst this
      rw [e] at h2
      cases h2
theorem le_total_nm (a b : List Str) : (leD nmQ a b || leD nmQ b a) = true := by
  rw [leD_nm, leD_nm]
  cases e : nameLt b a with
  | false => rfl
  | true => rw [nameLin.asym e]; rfl
theorem le_anti_nm {a b : List Str} (h1 : leD nmQ a b = true) (h2 : leD nmQ b a = true) : a = b := by
  rw [leD_nm, Bool.not_eq_true'] at h1 h2
  exact (nameLin.tri _ _ h1 h2).symm
abbrev sortNm (ls : List (List Str)) : List (List Str) := ls.mergeSort (leD nmQ)
theorem sortNm_pw (ls : List (List Str)) : (sortNm ls).Pairwise fun a b => leD nmQ a b = true := List.pairwise_mergeSort le_trans_nm le_total_nm ls
theorem sorted_one {p q : List (List Str)} (h : p.Perm q) (hp : p.Pairwise fun a b => leD nmQ a b = true) (hq : q.Pairwise fun a b => leD nmQ a b = true) : p = q := by
  induction p generalizing q with
  | nil => exact (List.nil_perm.mp h).symm
  | cons x p ih =>
    cases q with
    | nil => exact absurd h.length_eq (by simp)
    | cons y q =>
      obtain ⟨p1, p2⟩ := List.pairwise_cons.mp hp
      obtain ⟨q1, q2⟩ := List.pairwise_cons.mp hq
      have e : x = y := by
        have h1 : x ∈ y :: q := h.mem_iff.mp List.mem_cons_self
        have h2 : y ∈ x :: p := h.mem_iff.mpr List.mem_cons_self
        rcases List.mem_cons.mp h1 with e | h1
        · exact e
        · rcases List.mem_cons.mp h2 with e | h2
          · exact e.symm
          · exact le_anti_nm (p1 y h2) (q1 x h1)
      subst e
      rw [ih (List.Perm.cons_inv h) p2 q2]
theorem sort_perm {p q : List (List Str)} (h : p.Perm q) : sortNm p = sortNm q :=
  sorted_one ((List.mergeSort_perm p _).trans (h.trans (List.mergeSort_perm q _).symm)) (sortNm_pw p) (sortNm_pw q)
theorem sort_filter (ls : List (List Str)) (f : List Str → Bool) : sortNm (ls.filter f) = (sortNm ls).filter f :=
  sorted_one ((List.mergeSort_perm _ _).trans ((List.mergeSort_perm ls _).symm.filter f)) (sortNm_pw _) ((sortNm_pw ls).filter _)
theorem sort_same {p q : List (List Str)} (hp : p.Nodup) (hq : q.Nodup) (h : ∀ n, n ∈ p ↔ n ∈ q) : sortNm p = sortNm q := sort_perm ((List.perm_ext_iff_of_nodup hp hq).mpr h)
theorem sort_eq_perm {p q : List (List Str)} (h : sortNm p = sortNm q) : p.Perm q := by
  have h1 := (List.mergeSort_perm p (leD nmQ)).symm
  have h : p.mergeSort (leD nmQ) = q.mergeSort (leD nmQ) := h
  rw [h] at h1
  exact h1.trans (List.mergeSort_perm q (leD nmQ))
theorem sort_sorted (ls : List (List Str)) : sortNm (sortNm ls) = sortNm ls := sort_perm (List.mergeSort_perm ls _)
/-- no thing of a built-in type is one of the class -/
def ktyB (K : PySem.W.Frag) (C : Addr) : Bool := tyNames.all fun t => PySem.W.kitOne K (.type t) (.ref C) == some false
theorem isi_ty {K : PySem.W.Frag} {S : Sto} {P : G → Sto → Prop} {x : G} {t : String} {C : Addr} (e : tyG S x = some (.ty t)) (ht : t ∈ tyNames) (k : ktyB K C = true) : rIsi_ K [x, .dat (.val (.ref C))] S P = P (.dat (.bl false)) S := by
  have h := beq_iff_eq.mp (List.all_eq_true.mp k t ht)
  simp only [rIsi_, e, oneCl]
  apply propext
  constructor
  · rintro ⟨_, b, h1, h2⟩
    have h1 : PySem.W.kitOne K (.type t) (.ref C) = some b := h1
    rw [h] at h1
    cases h1
    exact h2
  · intro q
    exact ⟨(fun C z => by cases z), false, h, q⟩
theorem ge_fldK {X : Cx} {W : WX} {e : Expr} {ga : GR} {pos : Pos} {f : Str} (K : PySem.W.Frag) (hK : X.K = K) (he : GE X W e ga) (hb : attributeBase e f X.env (eval e X.env) = eval e X.env := by rfl) : GE X W (.Attribute e f pos) (gFld K f ga) := by
  subst hK
  exact ge_fld he hb
theorem dictText_le (ts : List Str) : (dictText ts).length ≤ 2 + piled ts := by
  unfold dictText
  rw [strLen_append, strLen_append]
  have e1 : ((("{" : String) : Str)).length = 1 := rfl
  have e2 : ((("}" : String) : Str)).length = 1 := rfl
  rw [e1, e2]
  by_cases h : ts = []
  · subst h
    have : (Str.join (", " : String) []).length = 0 := rfl
    omega
  · have := join_length_add ts h
    omega
theorem kv_small {k n : Nat} : ∀ {kvs : List (PyData × PyData)}, (∀ p ∈ kvs, Sm k n p.1 ∧ Sm k n p.2) → PyData.showableKv kvs = true ∧ PyData.depthKv kvs ≤ k ∧ piled (PyData.shownKv kvs) ≤ kvs.length * (2 * n + 4)
  | [], _ => ⟨by simp only [PyData.showableKv], by simp only [PyData.depthKv]; omega, by simp only [PyData.shownKv]; exact Nat.zero_le _⟩
  | (a, b) :: kvs, h => by
    obtain ⟨h1, h2, h3⟩ := kv_small (kvs := kvs) fun p hp => h p (List.mem_cons_of_mem _ hp)
    have ha : Sm k n a := (h (a, b) List.mem_cons_self).1
    have hb : Sm k n b := (h (a, b) List.mem_cons_self).2
    refine ⟨?_, ?_, ?_⟩
    · simp only [PyData.showableKv, ha.shows, hb.shows, h1, Bool.and_self]
    · simp only [PyData.depthKv]
      have := ha.deep
      have := hb.deep
      omega
    · simp only [PyData.shownKv]
      rw [piled_cons, strLen_append, strLen_append, List.length_cons, Nat.succ_mul]
      have e : (((": " : String) : Str)).length = 2 := rfl
      have := ha.len
      have := hb.len
      omega
theorem Sm.dict {kvs : List (PyData × PyData)} {k n m : Nat} (h : ∀ p ∈ kvs, Sm k n p.1 ∧ Sm k n p.2) (l : kvs.length ≤ m) : Sm (k + 1) (2 + m * (2 * n + 4)) (.dict kvs) := by
  obtain ⟨h1, h2, h3⟩ := kv_small h
  refine ⟨by simpa [PyData.showable] using h1, by simp only [PyData.depth]; omega, ?_⟩
  simp only [PyData.shown]
  have := dictText_le (PyData.shownKv kvs)
  have := Nat.mul_le_mul_right (2 * n + 4) l
  omega
theorem FZk_dat {S : Sto} : ∀ kvs : List (List L2.Key × D), FZk S (kvs.map fun p => (p.1, .dat p.2)) kvs S
  | [] => .nil
  | (_, _) :: kvs => .cons .dat (FZk_dat kvs)
end LN

namespace LN
open PySem PySem.Spec PyProof.Rows L2
/-! data with dicts, compared with the same data -/
def leafB : D → Bool
  | .non => true
  | .bl _ => true
  | .int _ => true
  | .str _ => true
  | _ => false
def eqzB : Nat → D → Bool
  | 0, d => leafB d
  | n + 1, d => match d with
    | .tup ds => ds.all (eqzB n)
    | .lst ds => ds.all (eqzB n)
    | .dct kvs => kvs.all fun p => leafB p.2
    | d => leafB d
section
variable {K : PySem.W.Frag} {F H : Hp} {s : Shared}
theorem leaf_eq {A : Around} {d : D} (h : leafB d = true) {v v' : V} {u u' : Value} (p : Rp K F v d) (p' : Rp K F v' d) (r : RelV v u) (r' : RelV v' u') : SeqAt.EqAt A s u u' true := by
  cases d with
  | non => cases p; cases p'; exact eqAt_same r r' rfl
  | bl b => cases p; cases p'; exact eqAt_same r r' rfl
  | int i => cases p; cases p'; exact eqAt_same r r' rfl
  | str x => cases p; cases p'; exact eqAt_same r r' rfl
  | _ => cases h
theorem eqz_leaf {n : Nat} {d : D} (h : leafB d = true) : eqzB n d = true := by
  cases n with
  | zero => exact h
  | succ n => cases d <;> first | exact h | cases h
theorem kv_hits {A : Around} : ∀ {kvs : List (List L2.Key × D)} {ks ks' : List (List L2.Key × V)} {xa xb pre : List (List L2.Key × Addr × Value)}, (kvs.all fun p => leafB p.2) = true → RpKv K F ks kvs → RpKv K F ks' kvs → KT H ks xa → KT H ks' xb → HitsH A s (pre ++ xb) xa true
  | [], _, _, xa, xb, pre, _, p, p', t, t' => by
    cases p
    cases t
    exact .nil
  | (k, d) :: kvs, _, _, xa, xb, pre, h, p, p', t, t' => by
    cases p with
    | cons q rs =>
      cases p' with
      | cons q' rs' =>
        cases t with
        | @cons _ a1 _ at_ r t =>
          cases t' with
          | @cons _ b1 _ bt r' t' =>
            rw [List.all_cons, Bool.and_eq_true] at h
            obtain ⟨ka, ca, va⟩ := a1
            obtain ⟨kb, cb, vb⟩ := b1
            obtain ⟨e1, _, rv⟩ := r
            obtain ⟨e2, _, rv'⟩ := r'
            obtain rfl : k = ka := e1
            obtain rfl : k = kb := e2
            have ih := kv_hits (A := A) (pre := pre ++ [(k, cb, vb)]) h.2 rs rs' t t'
            rw [List.append_assoc] at ih
            exact .hit (j := pre.length) (p := (cb, vb)) (e := true) (b := true) (by rw [List.getElem?_append_right (Nat.le_refl _), Nat.sub_self]; rfl) (leaf_eq h.1 q q' rv rv') ih
theorem items_eqz {P : Program} {w : World} {A : Around} {f : D → Bool} (ih : ∀ (d : D) (v v' : V) (u u' : Value), f d = true → Rp K F v d → Rp K F v' d → RelV v u → RelV v' u' → SeqAt.EqIn P w A s u u' true) :
    ∀ {ds : List D} {xs ys : List V} {us ws : List Value}, ds.all f = true → RpAll K F xs ds → RpAll K F ys ds → Vals xs us → Vals ys ws → us.length = ws.length ∧ ∀ j (h1 : j < us.length) (h2 : j < ws.length), SeqAt.EqIn P w A s us[j] ws[j] true
  | [], _, _, _, _, _, .nil, .nil, .nil, .nil => ⟨rfl, fun j h1 _ => absurd h1 (Nat.not_lt_zero j)⟩
  | d :: ds, _, _, _, _, h, .cons q rs, .cons q' rs', .cons r t, .cons r' t' => by
    rw [List.all_cons, Bool.and_eq_true] at h
    obtain ⟨l, k⟩ := items_eqz ih h.2 rs rs' t t'
    refine ⟨by rw [List.length_cons, List.length_cons, l], fun j h1 h2 => ?_⟩
    cases j with
    | zero => exact ih d _ _ _ _ h.1 q q' r r'
    | succ j => exact k j (Nat.lt_of_succ_lt_succ h1) (Nat.lt_of_succ_lt_succ h2)
end
section
variable {X : Cx} {pins : List (Addr × Obj)} {σ : L2.St} {F H : Hp} {s : Shared}
theorem eqz_rc (I : Inv X pins σ H s) (sm : Same F H) {n : Nat} {A : Around} (hu : A.units + 3 < cLine) (ih : ∀ (d : D) (v v' : V) (u u' : Value), eqzB n d = true → Rp X.K F v d → Rp X.K F v' d → RelV v u → RelV v' u' → SeqAt.EqIn X.prog X.w A.in1 s u u' true)
    {d : D} {v v' : V} {u u' : Value} (h : eqzB (n + 1) d = true) (lf : ¬ leafB d = true) (p : Rp X.K F v d) (p' : Rp X.K F v' d) (r : RelV v u) (r' : RelV v' u') :
    ∃ a b, u = .ref a ∧ u' = .ref b ∧ ∀ (E Q : Value → Shared → Prop), Q (.bool true) s → wpAny (model X.prog X.w) A (richCompare .Eq (.ref a) (.ref b)) Q E s := by
  cases d with
  | tup ds =>
    have h : ds.all (eqzB n) = true := h
    cases p with
    | @tup a xs _ q rs =>
      cases p' with
      | @tup b ys _ q' rs' =>
        refine ⟨a, b, r, r', fun E Q hq => ?_⟩
        obtain ⟨us, r1, t1, _⟩ := I.tuple (.inl (.inl (sm _ _ q)))
        obtain ⟨ws, r2, t2, _⟩ := I.tuple (.inl (.inl (sm _ _ q')))
        obtain ⟨l, k⟩ := items_eqz ih h rs rs' r1 r2
        refine SeqAt.rcIn_tuples (e := fun _ => true) t1 t2 (by omega) (fun j h1 h2 => k j (by simpa using h1) (by simpa using h2)) ?_
        rw [show ((List.range (min us.toArray.size ws.toArray.size)).all fun _ => true) = true from List.all_eq_true.mpr fun _ _ => rfl, List.size_toArray, List.size_toArray, l]
        simpa using hq
  | lst ds =>
    have h : ds.all (eqzB n) = true := h
    cases p with
    | @lst a xs _ q rs =>
      cases p' with
      | @lst b ys _ q' rs' =>
        refine ⟨a, b, r, r', fun E Q hq => ?_⟩
        obtain ⟨us, r1, t1, _⟩ := I.list (.inl (.inl (sm _ _ q)))
        obtain ⟨ws, r2, t2, _⟩ := I.list (.inl (.inl (sm _ _ q')))
        obtain ⟨l, k⟩ := items_eqz ih h rs rs' r1 r2
        refine SeqAt.rcIn_lists (e := fun _ => true) t1.isList t2.isList (by rw [List.size_toArray, List.size_toArray, l]) (by omega) (fun j h1 h2 => k j (by simpa using h1) (by simpa using h2)) ?_
        rw [show ((List.range us.toArray.size).all fun _ => true) = true from List.all_eq_true.mpr fun _ _ => rfl]
        exact hq
  | dct kvs =>
    have h : (kvs.all fun p => leafB p.2) = true := h
    cases p with
    | @dct a ks _ q rs =>
      cases p' with
      | @dct b ks' _ q' rs' =>
        refine ⟨a, b, r, r', fun E Q hq => ?_⟩
        obtain ⟨few1, low1, xa, rel1, da⟩ := dt_rd I.hok (q.elim (fun e => .inl (sm _ _ e)) fun ⟨o, e⟩ => .inr ⟨o, sm _ _ e⟩)
        obtain ⟨few2, low2, xb, rel2, db⟩ := dt_rd I.hok (q'.elim (fun e => .inl (sm _ _ e)) fun ⟨o, e⟩ => .inr ⟨o, sm _ _ e⟩)
        refine eq_dictH (tupleKind_room_in1 (by omega)) low1 low2 da db (by omega) (fun _ => kv_hits (pre := []) h rs rs' rel1 rel2) ?_
        have l1 : xa.length = xb.length := by
          rw [← Paired.length rel1, ← Paired.length rel2]
          have kl : ∀ {kvs : List (List L2.Key × D)} {ks : List (List L2.Key × V)}, RpKv X.K F ks kvs → ks.length = kvs.length := fun {kvs} => by
            induction kvs with
            | nil => intro ks h; cases h; rfl
            | cons p kvs ih => intro ks h; cases h with
              | cons _ t => rw [List.length_cons, List.length_cons, ih t]
          rw [kl rs, kl rs']
        rw [l1]
        simpa using hq
  | non => exact absurd rfl lf
  | bl _ => exact absurd rfl lf
  | int _ => exact absurd rfl lf
  | str _ => exact absurd rfl lf
  | _ => cases h
theorem eqz_in (I : Inv X pins σ H s) (sm : Same F H) : ∀ (n : Nat) (A : Around), A.units + n + 2 < cLine → ∀ (d : D) (v v' : V) (u u' : Value), eqzB n d = true → Rp X.K F v d → Rp X.K F v' d → RelV v u → RelV v' u' → SeqAt.EqIn X.prog X.w A s u u' true
  | 0, A, _, d, v, v', u, u', h, p, p', r, r' => (leaf_eq h p p' r r').inModel _ _
  | n + 1, A, hu, d, v, v', u, u', h, p, p', r, r' => by
    by_cases lf : leafB d = true
    · exact (leaf_eq lf p p' r r').inModel _ _
    obtain ⟨a, b, rfl, rfl, go⟩ := eqz_rc I sm (by omega) (eqz_in I sm n A.in1 (by show A.units + 1 + n + 2 < cLine; omega)) h lf p p' r r'
    by_cases e : a = b
    · subst e; exact (SeqAt.EqAt.same _).inModel _ _
    exact SeqAt.EqIn.of_refs e go
/-- x == y: as ever, or the same data, dicts within -/
def rEqZ_ : RO := fun x y S P => rEq_ x y S P ∨ ∃ d, x = .dat d ∧ y = .dat d ∧ eqzB 20 d = true ∧ P (.dat (.bl true)) S
theorem opg_eqz (hu : X.A.units + 64 < cLine) : OpR X (compareOp .Eq) (rG X.K rEqZ_) := by
  rintro pins s σ H x y v u Q I rx ry ⟨R, S, F, P, gx, gy, g, hx, hy, h, on⟩
  rcases h with h | ⟨d, rfl, rfl, e, q⟩
  · exact opg_eq hu pins s σ H x y v u Q I rx ry ⟨R, S, F, P, gx, gy, g, hx, hy, h, on⟩
  · by_cases lf : leafB d = true
    · refine opg_eq hu pins s σ H x y v u Q I rx ry ⟨R, S, F, P, _, _, g, hx, hy, ?_, on⟩
      cases d with
      | non => exact ⟨by decide, q⟩
      | bl b => show P (.dat (.bl (decide (b = b)))) S; rw [decide_eq_true rfl]; exact q
      | int i => show P (.dat (.bl (decide (i = i)))) S; rw [decide_eq_true rfl]; exact q
      | str x => show P (.dat (.bl (decide (x = x)))) S; rw [decide_eq_true rfl]; exact q
      | _ => cases lf
    · obtain ⟨a, b, rfl, rfl, go⟩ := eqz_rc I g.sub (by omega) (eqz_in I g.sub 19 X.A.in1 (by show X.A.units + 1 + 19 + 2 < cLine; omega)) e lf hx hy rx ry
      exact go _ _ ⟨.bl _, H, I, rfl, on.now g (x := .dat _) (.bl _) q⟩
/-- repr(x), dicts within or not -/
def rReprU_ : RC := fun gs S P => rRepr_ gs S P ∨ rReprZ_ gs S P
theorem crg_repru {k : Nat} (quiet : Quiet X.A) (hr : Room k X.A) : CallR X (.builtin "repr") (cG X.K rReprU_) := by
  rintro pins s σ H vs us Q I r ⟨R, S, F, P, gs, g, hv, h, on⟩
  rcases h with h | h
  · exact crg_repr quiet (by have := hr.un; omega) pins s σ H vs us Q I r ⟨R, S, F, P, gs, g, hv, h, on⟩
  · exact crg_reprz quiet hr pins s σ H vs us Q I r ⟨R, S, F, P, gs, g, hv, h, on⟩
/-- list(range(n)), one's own -/
def rListRngO_ : RC := fun gs S P => match gs with
  | [.loc p] => ∃ n : Nat, S p = some (.raw (.rng 0 n)) ∧ n ≤ 1000 ∧ ∀ q, S q = none → P (.loc q) (sup S q (.lst (((upTo n).map D.int).map .dat)))
  | _ => False
theorem crg_listRngO (calm : X.calm = true) : CallR X (.type "list") (cG X.K rListRngO_) := by
  rintro pins s σ H vs us Q I r ⟨R, S, F, P, gs, g, hv, h, on⟩
  unfold rListRngO_ at h
  split at h
  · rename_i p
    obtain ⟨v, rfl, hx⟩ := gvs1 hv
    obtain ⟨n, q, few, h⟩ := h
    obtain rfl := (show v = .ref p from hx)
    exact cr_listRange calm pins s σ H _ us Q I r ⟨p, n, rfl, (g.obj _ _ q).2.1, few, on_own on g (gvs_dat (rp_upTo n)) h⟩
  · exact h.elim
end
theorem kb_some {K : PySem.W.Frag} {x qual : Str} {params : Arguments} {body : List Stmt} {scope : Scope} {kws : List (Str × V)} {f : Addr} {fd : FuncData} {ps : List Str} (F : FunD K x qual params body scope [] kws f fd) (n : Nat) (ks : List Str) (ms : List (Str × V)) (hk : kws ≠ []) (hms : ∀ q ∈ ms, q ∈ kws)
    (h : ∀ (D : Addr) (doc pm : Value) (an : Option Addr) (cdv ct : Value) (us mv ws : List Value), us.length = n → mv.length = ms.length → ws.length = ks.length →
      KwChain D ((ms.map (·.1)).zip mv) (bindArgs (PySem.W.fnOf x qual params body scope .none (.ref D) doc pm an cdv ct) ⟨us, ks.zip ws⟩) (ps.zip (us ++ ws ++ mv))) :
    ∃ mv : List Value, KBn K fd ps n ks (fun us ws => us ++ ws ++ mv) (fun vs zs => vs ++ zs ++ ms.map (·.2)) :=
  F.kbinds0 n ks ms (fun a b c => a ++ c ++ b) hk hms (fun r1 r2 r3 => (r1.append r3).append r2) h
end LN

namespace LN
open PySem PySem.Spec PyProof.Rows L2

/-! lists of own objects that are equal one by one -/
mutual
def D.nd : D → Bool
  | .non => true
  | .bl _ => true
  | .int _ => true
  | .str _ => true
  | .val _ => true
  | .raw _ => true
  | .dct _ => false
  | .tup ds => D.nds ds
  | .lst ds => D.nds ds
  | .wt ds => D.nds ds
  | .ro ds => D.nds ds
  | .obj _ fs => D.ndf fs
  | .exc _ _ _ fs => D.ndf fs
def D.nds : List D → Bool
  | [] => true
  | d :: ds => d.nd && D.nds ds
def D.ndf : List (Str × D) → Bool
  | [] => true
  | (_, d) :: fs => d.nd && D.ndf fs
end
def unlk (F : Hp) : Hp := fun a => match F a with
  | some o => if lkd o = true then none else some o
  | none => none
theorem unlk_at {F : Hp} {a : Addr} {o : HO} (h : F a = some o) (l : lkd o = false) : unlk F a = some o := by
  unfold unlk
  rw [h]
  dsimp only
  rw [l]
  rfl
theorem unlk_of {F : Hp} {a : Addr} {o : HO} (h : unlk F a = some o) : F a = some o ∧ lkd o = false := by
  unfold unlk at h
  split at h
  · rename_i u e
    split at h
    · cases h
    · rename_i n
      cases h
      exact ⟨e, by simpa using n⟩
  · cases h
theorem unlk_same {F G : Hp} (s : Same F G) : Same (unlk F) (unlk G) := fun a o e => by
  obtain ⟨h, l⟩ := unlk_of e
  exact unlk_at (s _ _ h) l
section
variable {K : PySem.W.Frag} {F : Hp}
theorem unlk_rd {a : Addr} {o : HO} (h : Rd F a o) (l : lkd o = false) : Rd (unlk F) a o :=
  h.elim (fun h => .inl (unlk_at h l)) fun ⟨u, h⟩ => .inr ⟨u, unlk_at h (nodct l)⟩
theorem unlk_t {a : Addr} {xs : List V} (h : SqT K F a xs) : SqT K (unlk F) a xs := h.elim (fun e => .inl (unlk_rd e rfl)) .inr
theorem unlk_l {a : Addr} {xs : List V} (h : SqL K F a xs) : SqL K (unlk F) a xs := h.elim (fun e => .inl (unlk_rd e rfl)) .inr
mutual
theorem Rp.unlk : ∀ {v : V} {d : D}, d.nd = true → Rp K F v d → Rp K (unlk F) v d
  | _, _, _, .non => .non
  | _, _, _, .bl b => .bl b
  | _, _, _, .int i => .int i
  | _, _, _, .str x => .str x
  | _, _, _, .val v => .val v
  | _, _, n, .tup h r => .tup (unlk_at h rfl) (RpAll.unlk (by simpa only [D.nd] using n) r)
  | _, _, n, .lst h r => .lst (unlk_at h rfl) (RpAll.unlk (by simpa only [D.nd] using n) r)
  | _, _, n, .wt h r => .wt (unlk_t h) (RpAll.unlk (by simpa only [D.nd] using n) r)
  | _, _, n, .ro h r => .ro (unlk_l h) (RpAll.unlk (by simpa only [D.nd] using n) r)
  | _, _, n, .dct h r => by simp only [D.nd] at n; cases n
  | _, _, n, .obj h r => .obj (unlk_at h rfl) (RpFs.unlk (by simpa only [D.nd] using n) r)
  | _, _, _, .raw h l => .raw (unlk_at h l) l
  | _, _, _, .exc0 => .exc0
  | _, _, n, .exc1 h r => .exc1 (unlk_at h rfl) (RpFs.unlk (by simpa only [D.nd] using n) r)
theorem RpAll.unlk : ∀ {vs : List V} {ds : List D}, D.nds ds = true → RpAll K F vs ds → RpAll K (unlk F) vs ds
  | _, _, _, .nil => .nil
  | _, _, n, .cons h r => by
    rw [D.nds, Bool.and_eq_true] at n
    exact .cons (Rp.unlk n.1 h) (RpAll.unlk n.2 r)
theorem RpFs.unlk : ∀ {vs : List (Str × V)} {ds : List (Str × D)}, D.ndf ds = true → RpFs K F vs ds → RpFs K (unlk F) vs ds
  | _, _, _, .nil => .nil
  | _, _, n, .cons h r => by
    rw [D.ndf, Bool.and_eq_true] at n
    exact .cons (Rp.unlk n.1 h) (RpFs.unlk n.2 r)
end
/-- the heap has only grown -/
theorem OR.ext {H H' : Hp} {a : Addr} {o : O} (e : Ext H H') (h : OR K F H a o) : OR K F H' a o := by
  cases o with
  | lst gs => obtain ⟨vs, q, r⟩ := h; exact ⟨vs, e _ _ q, r⟩
  | dct kvs => obtain ⟨ks, q, r⟩ := h; exact ⟨ks, e _ _ q, r⟩
  | dlk od ks kvs => obtain ⟨q, r⟩ := h; exact ⟨e _ _ q, r⟩
  | ins C fs => obtain ⟨dx, vs, q, r⟩ := h; exact ⟨dx, vs, e _ _ q, r⟩
  | bag => obtain ⟨c, x0, x1, x2, ns, n, q, ec, r⟩ := h; exact ⟨c, x0, x1, x2, ns, n, e _ _ q, ec, r⟩
  | raw o => exact ⟨e _ _ h.1, h.2⟩
end
theorem GS.grown {K : PySem.W.Frag} {R F H H' : Hp} {S : Sto} (e : Ext H H') (g : GS K R S F H) : GS K R S F H' :=
  ⟨fun a o h => e _ _ (g.sub _ _ h), fun a o h => ⟨e _ _ (g.rem a o h).1, (g.rem a o h).2⟩, fun a o h => ⟨(g.obj a o h).1, (g.obj a o h).2.ext e⟩, g.rtup⟩
/-- the own == of these two tells True -/
def SelfEq (C : Addr) (sp : GSp) (d : D) : Prop := (∃ fs, d = .obj C fs) ∧ d.nd = true ∧ ∀ (P : G → Sto → Prop) (S : Sto), P (.dat (.bl true)) S → sp [.dat d, .dat d] S P never
def rEqL (C : Addr) (sp : GSp) : RO := fun x y S P => ∃ ds : List D, dlst S x = some ds ∧ dlst S y = some ds ∧ (∀ d ∈ ds, SelfEq C sp d) ∧ P (.dat (.bl true)) S
def EqR (K : PySem.W.Frag) (C : Addr) (sp : GSp) (a b : Addr) (H : Hp) : Prop := ∃ d, SelfEq C sp d ∧ Rp K (unlk H) (.ref a) d ∧ Rp K (unlk H) (.ref b) d
def lkpart (F : Hp) : Hp := fun a => match F a with
  | some o => if lkd o = true then some o else none
  | none => none
theorem lkpart_at {F : Hp} {a : Addr} {o : HO} (h : F a = some o) (l : lkd o = true) : lkpart F a = some o := by
  unfold lkpart
  rw [h]
  dsimp only
  rw [l]
  rfl
theorem lkpart_of {F : Hp} {a : Addr} {o : HO} (h : lkpart F a = some o) : F a = some o ∧ lkd o = true := by
  unfold lkpart at h
  split at h
  · rename_i u e
    split at h
    · rename_i n
      cases h
      exact ⟨e, n⟩
    · cases h
  · cases h
theorem spEq_g {K : PySem.W.Frag} {C : Addr} {sp : GSp} : ∀ vs H Q E, spEq (EqR K C sp) vs H Q E → spG K sp vs H Q E := by
  rintro vs H Q E ⟨a, b, rfl, ⟨d, ⟨_, _, hs⟩, ra, rb⟩, q⟩
  refine ⟨lkpart H, fun _ => none, unlk H, [.dat d, .dat d], fun r _ => r = .dat (.bl true), never, ⟨fun a o h => (unlk_of h).1, fun a o h => ?_, (fun a o h => nomatch h), fun a xs h => ?_⟩, .cons ra (.cons rb .nil), hs _ _ rfl, ?_, fun _ _ _ _ _ _ _ _ _ z => z.elim⟩
  · obtain ⟨e, l⟩ := lkpart_of h
    refine ⟨e, ?_, rfl⟩
    unfold unlk
    rw [e]
    dsimp only
    rw [l]
    rfl
  · obtain ⟨_, l⟩ := lkpart_of h
    cases l
  · rintro v S' F' H' x g' up r rfl
    cases (show Rp K F' v (.bl true) from r)
    refine q H' fun a o h => ?_
    cases l : lkd o with
    | true => exact (g'.rem a o (lkpart_at h l)).1
    | false => exact g'.sub _ _ (up.keep _ _ (unlk_at h l) l)
section
variable {X : Cx} {K : PySem.W.Frag} {C f : Addr} {fd : FuncData} {ps : List Str} {k : Nat} {sp : GSp}
theorem opg_eqL (d : Dun X.K C "__eq__" f) (T : FnOk X.prog X.w X.K X.mg X.base (L2.CX X.prog X.w) k f fd ps (spG X.K sp)) (hb : Binds X.K fd ps []) (hr : Room (k + 1) X.A) : OpR X (compareOp .Eq) (rG X.K (rEqL C sp)) := by
  have mon : Mon (DIns C (EqR X.K C sp)) := mon_ins fun a b H H' e ⟨d, hs, ra, rb⟩ => ⟨d, hs, ra.up (.of (unlk_same e)), rb.up (.of (unlk_same e))⟩
  have rc := op_eqG (rcG_list mon (eqG_ins (E := E0) (T.imp spEq_g) d.at_ d.fn hb passL)) hr
  rintro pins s σ H x y v u Q I rx ry ⟨R, S, F, P, gx, gy, g, hx, hy, ⟨ds, e1, e2, hd, q⟩, on⟩
  obtain ⟨a, xs, rfl, ha, hxs⟩ := lst_of g hx (dlst_lst e1)
  obtain ⟨b, ys, rfl, hb', hys⟩ := lst_of g hy (dlst_lst e2)
  have hxs := dat_gvs hxs
  have hys := dat_gvs hys
  refine rc pins s σ H _ _ _ _ Q I rx ry ⟨⟨a, b, xs, ys, rfl, rfl, ha, hb', by rw [hxs.len, hys.len], fun i x y h1 h2 => ?_⟩, fun H' e => on _ S F H' (.dat (.bl true)) (GS.grown e g) (Up.refl _) (.bl true) q⟩
  have hi : i < ds.length := by
    rw [← hxs.len]
    exact (List.getElem?_eq_some_iff.mp h1).1
  obtain ⟨x', ex, rx'⟩ := hxs.at (List.getElem?_eq_getElem hi)
  obtain ⟨y', ey, ry'⟩ := hys.at (List.getElem?_eq_getElem hi)
  rw [h1] at ex
  rw [h2] at ey
  cases ex
  cases ey
  obtain ⟨⟨fs, e⟩, nd, hs⟩ := hd _ (List.getElem_mem hi)
  have rx2 : Rp X.K (unlk H) x ds[i] := (rx'.unlk nd).up (.of (unlk_same g.sub))
  have ry2 : Rp X.K (unlk H) y ds[i] := (ry'.unlk nd).up (.of (unlk_same g.sub))
  have hs' := hd _ (List.getElem_mem hi)
  generalize ds[i] = dd at rx2 ry2 e hs'
  subst e
  have rx3 := rx2
  have ry3 := ry2
  cases rx3 with
  | obj h1 _ =>
    cases ry3 with
    | obj h2 _ => exact ⟨_, _, _, _, _, _, rfl, rfl, (unlk_of h1).1, (unlk_of h2).1, _, hs', rx2, ry2⟩
end
/-! sorted(xs), a list that may be changed -/
def rSortO_ : RC := fun gs S P => match gs with
  | [x] => ∃ (α : Type) (as : List α) (f : α → D) (q : α → PyData), dlst S x = some (as.map f) ∧ Srt as f q ∧ ∀ p, S p = none → P (.loc p) (sup S p (.lst ((as.mergeSort (leD q)).map fun a => .dat (f a))))
  | _ => False
section
variable {X : Cx} {K : PySem.W.Frag} {R F H : Hp} {S : Sto} {k : Nat}
theorem crg_sortO (hr : Room k X.A) : CallR X (.builtin "sorted") (cG X.K rSortO_) := by
  rintro pins s σ H vs us Q I r ⟨R, S, F, P, gs, g, hv, h, on⟩
  unfold rSortO_ at h
  split at h
  · obtain ⟨v, rfl, hx⟩ := gvs1 hv
    obtain ⟨α, as, f, q, e, T, h⟩ := h
    obtain ⟨a, ws, rfl, hq, rr⟩ := dlst_of g hx e
    obtain ⟨u, rfl, ru⟩ := vals1 r
    obtain rfl : u = Value.ref a := ru
    obtain ⟨its, rv, pl, hz⟩ := I.list (.inl (.inl hq))
    obtain ⟨bs, e1, e2, e3, e4⟩ := trip as rr rv
    have hun := hr.un
    have mem : ∀ b ∈ bs, b.2.2 ∈ as := fun b hb => by rw [← e3]; exact List.mem_map_of_mem hb
    have lb : bs.length = as.length := by rw [← e3, List.length_map]
    have em : bs.map (fun b => q b.2.2) = as.map q := by rw [← e3, List.map_map]; rfl
    subst e2
    have reads : ∀ b ∈ bs, ∃ as, Reads s.heap b.2.1 (q b.2.2) as := fun b hb => Dp.reads I (q b.2.2) b.1 b.2.1 ((Rp.up (Up.of g.sub) (e4 b hb).2).py (T.py _ (mem b hb))) (e4 b hb).1
    refine PySem.W.sorted_data (enc := fun b : V × Value × α => q b.2.2) (R := fun v b => v = b.2.1) (bs := bs) pl.isList (each_g fun _ _ => rfl) (each_g reads) (by rw [em]; exact T.alike) (by rw [em]; exact T.keys) (by rw [lb, sizeLine_eq]; have := T.few; omega) (fun b hb => by have := T.deep _ (mem b hb); omega) fun out len each => ?_
    have eo := g_each each
    subst eo
    obtain ⟨ep, he'⟩ := PyProof.Rows.sortedAll_at s.heap (bs.map fun b => b.2.1) ((bs.mergeSort (PySem.W.dataLe false fun b => q b.2.2)).map fun b => b.2.1).toArray
    have gone : H (s.heap.objs.size + 1) = none := I.hok.fresh (Nat.le_succ _)
    have sz : ((bs.mergeSort (PySem.W.dataLe false fun b => q b.2.2)).map fun b => b.1).length ≤ sizeLine := by rw [List.length_map, List.length_mergeSort, lb, sizeLine_eq]; have := T.few; omega
    have back := sort_back (fun b : V × Value × α => b.2.2) q bs
    rw [e3] at back
    refine ⟨.ref _, upd H (s.heap.objs.size + 1) (.lst ((bs.mergeSort (PySem.W.dataLe false fun b => q b.2.2)).map fun b => b.1)), I.laid (t' := s.toks) (fun _ _ => PyProof.Rows.sortedAll_old) (Nat.le_succ _) ⟨sz, _, ep, vals_each _ (fun b hb => (e4 b (List.mem_mergeSort.mp hb)).1), he'⟩, rfl, ?_⟩
    refine on_own on g (gvs_dat (rp_each (g := fun b : V × Value × α => f b.2.2) _ fun b hb => (e4 b (List.mem_mergeSort.mp hb)).2)) ?_ _ gone
    intro p np
    rw [show ((bs.mergeSort (PySem.W.dataLe false fun b => q b.2.2)).map (fun b => f b.2.2)).map G.dat = (as.mergeSort (leD q)).map fun a => .dat (f a) by rw [← back, List.map_map, List.map_map]; rfl]
    exact h p np
  · exact h.elim
end
/-! within the suite of a try -/
theorem u64 {k : Nat} {A : Around} (r : Room k A) : A.units + 64 < cLine := by have := r.un; omega
theorem u70 {k : Nat} {A : Around} (r : Room k A) : A.units + 70 < cLine := by have := r.un; omega
theorem u200 {k : Nat} {A : Around} (r : Room k A) : A.units + 200 < cLine := by have := r.un; omega
section
variable {X : Cx} {k : Nat}
theorem crg_reprzS (quiet : Quiet X.A) (hun : X.A.units + 200 < cLine) : CallR X (.builtin "repr") (cG X.K rReprZ_) := by
  rintro pins s σ H vs us Q I r ⟨R, S, F, P, gs, g, hv, h, on⟩
  unfold rReprZ_ at h
  split at h
  · rename_i x
    obtain ⟨p, e, sz, dp, h⟩ := h
    obtain ⟨v, rfl, hx⟩ := gvs1 hv
    obtain ⟨u, rfl, ru⟩ := vals1 r
    refine repr_top (vzN_top I.hok g 3 hx e ru sz) sz quiet (by omega) fun h' z tk kp => ?_
    exact ⟨.str p.shown, H, I.un (t' := tk) (Un.kept kp) (I.hok.kept kp), ⟨z, rfl⟩, on.now g (x := .dat (.str _)) (.str _) h⟩
  · exact h.elim
end
end LN

namespace LN
open PySem PySem.Spec PyProof.Rows L2

/-! a dict of one pair that is never changed, its key a number, a text or None: by its object -/
structure OneO (o : Obj) (kd vd : D) : Prop where
  cls : o.ExactDict
  dat : ∃ hs key val ep kv vv, o.data = .dict #[⟨hs, key, val⟩] ep ∧ RelV kv key ∧ RelV vv val ∧ (∀ K F, Rp K F kv kd) ∧ ∀ K F, Rp K F vv vd
def pinO (d : Addr) (o : Obj) : HO := .ext fun h => h.get? d = some o
def RawOne (S : Sto) (x : G) (kd vd : D) : Prop := ∃ d o, x = .loc d ∧ S d = some (.raw (pinO d o)) ∧ (d == sysModules) = false ∧ OneO o kd vd
section
variable {X : Cx} {K : PySem.W.Frag} {W : WX} {R F H : Hp} {S : Sto} {pins : List (Addr × Obj)} {σ : L2.St} {s : Shared}
theorem pin_at {P : Program} {w : World} {d : Addr} {o : Obj} {h : Heap} (ok : HOk P w H h) (e : H d = some (pinO d o)) : h.get? d = some o := (show ObjOk P w H h d (pinO d o) from ok d _ e).1
theorem raw_of {x : G} {kd vd : D} {v : V} (g : GS K R S F H) (hx : GV K F v x) (h : RawOne S x kd vd) : ∃ d o, v = .ref d ∧ H d = some (pinO d o) ∧ (d == sysModules) = false ∧ OneO o kd vd ∧ x = .loc d ∧ S d = some (.raw (pinO d o)) := by
  obtain ⟨d, o, rfl, e, lo, one⟩ := h
  exact ⟨d, o, hx, (g.obj d _ e).2.1, lo, one, rfl, e⟩
theorem OneO.raw {o : Obj} {kd vd : D} (h : OneO o kd vd) {h' : Heap} {d : Addr} (e : h'.get? d = some o) : ∃ hs key val ep kv vv, h'.DictRaw d #[⟨hs, key, val⟩] ep ∧ RelV kv key ∧ RelV vv val ∧ (∀ K F, Rp K F kv kd) ∧ ∀ K F, Rp K F vv vd := by
  obtain ⟨hs, key, val, ep, kv, vv, e1, a, b, c, f⟩ := h.dat
  exact ⟨hs, key, val, ep, kv, vv, ⟨o, e, h.cls, e1⟩, a, b, c, f⟩
/-! isinstance(x, dict), of any thing and of such a dict -/
def rIsiR (K : PySem.W.Frag) : RC := fun gs S P => rIsi_ K gs S P ∨ ∃ x kd vd, gs = [x, .dat (.val (.ty "dict"))] ∧ RawOne S x kd vd ∧ P (.dat (.bl true)) S
theorem crg_isiR : CallR X (.builtin "isinstance") (cG X.K (rIsiR X.K)) := by
  rintro pins s σ H vs us Q I r ⟨R, S, F, P, gs, g, hv, h, on⟩
  rcases h with h | ⟨x, kd, vd, rfl, hr, h⟩
  · exact crg_isi pins s σ H vs us Q I r ⟨R, S, F, P, gs, g, hv, h, on⟩
  · obtain ⟨v, w, rfl, hx, hy⟩ := gvs2 hv
    obtain ⟨d, o, rfl, hd, lo, one, _, _⟩ := raw_of g hx hr
    cases (show Rp X.K F w (.val (.ty "dict")) from hy)
    obtain ⟨y1, y2, rfl, r1, r2⟩ := vals2 r
    obtain rfl : y1 = Value.ref d := r1
    have at_ := pin_at I.hok hd
    exact isi_one (t := .type "dict") I (.ty "dict") ⟨_, PySem.W.kitx_dict, ⟨o, at_, one.cls.1⟩, fun z => nomatch z⟩ r2 (kit_ty (kitB_is "dict" (by decide) "dict" (by decide))) (on.now g (x := .dat (.bl true)) (.bl _) h)
/-! len -/
theorem len_raw {prog : Program} {w : World} {A : Around} {E : Value → Shared → Prop} {s : Shared} {d : Addr} {es : Array DictEntry} {ep : Nat} {Q : Value → Shared → Prop} (hd : (d == sysModules) = false) (hm : s.heap.DictRaw d es ep) (hfit : (es.size : Int) < 2 ^ 63)
    (h : Q (.int es.size (s.toks + 1)) { s with toks := s.toks + 1 + 1 }) : wpAny (model prog w) A (call (.builtin "len") [.ref d]) Q E s := by
  refine Calls.call_function_entry kind_len plain_len entry_len (args_len1 _) ?_
  unfold Builtin.«len»
  refine wpAny_bind (m := oneArg "len" _) (wpAny_pure ?_)
  refine wpAny_bind (m := callSpecial? (.ref d) (Str.ofString "__len__")) (wpAny_callSpecial?_slot (name := Str.ofString "__len__") hm.typeIs F.slot_dict_len
    (call_meetsIn F.slot_dict_len hm.typeIs F.entry_dict_len (F.args_dict_len_1 _) (meets_dict_len_raw d hd) ⟨es, ep, hm, ?_⟩))
  show wpAny _ _ _ _ _ { s with toks := s.toks + 1 }
  refine wpAny_bind (wpAny_holding (wpAny_pure ?_))
  refine wpAny_bind (wpAny_letGo ?_)
  show wpAny _ _ (if ((es.size : Nat) : Int) < 0 then _ else _) _ _ _
  rw [if_neg (by omega)]
  show wpAny _ _ (if ((es.size : Nat) : Int) ≥ 2 ^ 63 then _ else _) _ _ _
  rw [if_neg (by omega)]
  exact wpAny_bind (wpAny_mkInt (wpAny_pure ⟨_, rfl, h⟩))
def rDLenR : RC := fun gs S P => rDLen_ gs S P ∨ ∃ x kd vd, gs = [x] ∧ RawOne S x kd vd ∧ P (.dat (.int 1)) S
theorem crD_lenR : CallR X (.builtin "len") (cG X.K rDLenR) := by
  rintro pins s σ H vs us Q I r ⟨R, S, F, P, gs, g, hv, h, on⟩
  rcases h with h | ⟨x, kd, vd, rfl, hr, h⟩
  · exact crD_len pins s σ H vs us Q I r ⟨R, S, F, P, gs, g, hv, h, on⟩
  · obtain ⟨v, rfl, hx⟩ := gvs1 hv
    obtain ⟨d, o, rfl, hd, lo, one, _, _⟩ := raw_of g hx hr
    obtain ⟨u, rfl, ru⟩ := vals1 r
    obtain rfl : u = Value.ref d := ru
    obtain ⟨hs, key, val, ep, kv, vv, raw, _⟩ := one.raw (pin_at I.hok hd)
    exact len_raw lo raw (by show ((1 : Nat) : Int) < 2 ^ 63; decide) ⟨.int 1, H, I.tok _, ⟨_, rfl⟩, on.now g (x := .dat (.int 1)) (.int 1) h⟩
/-! x.items() -/
def ItO (d : Addr) (o : Obj) (kv vv : V) : It :=
  ⟨fun i H => H d = some (pinO d o) ∧ i < 1, fun i H x H' => ∃ T, x = .ref T ∧ H T = none ∧ H' = upd H T (.tup [kv, vv]), fun i H => H d = some (pinO d o) ∧ 1 ≤ i⟩
theorem turn_itemsO {P : Program} {w : World} {elts : List Expr} {kk : Nat} {tpos : Pos} {d : Addr} {o : Obj} {kv vv : V} {hs : Int} {key val : Value} {ep : Nat} (it : Addr) (hx : o.ExactDict) (hdt : o.data = .dict #[⟨hs, key, val⟩] ep) (rk : RelV kv key) (rv : RelV vv val) :
    Turn P w K (.Tuple elts kk tpos) (ItO d o kv vv) [it] it (fun i h => ∃ ok ov, IsItemIter h it d i 1 ep ok ov) where
  mem := by simp
  obj := fun i h st b hb => by
    have e : b = it := by simpa using hb
    subst e
    obtain ⟨ok, ov, e⟩ := st
    exact ⟨_, e, fun v z => nomatch z⟩
  keep := fun i h h' st k => let ⟨ok, ov, e⟩ := st; ⟨ok, ov, k it (by simp) _ e⟩
  item := by
    intro X hP hw hK hc i pins s σ H E I hf st hg
    subst hP hw hK
    obtain ⟨hd, hi⟩ := hg
    have hm : s.heap.DictRaw d #[⟨hs, key, val⟩] ep := ⟨o, pin_at I.hok hd, hx, hdt⟩
    obtain ⟨ok, ov, he⟩ := st
    have hlt : it < s.heap.objs.size := Heap.lt_size he
    have hi0 : i = 0 := by omega
    subst hi0
    refine wpAny_pyNext_items_item_raw (es := #[⟨hs, key, val⟩]) he hm (by show 0 < 1; decide) fun h' ho hT hz hk => ?_
    refine ⟨_, rfl, wpAny_letOwnedTupleGo_items (s := { s with heap := h' }) ho fun h'' he' sb => ?_⟩
    have hT2 : h''.get? s.heap.objs.size = some { cls := .type "tuple", data := .seq #[key, val] } := (sb.2 _ (Nat.ne_of_gt hlt)).trans hT
    have new : ObjOk X.prog X.w (upd H s.heap.objs.size (.tup [kv, vv])) h'' s.heap.objs.size (.tup [kv, vv]) :=
      ⟨by show 2 ≤ sizeLine; decide, [key, val], .cons rk (.cons rv .nil), ⟨_, hT2, rfl, _, rfl⟩⟩
    have I1 : Inv X pins σ (upd H s.heap.objs.size (.tup [kv, vv])) { s with heap := h'' } :=
      I.turnedNew (t' := s.toks) (ch := [it]) (fun b ob hb e => (sb.2 b (by simpa using hb)).trans (hk b ob (by simpa using hb) e)) hf (Nat.le_refl _) new
    refine ⟨.ref s.heap.objs.size, _, I1, rfl, ⟨_, rfl, I.hok.fresh (Nat.le_refl _), rfl⟩, ⟨key, val, he'⟩, fun b hb => ?_⟩
    have e : b = it := by simpa using hb
    rw [e, upd_ne (Nat.ne_of_lt hlt)]
    exact (hf it (by simp)).1
  done := by
    intro X hP hw hK hc i pins s σ H E I hf st hg
    subst hP hw hK
    obtain ⟨hd, hi⟩ := hg
    obtain ⟨f0, f1, f2, f3, f4, f5⟩ := hf it (by simp)
    have hm : s.heap.DictRaw d #[⟨hs, key, val⟩] ep := ⟨o, pin_at I.hok hd, hx, hdt⟩
    obtain ⟨ok, ov, he⟩ := st
    exact wpAny_pyNext_items_end_raw (es := #[⟨hs, key, val⟩]) (I.ok.hd hc) he hm hi fun h' eb => ⟨rfl, I.turned (t' := s.toks) (fun b ob hb e => eb b ob hb e) f0 f1 f3 f4 f5⟩
  self := fun A i s Q E st h => let ⟨_, _, e⟩ := st; PySem.W.kcp_self e h
variable {e : Expr} {apos cpos : Pos} {td : TE} {ga gb : GR}
def iItemsO (td : TE) : TI := fun σ H R => td σ H fun x H1 => ∃ d o kv vv, x = .ref d ∧ H1 d = some (pinO d o) ∧ (d == sysModules) = false ∧ o.ExactDict ∧ (∃ hs key val ep, o.data = .dict #[⟨hs, key, val⟩] ep ∧ RelV kv key ∧ RelV vv val) ∧ R (ItO d o kv vv) H1
theorem pi_itemsO {elts : List Expr} {kk : Nat} {tpos : Pos} (he : PE X e td) (hbase : attributeBase e "items" X.env (eval e X.env) = eval e X.env := by rfl) (hline : (apos.endLine == cpos.line) = true := by rfl) :
    PI X (.Tuple elts kk tpos) (.Call (.Attribute e "items" apos) [] [] cpos) (iItemsO td) := by
  refine ⟨fun pins s σ H R I h => ?_⟩
  refine wpAny_Call_method (T := "dict") (id := "dict.items") hbase rfl hline PySem.F.plainAttrs_dict PySem.F.slot_dict_items PySem.F.type_dict_items (thn (he.run pins s σ H _ I h) fun u s1 ⟨x, H1, I1, rx, d, o, kv, vv, ex, hd, lo, hx, ⟨hs, key, val, ep, hdt, rk, rv⟩, q⟩ => ?_)
  subst ex
  obtain rfl : u = Value.ref d := rx
  have hm : s1.heap.DictRaw d #[⟨hs, key, val⟩] ep := ⟨o, pin_at I1.hok hd, hx, hdt⟩
  refine ⟨hm.typeIs, (fun b e => by cases e; exact ⟨o, pin_at I1.hok hd, hx.2.1⟩), ?_⟩
  have I2 : Inv X pins σ H1 { s1 with heap := s1.heap.push { cls := .type "dict_items", data := .fields #[.ref d] } } := I1.kept (t' := s1.toks) fun b ob q => Heap.get?_push_of_some _ q
  have fin : wpAny (model X.prog X.w) X.A (pyIter (.ref s1.heap.objs.size)) (PIE X pins σ (.Tuple elts kk tpos) R) X.xe { s1 with heap := s1.heap.push { cls := .type "dict_items", data := .fields #[.ref d] } } := by
    refine wpAny_pyIter_items_raw (d := d) (es := #[⟨hs, key, val⟩]) ⟨_, Heap.get?_push_size _ rfl, rfl, rfl⟩ (hm.push _) (pi_one (tk := s1.toks) I2 _ (turn_itemsO _ hx hdt rk rv) ⟨.none, .none, ?_⟩ q)
    exact Heap.get?_push_size _ rfl
  show wpAny _ _ (callWith cpos (.builtin "dict.items") [.ref d] [] []) _ X.xe s1
  exact method_meetsIn PySem.F.slot_dict_items PySem.F.entry_dict_items rfl (PySem.evalArgs_none ⟨rfl, hm.typeIs, PySem.F.args_dict_items_1 _, _, meets_dict_items_raw d lo, ⟨_, _, hm⟩, fin⟩)
def iPairsO (ga : GR) : GRI := fun Γ S P E => ga Γ S (fun x S1 => ∃ d o kd vd, x = .loc d ∧ S1 d = some (.raw (pinO d o)) ∧ (d == sysModules) = false ∧ OneO o kd vd ∧ P [.dat (.tup [kd, vd])] (fun S => S d = some (.raw (pinO d o))) S1) E
theorem gi_pairsO {elts : List Expr} {kk : Nat} {tpos : Pos} (he : GE X W e ga) (hbase : attributeBase e "items" X.env (eval e X.env) = eval e X.env := by rfl) (hline : (apos.endLine == cpos.line) = true := by rfl) :
    GI X W (.Tuple elts kk tpos) (.Call (.Attribute e "items" apos) [] [] cpos) (iPairsO ga) := by
  refine PI.imp (pi_itemsO he hbase hline) ?_
  rintro σ H T ⟨R, Γ, S, F, P, E, g, sl, h, on, ox⟩
  refine ⟨R, Γ, S, F, _, E, g, sl, h, fun v S1 F1 H1 x g1 s1 r1 h1 => ?_, ox⟩
  obtain ⟨d, o, kd, vd, rfl, at_, lo, one, h1⟩ := h1
  obtain rfl := (show v = .ref d from r1)
  obtain ⟨hs, key, val, ep, kv, vv, hdt, rk, rv, rpk, rpv⟩ := one.dat
  refine ⟨d, o, kv, vv, rfl, (g1.obj d _ at_).2.1, lo, one.cls, ⟨hs, key, val, ep, hdt, rk, rv⟩, on S1 F1 H1 _ _ _ g1 s1 ⟨fun i x R S2 F2 H2 ex s g st => ?_, fun R S2 F2 H2 s g st => ?_⟩ h1⟩
  · have hi : i = 0 := by
      cases i with
      | zero => rfl
      | succ i => simp at ex
    subst hi
    cases ex
    refine ⟨⟨(g.obj d _ st).2.1, by decide⟩, ?_⟩
    rintro v H3 ⟨T, rfl, nT, rfl⟩
    have s4 := up_new (F := F2) (p := T) (o := .tup [kv, vv]) (g.fresh nT).1
    exact ⟨_, s4, g.lay nT _, Rp.tup upd_same (.cons (rpk _ _) (.cons (rpv _ _) .nil))⟩
  · exact ⟨(g.obj d _ st).2.1, by show 1 ≤ 1; decide⟩
/-! one way or the other -/
def gOrE (a b : GR) : GR := fun Γ S P E => a Γ S P E ∨ b Γ S P E
def iOrE (a b : GRI) : GRI := fun Γ S P E => a Γ S P E ∨ b Γ S P E
theorem ge_or2 (h1 : GE X W e ga) (h2 : GE X W e gb) : GE X W e (gOrE ga gb) := by
  constructor
  rintro pins s σ H Q I ⟨R, Γ, S, F, P, E, g, sl, h | h, on, ox⟩
  · exact h1.run pins s σ H Q I ⟨R, Γ, S, F, P, E, g, sl, h, on, ox⟩
  · exact h2.run pins s σ H Q I ⟨R, Γ, S, F, P, E, g, sl, h, on, ox⟩
theorem gi_or2 {tg : Expr} {ia ib : GRI} (h1 : GI X W tg e ia) (h2 : GI X W tg e ib) : GI X W tg e (iOrE ia ib) := by
  constructor
  rintro pins s σ H T I ⟨R, Γ, S, F, P, E, g, sl, h | h, on, ox⟩
  · exact h1.run pins s σ H T I ⟨R, Γ, S, F, P, E, g, sl, h, on, ox⟩
  · exact h2.run pins s σ H T I ⟨R, Γ, S, F, P, E, g, sl, h, on, ox⟩
/-! {k: v} with such a key -/
def leafK : D → Bool
  | .non => true
  | .int _ => true
  | .str _ => true
  | _ => false
theorem leaf_kind (P : Program) (w : World) {kd : D} (h : leafK kd = true) : ∃ kv : V, (∀ K F, Rp K F kv kd) ∧ (∀ K F v, Rp K F v kd → v = kv) ∧ ∃ (κ : Type) (_ : DecidableEq κ) (knd : KeyKind P w κ) (k : κ), (∀ u, RelV kv u → knd.is k u = true) ∧ ∀ u, knd.is k u = true → RelV kv u := by
  cases kd with
  | non =>
    refine ⟨.non, fun _ _ => .non, fun _ _ v h => by cases h; rfl, Leaf, inferInstance, leafKind P w, .none, fun u r => ?_, fun u r => ?_⟩
    · obtain rfl : u = Value.none := r
      rfl
    · cases u <;> first | rfl | exact absurd r Bool.false_ne_true
  | int i =>
    refine ⟨.int i, fun _ _ => .int i, fun _ _ v h => by cases h; rfl, L2.Key, inferInstance, mixKind P w, .inl i, fun u r => kV_is (k := .inl i) r, fun u r => ?_⟩
    exact relV_key (k := .inl i) r
  | str x =>
    refine ⟨.str x, fun _ _ => .str x, fun _ _ v h => by cases h; rfl, L2.Key, inferInstance, mixKind P w, .inr x, fun u r => kV_is (k := .inr x) r, fun u r => ?_⟩
    exact relV_key (k := .inr x) r
  | _ => cases h
def gDLeaf (kd : D) (ga gb : GR) : GR := fun Γ S P E => ga Γ S (fun y S1 => gb Γ S1 (fun z S2 => ∃ i, y = .dat kd ∧ z = .dat (.int i) ∧ ∀ p o, S2 p = none → (p == sysModules) = false → OneO o kd (.int i) → P (.loc p) (sup S2 p (.raw (pinO p o)))) E) E
variable {a b : Expr} {pos : Pos}
theorem npin {p : Addr} {o : Obj} : ∀ xs, pinO p o ≠ .tup xs := fun xs z => by unfold pinO at z; cases z
theorem ge_dleaf (kd : D) (hk : leafK kd = true) (ha : GE X W a ga) (hb : GE X W b gb) : GE X W (.Dict [some a] [b] pos) (gDLeaf kd ga gb) := by
  obtain ⟨kv, rp1, rp2, κ, dec, knd, k, to, back⟩ := leaf_kind X.prog X.w hk
  constructor
  rintro pins s σ H Q I ⟨R, Γ, S, F, P, E, g, sl, h, on, ox⟩
  have nD : H s.heap.objs.size = none := I.fresh
  have low : (s.heap.objs.size == sysModules) = false := beq_eq_false_iff_ne.mpr (Ne.symm (Nat.ne_of_lt I.big))
  have I1 : Inv X pins σ (upd H s.heap.objs.size (.dK [])) { s with heap := s.heap.push { cls := .type "dict", data := .dict #[] } } := I.laid (t' := s.toks) (fun b o e => Heap.get?_push_of_some _ e) (Nat.le_refl _) (dk_empty s.heap I.big)
  have ndk : ∀ xs, HO.dK [] ≠ .tup xs := fun xs z => by cases z
  have g1 := g.hide (o := .dK []) nD ndk
  have nR := (g.fresh nD).2.2
  refine wpAny_Dict_walk (knd := knd) rfl rfl (fun z => nomatch z) (by show 1 ≤ 15; decide) ?_
  generalize s.heap.objs.size = Dd at *
  refine pairTrees_cons_walk (thn (ha.at_ I1 g1 sl h (ox.hid nR)) ?_)
  rintro u s2 ⟨y, H2, S2, F2, gy, I2, r2, g2, u2, q2, h2⟩
  refine thn (hb.at_ I2 g2 (sl.up u2) h2 ((ox.go u2).hid nR)) ?_
  rintro w s3 ⟨z, H3, S3, F3, gz, I3, r3, g3, u3, q3, i, rfl, rfl, h3⟩
  refine pairTrees_nil_walk ?_
  obtain ⟨at_, f, n⟩ := g3.rem Dd _ upd_same
  obtain ⟨_, _, ys, rel, dd⟩ := dk_of I3.hok at_
  cases rel
  obtain rfl := rp2 _ _ _ q2
  have emp : s3.heap.DictOf knd Dd [] := by
    obtain ⟨o, es, ep, e1, e2, e3, e4, e5, e6⟩ := dd
    have : es = #[] := by
      have := e5.length
      exact Array.eq_empty_of_size_eq_zero (by simpa using this)
    subst this
    exact ⟨o, #[], ep, e1, e2, e3, fun e he => by simp at he, .nil, List.nodup_nil⟩
  refine ⟨[(k, w)], ⟨to _ r2, rfl, trivial⟩, emp, fun h' dd' hs => ?_⟩
  obtain ⟨o, es, ep, e1, e2, e3, e4, e5, e6⟩ := id dd'
  have one : OneO o kd (.int i) := by
    have e5 : Pairs knd es.toList [(k, w)] := e5
    obtain ⟨hs', ky, eq, ky2⟩ : ∃ hs' ky, es = #[⟨hs', ky, w⟩] ∧ knd.is k ky = true := by
      obtain ⟨l⟩ := es
      generalize ev : [(k, w)] = kvs at e5
      cases e5 with
      | nil => cases ev
      | @cons e p es' kvs' h1 hv h2 =>
        cases ev
        generalize ev2 : ([] : List (κ × Value)) = kvs2 at h2
        cases h2 with
        | nil =>
          obtain ⟨hs', ky, vl⟩ := e
          obtain rfl : vl = w := hv
          exact ⟨hs', ky, rfl, h1⟩
        | cons _ _ _ => cases ev2
    refine ⟨e2, hs', ky, w, ep, _, _, by rw [e3, eq], back _ ky2, r3, rp1, fun K F => ?_⟩
    cases (show Rp X.K F3 _ (.int i) from q3)
    exact .int i
  have new : ObjOk X.prog X.w (upd H3 Dd (pinO Dd o)) h' Dd (pinO Dd o) := ⟨e1, ⟨o, e1⟩, fun h1 h2 a b => b _ a⟩
  refine ⟨.ref Dd, upd H3 Dd (pinO Dd o), d_write I3 (by rw [at_]; exact True.intro) hs ⟨o, e1⟩ new, rfl, ?_⟩
  have g4 := g3.turn (pinO Dd o) npin
  have g5 := g4.showO nR (u := .raw (pinO Dd o)) ⟨upd_same, npin⟩
  exact on (.ref Dd) _ F3 _ (.loc Dd) g5 (u2.trans u3) rfl (h3 Dd o n low one)
end
end LN

namespace LN
open PySem PySem.Spec PySem.W PyProof.Rows L2
/-! sorted(..) of tuples where some, but not the first, may be () -/
/-- tuples, the first filled, one of them empty -/
def HalfEmpty (ds : List PyData) : Prop := (∃ x r t, ds = .tuple (x :: r) :: t) ∧ (∀ d ∈ ds, ∃ xs, d = .tuple xs) ∧ PyData.tuple [] ∈ ds
section
variable {M : Model} {prog : Program} {w : World} {A : Around} {E : Value → Shared → Prop} {s : Shared}
theorem firsts_half : ∀ {vs : List Value} {ds : List PyData} {Q : List (Option Value) → Shared → Prop}, EachIs (fun v d => ∃ as, Reads s.heap v d as) vs ds → (∀ d ∈ ds, ∃ xs, d = .tuple xs) →
    (∀ fs : List (Option Value), fs.length = ds.length → (PyData.tuple [] ∈ ds → none ∈ fs) → ((∃ x r t, ds = .tuple (x :: r) :: t) → ∃ f t, fs = some f :: t) → Q fs s) → wpAny M A (vs.mapM firstOfTuple') Q E s
  | _, _, Q, .nil, _, h => by
    rw [List.mapM_nil]
    exact wpAny_pure (h [] rfl (fun z => nomatch z) fun ⟨_, _, _, z⟩ => nomatch z)
  | _, _, Q, .cons (b := d) ⟨as, r⟩ t, ht, h => by
    obtain ⟨xs, rfl⟩ := ht d List.mem_cons_self
    rw [List.mapM_cons]
    cases r with
    | @tuple a o ys n _ _ ho hc hd hr =>
      refine wpAny_bind ?_
      rw [kas_first_eq]
      refine wpAny_bind (Looks.here (show Looks M s.heap (typeOf (.ref a)) o.cls from (Looks.ld ho).andThen .now) ?_)
      rw [hc, if_neg (by first | decide | simp)]
      refine wpAny_bind (listItems_at ho hd (wpAny_pure ?_))
      refine wpAny_bind (firsts_half (Q := fun bs s' => wpAny M A (pure (ys[0]? :: bs)) Q E s') t (fun e he => ht e (List.mem_cons_of_mem _ he)) fun fs len some_ first => wpAny_pure ?_)
      refine h _ (by rw [List.length_cons, List.length_cons, len]) (fun z => ?_) (fun ⟨x, r, t', z⟩ => ?_)
      · rcases List.mem_cons.mp z with z | z
        · obtain rfl : xs = [] := (PyData.tuple.inj z).symm
          have q := SeqAt.ReadsAll.length _ _ _ hr
          have : ys[0]? = none := by
            rw [Array.getElem?_eq_none_iff]
            simpa using q
          rw [this]
          exact List.mem_cons_self
        · exact List.mem_cons_of_mem _ (some_ z)
      · obtain ⟨z, -⟩ := List.cons.inj z
        obtain rfl := PyData.tuple.inj z
        cases q : ys.toList with
        | nil =>
          rw [q] at hr
          cases hr
        | cons f fr => exact ⟨f, fs, by rw [← Array.getElem?_toList, q]; rfl⟩
theorem SortsAt.half {vs : List Value} {ds : List PyData} (e : EachIs (fun v d => ∃ as, Reads s.heap v d as) vs ds) (hal : AllAlike ds) (hk : HalfEmpty ds) (hu : ∀ d, d ∈ ds → A.units + d.depth < cLine) : SortsAt prog w A s (dataKind s.heap ds) vs := by
  refine ⟨fun v hv => ?_, general', ?_, fun h2 E Q hq => ?_⟩
  · obtain ⟨d, hd, as, r⟩ := e.left v hv
    exact ⟨_, dataKind_some hal hd r⟩
  · intro E x y a b Q ha hb hq
    obtain ⟨d, as, hd, ra, rfl⟩ := dataKind_inv ha
    obtain ⟨d', as', hd', rb, rfl⟩ := dataKind_inv hb
    refine oneLt_alike (f := false) (fun z => nomatch z) ra rb (hal d hd d' hd') (fun z => ?_) (Nat.lt_of_le_of_lt (Nat.add_le_add_left (Nat.min_le_left _ _) _) (hu d hd)) hq
    obtain ⟨xs, q⟩ := hk.2.1 d hd
    rw [q] at z
    cases z
  · rw [kat_kind_eq, List.mapM_toArray, map_eq_pure_bind]
    refine wpAny_bind (wpAny_bind (firsts_half e hk.2.1 fun fs len some_ first => wpAny_pure ?_))
    obtain ⟨f, t, rfl⟩ := first hk.1
    have n := some_ hk.2.2
    have hall : ((some f :: t).toArray.all fun x => x.isSome) = false := by
      rw [List.all_toArray, Bool.eq_false_iff]
      intro z
      have := List.all_eq_true.mp z none n
      cases this
    rw [if_neg (by rw [hall]; exact Bool.false_ne_true), if_pos (by rfl)]
    exact wpAny_pure hq
end
theorem SortsAt.either {prog : Program} {w : World} {A : Around} {s : Shared} {vs : List Value} {ds : List PyData} (e : EachIs (fun v d => ∃ as, Reads s.heap v d as) vs ds) (hal : AllAlike ds) (hk : Sortable ds ∨ HalfEmpty ds) (hu : ∀ d, d ∈ ds → A.units + d.depth < cLine) : SortsAt prog w A s (dataKind s.heap ds) vs :=
  hk.elim (fun q => SortsAt.data e hal q hu) fun q => SortsAt.half e hal q hu
section
variable {γ : Type} {T : Value → γ → Prop} {dt : γ → PyData} {prog : Program} {w : World} {A : Around} {E : Value → Shared → Prop} {s : Shared} {its : List Value} {gs : List γ}
/-- xs.sort() of such values: they stand in their order -/
theorem sort_either {at_ : Addr} {n : Nat} {P : Value → Shared → Prop} (there : s.heap.get? at_ = some (seqObj "list" its.toArray n)) (each : EachIs T its gs) (reads : EachIs (fun v b => ∃ ps, Reads s.heap v (dt b) ps ∧ at_ ∉ ps) its gs)
    (all : AllAlike (gs.map dt)) (kinds : Sortable (gs.map dt) ∨ HalfEmpty (gs.map dt)) (few : gs.length ≤ sizeLine) (deep : ∀ g ∈ gs, A.units + 1 + (dt g).depth < cLine)
    (q : ∀ out, out.length = gs.length → EachIs T out (gs.mergeSort (dataLe false dt)) → P .none { s with heap := sortedHeap s.heap at_ its out.toArray }) : wpAny (model prog w) A (call (.builtin "list.sort") [.ref at_]) P E s := by
  have reads2 : EachIs (fun v b => ∃ ps, Reads (sortingHeap s.heap at_ its) v (dt b) ps) its gs :=
    each_keepBut (a := at_) (h := s.heap) (fun b o ne z => sortingHeap_old ne z) (fun o z => by
      have : seqObj "list" its.toArray n = o := Option.some.inj (there.symm.trans z)
      rw [← this]) all reads
  have sa : SortsAt prog w A.in1 { s with heap := sortingHeap s.heap at_ its } (dataKind (sortingHeap s.heap at_ its) (gs.map dt)) its :=
    SortsAt.either (s := { s with heap := sortingHeap s.heap at_ its }) (each_map (R := fun v d => ∃ ps, Reads (sortingHeap s.heap at_ its) v d ps) dt reads2) all kinds (bound_map deep)
  exact wpAny_call_entry slot_list_sort ⟨_, there, rfl⟩ entry_list_sort
    (list_sort_vals there sa (by rw [each.length]; exact few) ⟨.none, rfl, q _ ((sortVals_length false rfl).trans each.length) (sortVals_data false each reads2 all)⟩) (args_list_sort _)
end
end LN
namespace LN
open PySem PySem.Spec PyProof.Rows L2
structure SrtE {α : Type} (as : List α) (f : α → D) (q : α → PyData) : Prop where
  py : ∀ a ∈ as, (f a).py = some (q a)
  alike : PySem.W.AllAlike (as.map q)
  keys : PySem.W.Sortable (as.map q) ∨ HalfEmpty (as.map q)
  deep : ∀ a ∈ as, (q a).depth ≤ 60
  few : as.length ≤ 100000
def rSortDE_ : RC := fun gs S P => match gs with
  | [x] => ∃ (α : Type) (as : List α) (kf : α → List L2.Key) (y : α → G) (q : α → PyData), dctOf S x = some (as.map fun a => (kf a, y a)) ∧ SrtE as (fun a => keyT (kf a)) q ∧ P (.dat (.lst ((as.mergeSort (leD q)).map fun a => keyT (kf a)))) S
  | _ => False
section
variable {X : Cx} {K : PySem.W.Frag} {R F H : Hp} {S : Sto} {k : Nat}
theorem crg_sortDE (calm : X.calm = true) (hr : Room k X.A) : CallR X (.builtin "sorted") (cG X.K rSortDE_) := by
  rintro pins s σ H vs us Q I r ⟨R, S, F, P, gs, g, hv, h, on⟩
  unfold rSortDE_ at h
  split at h
  · obtain ⟨v, rfl, hx⟩ := gvs1 hv
    obtain ⟨α, as, kf, y, q, e, T, h⟩ := h
    obtain ⟨a, ks, rfl, at_, rk⟩ := dct_of g hx e
    obtain ⟨u, rfl, ru⟩ := vals1 r
    obtain rfl : u = Value.ref a := ru
    obtain ⟨z, hs, xs, pr, o, es, ep, ho, hx', hdt, he, hn⟩ := (show ObjOk X.prog X.w H s.heap a (.dT ks) from at_.ok I.hok)
    have l1 : es.size = xs.length := size_of_entries he
    have l2 : ks.length = xs.length := Paired.length pr
    have hun := hr.un
    refine PySem.Calls.call_function_entry kind_sorted plain_sorted entry_sorted (args_sorted1 _) ?_
    unfold Builtin.«sorted»
    refine wpAny_bind (m := checkCount "sorted" 1 1 _) (wpAny_pure ?_)
    refine wpAny_bind (PySem.W.kdu_collect (A := X.A.in1) (kdl_raw hs hx' hdt) (I.ok.hd calm) ho (by omega) fun h' tk acc hk it => ?_)
    have ea : acc.toList = xs.map fun x => Value.ref x.2.1 := by
      have hl : acc.toList.length = xs.length := by rw [Array.length_toList, it.1]; exact l1
      refine List.ext_getElem? fun j => ?_
      rw [List.getElem?_map]
      cases hj : acc.toList[j]? with
      | none =>
        have h1 := List.getElem?_eq_none_iff.mp hj
        rw [List.getElem?_eq_none (by omega)]
        all_goals rfl
      | some v =>
        obtain ⟨en, hen, hv⟩ := it.2 j v (by rw [← Array.getElem?_toList]; exact hj)
        have qe := entry_at he j
        rw [hen] at qe
        cases hb : xs[j]? with
        | none =>
          rw [hb] at qe
          exact nomatch (show some en = none from qe)
        | some b =>
          rw [hb] at qe
          have e2 : en = entryOfKey (tupleKind (mixKind X.prog X.w)) b := Option.some.inj qe
          rw [hv, e2]
          all_goals rfl
    obtain ⟨ts, e1, e2, e3⟩ := duo as rk pr
    have ea2 : acc.toList = ts.map fun t => Value.ref t.1 := by
      rw [ea]
      have := congrArg (List.map Value.ref) e1
      rw [List.map_map, List.map_map] at this
      exact this.symm
    rw [ea2]
    have mem : ∀ t ∈ ts, t.2 ∈ as := fun t ht => by rw [← e2]; exact List.mem_map_of_mem ht
    have lt : ts.length = as.length := by rw [← e2, List.length_map]
    have em : ts.map (fun t => q t.2) = as.map q := by rw [← e2, List.map_map]; rfl
    have I2 : Inv X pins σ H { s with heap := h', toks := tk } := I.kept hk
    obtain ⟨F2, g2, u2, tp⟩ := g.tups
    have rows : ∀ t ∈ ts, Rp X.K F2 (.ref t.1) (keyT (kf t.2)) := fun t ht => Rp.tup (tp _ _ (e3 t ht)) (keyD_rp _)
    have below : ∀ t ∈ ts, ∃ as, Reads h' (.ref t.1) (q t.2) as := fun t ht => Dp.reads I2 (q t.2) (.ref t.1) (.ref t.1) ((Rp.up (Up.of g2.sub) (rows t ht)).py (T.py _ (mem t ht))) rfl
    refine wpAny_bind (wpAny_newList ?_ (by rw [List.length_map, lt, sizeLine_eq]; have := T.few; omega))
    have there2 : (h'.push { cls := .type "list", data := .seq (ts.map fun t => Value.ref t.1).toArray }).get? h'.objs.size = some (seqObj "list" (ts.map fun t => Value.ref t.1).toArray 0) := Heap.get?_push_size _ rfl
    have alikes : ∀ t ∈ ts, PySem.W.alike (q t.2) (q t.2) = true := fun t ht => T.alike _ (List.mem_map_of_mem (mem t ht)) _ (List.mem_map_of_mem (mem t ht))
    refine wpAny_bind (wpAny_holding ?_)
    refine sort_either (A := X.A.in1) (dt := fun t : Addr × α => q t.2) (T := fun v t => v = .ref t.1) (gs := ts) (its := ts.map fun t => Value.ref t.1) there2 (each_g fun _ _ => rfl) (by
      refine each_g fun t ht => ?_
      obtain ⟨as, r⟩ := below t ht
      exact ⟨as, PyProof.Rows.Reads.keeps (fun b ob z => Heap.get?_push_of_some _ z) r, fun z => Nat.lt_irrefl _ (readsIn _ _ _ (alikes t ht) r _ z)⟩) (by rw [em]; exact T.alike) (by rw [em]; exact T.keys) (by rw [lt, sizeLine_eq]; have := T.few; omega) (fun t ht => by have := T.deep _ (mem t ht); show X.A.units + 1 + 1 + _ < _; omega) fun out len each => ?_
    have eo := g_each each
    subst eo
    refine wpAny_pure ?_
    obtain ⟨ep2, he2⟩ := PyProof.Rows.sortedHeap_at (out := ((ts.mergeSort (PySem.W.dataLe false fun t => q t.2)).map fun t => Value.ref t.1).toArray) there2
    have sz : ((ts.mergeSort (PySem.W.dataLe false fun t => q t.2)).map fun t => V.ref t.1).length ≤ sizeLine := by rw [List.length_map, List.length_mergeSort, lt, sizeLine_eq]; have := T.few; omega
    have back := sort_back (fun t : Addr × α => t.2) q ts
    rw [e2] at back
    have keep2 : ∀ b ob, h'.get? b = some ob → (sortedHeap (h'.push { cls := .type "list", data := .seq (ts.map fun t => Value.ref t.1).toArray }) h'.objs.size (ts.map fun t => Value.ref t.1) ((ts.mergeSort (PySem.W.dataLe false fun t => q t.2)).map fun t => Value.ref t.1).toArray).get? b = some ob := fun b ob z => by
      have := Heap.lt_size z
      rw [PyProof.Rows.sortedHeap_old (Nat.ne_of_lt this) (by rw [Heap.size_push]; exact Nat.lt_succ_of_lt this)]
      exact Heap.get?_push_of_some _ z
    have gone : H h'.objs.size = none := I2.hok.fresh (Nat.le_refl _)
    refine ⟨_, rfl, .ref _, upd H h'.objs.size (.lst ((ts.mergeSort (PySem.W.dataLe false fun t => q t.2)).map fun t => V.ref t.1)), I2.laid (t' := tk) keep2 (Nat.le_refl _) ⟨sz, _, ep2, vals_each _ (fun t ht => rfl), he2⟩, rfl, ?_⟩
    refine on_lst (ds := (ts.mergeSort (PySem.W.dataLe false fun t => q t.2)).map fun t => keyT (kf t.2)) (on.go u2) g2 (rp_each _ fun t ht => rows t (List.mem_mergeSort.mp ht)) ?_ _ gone
    rw [show (ts.mergeSort (PySem.W.dataLe false fun t => q t.2)).map (fun t => keyT (kf t.2)) = (as.mergeSort (leD q)).map (fun a => keyT (kf a)) by rw [← back, List.map_map]; rfl]
    exact h
  · exact h.elim
end
/-! repr of a dict that may still be changed, its values data -/
def tabD (t : List (List L2.Key × D)) : List (List L2.Key × G) := t.map fun p => (p.1, .dat p.2)
def rReprD_ : RC := fun gs S P => match gs with
  | [.loc a] => ∃ t p, S a = some (.dct (tabD t)) ∧ (D.dct t).pz = some p ∧ SmP p ∧ p.depth ≤ 60 ∧ P (.dat (.str p.shown)) S
  | _ => False
theorem kv_tab {K : PySem.W.Frag} {F : Hp} : ∀ {ks : List (List L2.Key × V)} {t : List (List L2.Key × D)}, GKs K F ks (tabD t) → RpKv K F ks t
  | ks, [], h => by
    cases (show Paired _ ks [] from h)
    exact .nil
  | ks, (k, d) :: t, h => by
    cases (show Paired _ ks ((k, G.dat d) :: tabD t) from h) with
    | @cons x l1 y l2 h1 r1 =>
      obtain ⟨k', v⟩ := x
      obtain ⟨e, r⟩ := h1
      cases (show k = k' from e)
      exact .cons (show Rp K F v d from r) (kv_tab r1)
section
variable {X : Cx} {K : PySem.W.Frag} {k : Nat}
theorem crg_reprD (quiet : Quiet X.A) (hr : Room k X.A) : CallR X (.builtin "repr") (cG X.K rReprD_) := by
  rintro pins s σ H vs us Q I r ⟨R, S, F, P, gs, g, hv, h, on⟩
  unfold rReprD_ at h
  split at h
  · rename_i a
    obtain ⟨t, p, hS, e, sz, dp, h⟩ := h
    obtain ⟨v, rfl, hx⟩ := gvs1 hv
    obtain ⟨u, rfl, ru⟩ := vals1 r
    have hun := hr.un
    obtain ⟨b, ks, rfl, at_, rk⟩ := dct_of g hx (dctOf_loc hS)
    have top := Rp.top I.hok (F := H) (fun _ _ z => z) (Rp.dct at_ (RpKv.up (Up.of g.sub) (kv_tab rk))) e ru sz
    refine repr_top top sz quiet (by omega) fun h' z tk kp => ?_
    exact ⟨.str p.shown, H, I.un (t' := tk) (Un.kept kp) (I.hok.kept kp), ⟨z, rfl⟩, on.now g (x := .dat (.str _)) (.str _) h⟩
  · exact h.elim
end
/-! max(xs), min(xs), xs a list of whole numbers -/
def leastI (i : Int) (is : List Int) : Int := is.foldl (fun a y => if y < a then y else a) i
def mostI (i : Int) (is : List Int) : Int := is.foldl (fun a y => if a < y then y else a) i
theorem leastI_lt (m : Int) : ∀ (is : List Int) (i : Int), leastI i is < m ↔ i < m ∨ ∃ j ∈ is, j < m
  | [], i => by simp [leastI]
  | y :: is, i => by
    show leastI (if y < i then y else i) is < m ↔ _
    rw [leastI_lt m is]
    by_cases c : y < i
    · rw [if_pos c]
      constructor
      · rintro (h | ⟨j, hj, h⟩)
        · exact .inr ⟨y, List.mem_cons_self, h⟩
        · exact .inr ⟨j, List.mem_cons_of_mem _ hj, h⟩
      · rintro (h | ⟨j, hj, h⟩)
        · exact .inl (Int.lt_trans c h)
        · rcases List.mem_cons.mp hj with rfl | hj
          · exact .inl h
          · exact .inr ⟨j, hj, h⟩
    · rw [if_neg c]
      constructor
      · rintro (h | ⟨j, hj, h⟩)
        · exact .inl h
        · exact .inr ⟨j, List.mem_cons_of_mem _ hj, h⟩
      · rintro (h | ⟨j, hj, h⟩)
        · exact .inl h
        · rcases List.mem_cons.mp hj with rfl | hj
          · exact .inl (by omega)
          · exact .inr ⟨j, hj, h⟩
theorem mostI_gt (m : Int) : ∀ (is : List Int) (i : Int), m < mostI i is ↔ m < i ∨ ∃ j ∈ is, m < j
  | [], i => by simp [mostI]
  | y :: is, i => by
    show m < mostI (if i < y then y else i) is ↔ _
    rw [mostI_gt m is]
    by_cases c : i < y
    · rw [if_pos c]
      constructor
      · rintro (h | ⟨j, hj, h⟩)
        · exact .inr ⟨y, List.mem_cons_self, h⟩
        · exact .inr ⟨j, List.mem_cons_of_mem _ hj, h⟩
      · rintro (h | ⟨j, hj, h⟩)
        · exact .inl (Int.lt_trans h c)
        · rcases List.mem_cons.mp hj with rfl | hj
          · exact .inl h
          · exact .inr ⟨j, hj, h⟩
    · rw [if_neg c]
      constructor
      · rintro (h | ⟨j, hj, h⟩)
        · exact .inl h
        · exact .inr ⟨j, List.mem_cons_of_mem _ hj, h⟩
      · rintro (h | ⟨j, hj, h⟩)
        · exact .inl h
        · rcases List.mem_cons.mp hj with rfl | hj
          · exact .inl (by omega)
          · exact .inr ⟨j, hj, h⟩
theorem minD_ints : ∀ (is : List Int) (i : Int), PySem.W.minD (.int i) (is.map .int) = .int (leastI i is)
  | [], i => rfl
  | y :: is, i => by
    have e : PySem.W.minD (.int i) ((y :: is).map .int) = PySem.W.minD (if PySem.W.dataLt (.int y) (.int i) = true then .int y else .int i) (is.map .int) := rfl
    rw [e, PySem.W.dataLt_int]
    have e2 : (if decide (y < i) = true then PyData.int y else .int i) = .int (if y < i then y else i) := by by_cases c : y < i <;> simp [c]
    rw [e2]
    exact minD_ints is _
theorem maxD_ints : ∀ (is : List Int) (i : Int), PySem.W.maxD (.int i) (is.map .int) = .int (mostI i is)
  | [], i => rfl
  | y :: is, i => by
    have e : PySem.W.maxD (.int i) ((y :: is).map .int) = PySem.W.maxD (if PySem.W.dataLt (.int i) (.int y) = true then .int y else .int i) (is.map .int) := rfl
    rw [e, PySem.W.dataLt_int]
    have e2 : (if decide (i < y) = true then PyData.int y else .int i) = .int (if i < y then y else i) := by by_cases c : i < y <;> simp [c]
    rw [e2]
    exact maxD_ints is _
theorem ints_read {K : PySem.W.Frag} {F : Hp} {h : Heap} : ∀ {is : List Int} {ws : List V} {its : List Value}, RpAll K F ws (is.map .int) → Vals ws its → ∃ as, ReadsAll h its (is.map .int) as
  | [], ws, its, r, v => by
    cases (show RpAll K F ws [] from r)
    cases v
    exact ⟨_, .nil⟩
  | i :: is, ws, its, r, v => by
    cases (show RpAll K F ws (.int i :: is.map .int) from r) with
    | cons h1 r1 =>
      cases v with
      | cons v1 vr =>
        cases h1
        obtain ⟨t, rfl⟩ := v1
        obtain ⟨as, q⟩ := ints_read r1 vr
        exact ⟨_, .cons (.int i t) q⟩
theorem ints_alike (is : List Int) : PySem.W.AlikeAll (is.map .int) := by
  refine ⟨fun d hd e he => ?_, fun d hd z => ?_⟩
  · obtain ⟨i, _, rfl⟩ := List.mem_map.mp hd
    obtain ⟨j, _, rfl⟩ := List.mem_map.mp he
    simp [PySem.W.alike]
  · obtain ⟨i, _, rfl⟩ := List.mem_map.mp hd
    cases z
def rMinI_ : RC := fun gs S P => match gs with
  | [x] => ∃ i is, dlst S x = some ((i :: is).map .int) ∧ P (.dat (.int (leastI i is))) S
  | _ => False
def rMaxI_ : RC := fun gs S P => match gs with
  | [x] => ∃ i is, dlst S x = some ((i :: is).map .int) ∧ P (.dat (.int (mostI i is))) S
  | _ => False
section
variable {X : Cx} {k : Nat}
theorem crg_minI (calm : X.calm = true) (hr : Room k X.A) : CallR X (.builtin "min") (cG X.K rMinI_) := by
  rintro pins s σ H vs us Q I r ⟨R, S, F, P, gs, g, hv, h, on⟩
  unfold rMinI_ at h
  split at h
  · obtain ⟨v, rfl, hx⟩ := gvs1 hv
    obtain ⟨i, is, e, h⟩ := h
    obtain ⟨a, ws, rfl, hq, rr⟩ := dlst_of g hx e
    obtain ⟨u, rfl, ru⟩ := vals1 r
    obtain rfl : u = Value.ref a := ru
    obtain ⟨its, rv, hl, hz⟩ := I.list (.inl (.inl hq))
    obtain ⟨as, rd⟩ := ints_read (h := s.heap) rr rv
    have hun := hr.un
    have dep := PySem.W.depth_ints (i :: is)
    refine PySem.W.min_list_data (I.ok.hd calm) hl.isList (by simpa using rd) (ints_alike (i :: is)) (by show X.A.units + 1 + PyData.depthAll ((i :: is).map .int) < _; rw [dep]; omega) fun j v h' tk bs _ rv' hk => ?_
    rw [minD_ints] at rv'
    cases rv' with
    | int _ t => exact ⟨.int _, H, I.kept (t' := tk) hk, ⟨t, rfl⟩, on.now g (x := .dat (.int _)) (.int _) h⟩
  · exact h.elim
theorem crg_maxI (calm : X.calm = true) (hr : Room k X.A) : CallR X (.builtin "max") (cG X.K rMaxI_) := by
  rintro pins s σ H vs us Q I r ⟨R, S, F, P, gs, g, hv, h, on⟩
  unfold rMaxI_ at h
  split at h
  · obtain ⟨v, rfl, hx⟩ := gvs1 hv
    obtain ⟨i, is, e, h⟩ := h
    obtain ⟨a, ws, rfl, hq, rr⟩ := dlst_of g hx e
    obtain ⟨u, rfl, ru⟩ := vals1 r
    obtain rfl : u = Value.ref a := ru
    obtain ⟨its, rv, hl, hz⟩ := I.list (.inl (.inl hq))
    obtain ⟨as, rd⟩ := ints_read (h := s.heap) rr rv
    have hun := hr.un
    have dep := PySem.W.depth_ints (i :: is)
    refine PySem.W.max_list_data (I.ok.hd calm) hl.isList (by simpa using rd) (ints_alike (i :: is)) (by show X.A.units + 1 + PyData.depthAll ((i :: is).map .int) < _; rw [dep]; omega) fun j v h' tk bs _ rv' hk => ?_
    rw [maxD_ints] at rv'
    cases rv' with
    | int _ t => exact ⟨.int _, H, I.kept (t' := tk) hk, ⟨t, rfl⟩, on.now g (x := .dat (.int _)) (.int _) h⟩
  · exact h.elim
end
end LN

namespace K17
open PySem PySem.Spec PyProof.Rows L2 LN
def topS (i : Nat) : Stmt := PySem.Challenge.pw_listnames_k17_zones_refused.main.body.getD i (.Pass ⟨0, 0, 0, 0⟩)
abbrev s_wall : Stmt := topS 0
abbrev s_ListError : Stmt := topS 2
abbrev s_Wrong : Stmt := topS 3
abbrev s_Wrong_init : Stmt := inClass (topS 3) 0
abbrev s_NoName : Stmt := topS 4
abbrev s_NoName_init : Stmt := inClass (topS 4) 0
abbrev s_Full : Stmt := topS 5
abbrev s_Full_init : Stmt := inClass (topS 5) 0
abbrev s_is_integer : Stmt := topS 9
abbrev s_is_label : Stmt := topS 10
abbrev s_is_name : Stmt := topS 11
abbrev s_is_full : Stmt := topS 12
abbrev s_is_value : Stmt := topS 13
abbrev s_is_number : Stmt := topS 14
abbrev s_are_values : Stmt := topS 17
abbrev s_united : Stmt := topS 18
abbrev s_Zone : Stmt := topS 19
abbrev s_Zone_init : Stmt := inClass (topS 19) 0
abbrev s_Zone_eq : Stmt := inClass (topS 19) 1
abbrev s_Zone_len : Stmt := inClass (topS 19) 2
abbrev s_Zone_contains : Stmt := inClass (topS 19) 3
abbrev s_Zone_iter : Stmt := inClass (topS 19) 4
abbrev s_Zone_getitem : Stmt := inClass (topS 19) 5
abbrev s_Zone_setitem : Stmt := inClass (topS 19) 6
abbrev s_Zone_or : Stmt := inClass (topS 19) 7
abbrev s_Zone_ior : Stmt := inClass (topS 19) 8
abbrev s_Zone_and : Stmt := inClass (topS 19) 9
abbrev s_Zone_sub : Stmt := inClass (topS 19) 10
abbrev s_Zone_take : Stmt := inClass (topS 19) 11
abbrev s_Zone_names : Stmt := inClass (topS 19) 12
abbrev s_Zone_under : Stmt := inClass (topS 19) 13
abbrev s_Zone_state : Stmt := inClass (topS 19) 14
abbrev s_Zone_copied : Stmt := inClass (topS 19) 15
abbrev s_law_bag : Stmt := topS 21
abbrev s_law_take : Stmt := topS 22
abbrev s_law_alike : Stmt := topS 23
abbrev s_law_pick : Stmt := topS 24
abbrev s_law_mix : Stmt := topS 25
abbrev s_law_labels : Stmt := topS 26
abbrev s_law_word : Stmt := topS 27
abbrev s_law_names : Stmt := topS 28
abbrev s_law_values : Stmt := topS 29
abbrev s_law_tried : Stmt := topS 30
abbrev s_law_due : Stmt := topS 31
abbrev s_law : Stmt := topS 32
local macro_rules | `(tactic| walk_at "g") => `(tactic| simp only [gC, gOp, gUn, gCB, gCall, gvar_0, gvar_s, nth_0, nth_s, pad_0, pad_n, pad_c, LN.gNil, LN.gCons, gStar, gTruth, gTest, gChain, gAnd, gOr, gNot, gAndV, gOrV, gNotV, gIf, gTuple, LN.gLst, gOwn, oNo, LN.oAt, gSl,
  tru_non, tru_bl, tru_int, tru_tup, tru_lst, allDat_nil, allDat_cons, allDat_map, allDat_app, Option.map_some, dseq_lst, dseq_tup, dlst_lst', lstOf_lst, seqOf_lst, seqOf_tup, tupOf_tup,
  rAdd_int, rAdd_str, rAdd_tup, rAdd_lst, rSub_int, rNeg_int, rMul_int, rMul_str, rMod_int, rFdv_int, rLt_int, rLe_int, rGt_int, rGe_int, rLt_str, rLe_str, rIs_non, rIs_int, rIs_tup, rIs_lst, rIs_str, rIs_bl, rIsn_non, rIsn_int, rIsn_tup, rIsn_lst, rIsn_str, rIsn_bl,
  rIx_lst, rIx_tup, rIx_str, rLen_str, rLen_lst, rLen_tup, rAbs_int, rInt_int, rTuple_tup, rTuple_lst, rList_lst, rList_tup, rSl_tup, rSl_lst, rSl_str, isLst_lst,
  gNext, gSeq, gPass, gBreak, gCont, gDrop, gRet, gRetN, gIfS, gNm, gTs, setAll, gAsg, gPar, iRng, LN.iRng2, iSeq, gBM, gAug, rIadd_, gPars, gPar3, gRaise, gTryAs, gXf, GEnds.suite, rIsE_, excIs, gItems, iTupD, rEqO, rNeO, gRevL, rMax2_, rMin2_, rMulT_, rReprZ_, rMulL_lst, rPow_int, gBT, rJoin_str, isTxt_str, gSortSet, rEqX, rNeX, gFrz, gDNewF,
  req_nm, rne_nm, req_nm0, rne_nm0, rin_nm, rnin_nm, req_str, rne_str, req_int, rne_int, req_bl, rne_bl,
  gFld, fldOf_obj, gSto, gMeth, gProp, LN.gSub, gCallO, gPut, gBinO, gBD, gDPut, gDNew, gDOne, rRng_, rListRng_, gMake, gMakeK, gUn, isOf_obj, isOfM_obj, Tgt.put,
  isi_ii, isi_ib, isi_ss, isi_tt, isi_ll, isi_bb, isi_llt, isi_ltt,
  List.set_cons_zero, List.set_cons_succ, List.map_cons, List.map_nil, List.length_map, List.length_cons, List.length_nil, List.append_nil, List.nil_append, List.cons_append, sup_same, if_true, Bool.false_eq_true, if_false, Bool.not_true, Bool.not_false, decide_true, decide_false, true_and, Option.isSome_some, Option.isSome_none, Bool.true_and, Bool.and_true, Bool.false_and, Bool.and_false, Bool.not_not, cx_K, blk_K, gLc, gDc, gYes, gwipe_0, gwipe_s, iPairsG, iKeysG, gLkE, gLkS, rInO, rNinO, gFor, lock_sup, dct_sup, keyG_nm])

structure Fx (K : PySem.W.Frag) (mg : Str → Option Value) where
  f_law_alike : Addr
  fd_law_alike : FuncData
  D_law_alike : Df K mg "_law_alike" s_law_alike ["_law_found", "_law_right"] f_law_alike fd_law_alike
  f_law_bag : Addr
  fd_law_bag : FuncData
  D_law_bag : Df K mg "_law_bag" s_law_bag ["_law_script"] f_law_bag fd_law_bag
  f_law_due : Addr
  fd_law_due : FuncData
  D_law_due : Df K mg "_law_due" s_law_due ["_law_thing"] f_law_due fd_law_due
  f_law_labels : Addr
  fd_law_labels : FuncData
  D_law_labels : Df K mg "_law_labels" s_law_labels ["_law_bag_here", "_law_many"] f_law_labels fd_law_labels
  f_law_mix : Addr
  fd_law_mix : FuncData
  D_law_mix : Df K mg "_law_mix" s_law_mix ["_law_bag_here", "_law_some"] f_law_mix fd_law_mix
  f_law_names : Addr
  fd_law_names : FuncData
  D_law_names : Df K mg "_law_names" s_law_names ["_law_bag_here", "_law_labels_here", "_law_many", "_law_most"] f_law_names fd_law_names
  f_law_pick : Addr
  fd_law_pick : FuncData
  D_law_pick : Df K mg "_law_pick" s_law_pick ["_law_bag_here", "_law_some"] f_law_pick fd_law_pick
  f_law_take : Addr
  fd_law_take : FuncData
  D_law_take : Df K mg "_law_take" s_law_take ["_law_bag_here", "_law_many"] f_law_take fd_law_take
  f_law_tried : Addr
  fd_law_tried : FuncData
  D_law_tried : Df K mg "_law_tried" s_law_tried ["_law_thing"] f_law_tried fd_law_tried
  f_law_values : Addr
  fd_law_values : FuncData
  D_law_values : Df K mg "_law_values" s_law_values ["_law_bag_here", "_law_names_here"] f_law_values fd_law_values
  f_law_word : Addr
  fd_law_word : FuncData
  D_law_word : Df K mg "_law_word" s_law_word ["_law_bag_here", "_law_labels_here", "_law_least", "_law_most"] f_law_word fd_law_word
  f_are_values : Addr
  fd_are_values : FuncData
  D_are_values : Df K mg "are_values" s_are_values ["thing"] f_are_values fd_are_values
  f_is_full : Addr
  fd_is_full : FuncData
  D_is_full : Df K mg "is_full" s_is_full ["thing"] f_is_full fd_is_full
  f_is_integer : Addr
  fd_is_integer : FuncData
  D_is_integer : Df K mg "is_integer" s_is_integer ["thing"] f_is_integer fd_is_integer
  f_is_label : Addr
  fd_is_label : FuncData
  D_is_label : Df K mg "is_label" s_is_label ["thing"] f_is_label fd_is_label
  f_is_name : Addr
  fd_is_name : FuncData
  D_is_name : Df K mg "is_name" s_is_name ["thing"] f_is_name fd_is_name
  f_is_number : Addr
  fd_is_number : FuncData
  D_is_number : Df K mg "is_number" s_is_number ["many", "thing"] f_is_number fd_is_number
  f_is_value : Addr
  fd_is_value : FuncData
  D_is_value : Df K mg "is_value" s_is_value ["thing"] f_is_value fd_is_value
  f_law : Addr
  fd_law : FuncData
  D_law : Df K mg "law" s_law ["_law_script"] f_law fd_law
  C_Zone : Addr
  m_Zone : mg "Zone" = some (.ref C_Zone)
  cl_Zone : Cls K C_Zone
  own_Zone : OwnC K C_Zone
  g_Zone_contains : Addr
  gd_Zone_contains : FuncData
  F_Zone_contains : L2.Fun K "__contains__" "Zone.__contains__" s_Zone_contains g_Zone_contains gd_Zone_contains
  b_Zone_contains : Binds K gd_Zone_contains ["self", "x"] []
  du_Zone_contains : Dun K C_Zone "__contains__" g_Zone_contains
  g_Zone_getitem : Addr
  gd_Zone_getitem : FuncData
  F_Zone_getitem : L2.Fun K "__getitem__" "Zone.__getitem__" s_Zone_getitem g_Zone_getitem gd_Zone_getitem
  b_Zone_getitem : Binds K gd_Zone_getitem ["self", "at"] []
  du_Zone_getitem : Dun K C_Zone "__getitem__" g_Zone_getitem
  fi_Zone_getitem : PySem.W.fnIn K g_Zone_getitem = true
  g_Zone_init : Addr
  gd_Zone_init : FuncData
  F_Zone_init : L2.Fun K "__init__" "Zone.__init__" s_Zone_init g_Zone_init gd_Zone_init
  b_Zone_init : Binds K gd_Zone_init ["self", "values"] []
  g_Zone_names : Addr
  gd_Zone_names : FuncData
  F_Zone_names : L2.Fun K "names" "Zone.names" s_Zone_names g_Zone_names gd_Zone_names
  b_Zone_names : Binds K gd_Zone_names ["self"] []
  me_Zone_names : Meth K C_Zone "names" g_Zone_names
  na_Zone__values : NoAttr K C_Zone "_values"
  mk_Zone : Mk K C_Zone g_Zone_init
  C_Full : Addr
  m_Full : mg "Full" = some (.ref C_Full)
  er_Full : ErrC K C_Full
  C_ListError : Addr
  m_ListError : mg "ListError" = some (.ref C_ListError)
  er_ListError : ErrC K C_ListError
  C_NoName : Addr
  m_NoName : mg "NoName" = some (.ref C_NoName)
  er_NoName : ErrC K C_NoName
  C_Wrong : Addr
  m_Wrong : mg "Wrong" = some (.ref C_Wrong)
  er_Wrong : ErrC K C_Wrong
  g_Wrong_init : Addr
  gd_Wrong_init : FuncData
  F_Wrong_init : L2.Fun K "__init__" "Wrong.__init__" s_Wrong_init g_Wrong_init gd_Wrong_init
  b_Wrong_init : Binds K gd_Wrong_init ["self", "place"] []
  ii_Wrong : PySem.W.findIn K (.ref C_Wrong) "__init__" = some (some (.ref g_Wrong_init)) ∧ PySem.W.typeIn K (.ref g_Wrong_init) = some (.type "function")
  nf_Wrong : PySem.W.findIn K (.ref C_Wrong) "place" = some none
  ki_Wrong_Full : PySem.W.kitOne K (.ref C_Wrong) (.ref C_Full) = some false
  ki_Wrong_ListError : PySem.W.kitOne K (.ref C_Wrong) (.ref C_ListError) = some true
  ex_Wrong_ListError : PySem.W.exmOne K (.ref C_Wrong) (.ref C_ListError) = some true
  ki_Wrong_NoName : PySem.W.kitOne K (.ref C_Wrong) (.ref C_NoName) = some false
  ki_Wrong_Wrong : PySem.W.kitOne K (.ref C_Wrong) (.ref C_Wrong) = some true
  tk_GREATEST_VALUE : Tok
  m_GREATEST_VALUE : mg "GREATEST_VALUE" = some (.int 999 tk_GREATEST_VALUE)
  tk_LABEL_SIGNS : Tok
  m_LABEL_SIGNS : mg "LABEL_SIGNS" = some (.int 8 tk_LABEL_SIGNS)
  tk_MOST_NAMES : Tok
  m_MOST_NAMES : mg "MOST_NAMES" = some (.int 30 tk_MOST_NAMES)
  m_abs : mg "abs" = none
  m_all : mg "all" = none
  m_bool : mg "bool" = none
  m_dict : mg "dict" = none
  m_int : mg "int" = none
  m_isinstance : mg "isinstance" = none
  m_len : mg "len" = none
  m_list : mg "list" = none
  m_max : mg "max" = none
  m_min : mg "min" = none
  m_range : mg "range" = none
  m_repr : mg "repr" = none
  m_sorted : mg "sorted" = none
  m_str : mg "str" = none
  m_tuple : mg "tuple" = none
section
variable {P : Program} {w : World} {K : PySem.W.Frag} {mg : Str → Option Value} {base : Heap}
theorem sc_Wrong_init : FnScope ["self", "place"] ["self", "place"] (defScope s_Wrong_init) := ⟨rfl, rfl, rfl, by decide +kernel, rfl, by decide +kernel, by decide +kernel⟩
theorem ei_Wrong (Z : Fx K mg) : ErrI P w K mg base "Wrong" Z.C_Wrong "place" := ⟨Z.er_Wrong, ⟨_, _, Z.ii_Wrong.1, Z.ii_Wrong.2, ok_err Z.F_Wrong_init Z.er_Wrong.oex Z.nf_Wrong sc_Wrong_init rfl rfl rfl rfl rfl, Z.b_Wrong_init⟩, Z.m_Wrong⟩
/-! the kinds, of any value -/
def gs_is_integer : GSp := fun gs S P _ => ∃ (d : D) (t : String), gs = [.dat d] ∧ tyD d = some (.ty t) ∧ t ∈ tyNames ∧ P (.dat (.bl (t == "int"))) S
theorem ty_ints : ∀ t ∈ tyNames, (isB t "int" = true → (t == "int") = !isB t "bool") ∧ (isB t "int" = false → (t == "int") = false) := by decide
theorem sc_is_integer : FnScope ["thing"] ["thing"] (defScope s_is_integer) := ⟨rfl, rfl, rfl, by decide +kernel, rfl, by decide +kernel, by decide +kernel⟩
theorem ok_is_integer (Z : Fx K mg) : FnOk P w K mg base (L2.CX P w) 2 Z.f_is_integer Z.fd_is_integer ["thing"] (spG K (gs_is_integer)) := by
  have nd := sc_is_integer.nd
  refine okG Z.D_is_integer.F sc_is_integer (fun gs S Pg Xg h => ?_) (fun cdv A outer s H E gs S Pg Xg hr h => ?_)
  · obtain ⟨d, t, rfl, _⟩ := h
    rfl
  obtain ⟨d, t, rfl, ht, hm, q⟩ := h
  refine ⟨_, (gss_one (gs_ret (ge_and (ge_callB crg_isi (by rfl) Z.m_isinstance (by decide +kernel) (ga_cons (gvar 0) (ga_cons (gty (n := "int") Z.m_int (by decide +kernel)) ga_nil))) (ge_one (ge_not (ge_callB crg_isi (by rfl) Z.m_isinstance (by decide +kernel) (ga_cons (gvar 0) (ga_cons (gty (n := "bool") Z.m_bool (by decide +kernel)) ga_nil)))))))), ?_⟩
  walk_at "g"
  rw [isi_gen (by exact ht) hm (by decide)]
  walk_at "g"
  refine if_b (fun c => ?_) fun c => ?_
  · rw [isi_gen (by exact ht) hm (by decide)]
    walk_at "g"
    exact rt_b ((ty_ints t hm).1 c).symm q
  · exact rt_b (by rw [c, (ty_ints t hm).2 c]) q
/-- a whole number within -/
def numD (m : Int) : D → Bool
  | .int i => decide (0 ≤ i ∧ i < m)
  | _ => false
def gs_is_number : GSp := fun gs S P _ => ∃ (m : Int) (d : D) (t : String), gs = [.dat (.int m), .dat d] ∧ tyD d = some (.ty t) ∧ t ∈ tyNames ∧ P (.dat (.bl (numD m d))) S
theorem sc_is_number : FnScope ["many", "thing"] ["many", "thing"] (defScope s_is_number) := ⟨rfl, rfl, rfl, by decide +kernel, rfl, by decide +kernel, by decide +kernel⟩
theorem ok_is_number (Z : Fx K mg) : FnOk P w K mg base (L2.CX P w) 4 Z.f_is_number Z.fd_is_number ["many", "thing"] (spG K (gs_is_number)) := by
  have nd := sc_is_number.nd
  refine okG Z.D_is_number.F sc_is_number (fun gs S Pg Xg h => ?_) (fun cdv A outer s H E gs S Pg Xg hr h => ?_)
  · obtain ⟨m, d, t, rfl, _⟩ := h
    rfl
  obtain ⟨m, d, t, rfl, ht, hm, q⟩ := h
  refine ⟨_, (gss_one (gs_ret (ge_and (ge_call Z.D_is_integer (ok_is_integer Z) (takes_of rfl rfl rfl rfl) (hr.mono (by decide)) (ga_cons (gvar 1) ga_nil)) (ge_one (ge_chain opg_le opg_lt gint (gvar 1) (gvar 0)))))), ?_⟩
  walk_at "g"
  refine ⟨d, t, rfl, ht, hm, ?_⟩
  walk_at "g"
  refine if_b (fun c => ?_) fun c => ?_
  · have e : t = "int" := by simpa using c
    subst e
    obtain ⟨i, rfl⟩ : ∃ i, d = .int i := by
      cases d <;> first | exact ⟨_, rfl⟩ | exact absurd (Ty.ty.inj (Option.some.inj ht)) (by decide) | cases ht
    walk_at "g"
    refine if_dec (fun c1 => rt_b ?_ q) fun c1 => rt_b ?_ q
    · unfold numD
      simp [c1]
    · unfold numD
      simp [c1]
  · refine rt_b ?_ q
    unfold numD
    cases d <;> first | rfl | (cases ht; done) | (cases ht; rfl) | (cases ht; simp at c; done)
/-- a label, of any value -/
def labD : D → Bool
  | .str x => isLab x
  | _ => false
/-- the texts within are short enough -/
def shortD : D → Prop
  | .str x => x.length ≤ sizeLine
  | _ => True
def gs_is_label : GSp := fun gs S P _ => ∃ (d : D) (t : String), gs = [.dat d] ∧ tyD d = some (.ty t) ∧ t ∈ tyNames ∧ shortD d ∧ P (.dat (.bl (labD d))) S
theorem ty_strs : ∀ t ∈ tyNames, isB t "str" = (t == "str") := by decide
theorem sc_is_label : FnScope ["thing", "sign"] ["thing"] (defScope s_is_label) := ⟨rfl, rfl, rfl, by decide +kernel, rfl, by decide +kernel, by decide +kernel⟩
theorem ok_is_label (Z : Fx K mg) : FnOk P w K mg base (L2.CX P w) 2 Z.f_is_label Z.fd_is_label ["thing"] (spG K (gs_is_label)) := by
  have nd := sc_is_label.nd
  refine okG Z.D_is_label.F sc_is_label (fun gs S Pg Xg h => ?_) (fun cdv A outer s H E gs S Pg Xg hr h => ?_)
  · obtain ⟨d, t, rfl, _⟩ := h
    rfl
  obtain ⟨d, t, rfl, ht, hm, sh, q⟩ := h
  refine ⟨_, (gss_cons (gs_if (gw_pt (gw_or (gt_not (gt_truth (ge_callB crg_isi (by rfl) Z.m_isinstance (by decide +kernel) (ga_cons (gvar 0) (ga_cons (gty (n := "str") Z.m_str (by decide +kernel)) ga_nil))))) (gw_or1 (gt_not (gt_chain opg_le opg_le gint (ge_callB crg_len (by rfl) Z.m_len PySem.boot_len (ga_cons (gvar 0) ga_nil)) (gglob Z.m_LABEL_SIGNS)))))) (gss_one (gs_ret gbl)) gss_nil) (gss_one (gs_ret (ge_callB (crg_all rfl) (by rfl) Z.m_all (by decide +kernel) (ga_cons (ge_lc (own := [("sign", 1)]) (T := .one 1) finF_ok (by decide) rfl nd (gi_seq (gvar 0)) (blkOk_by (N := ["thing", "sign"]) (sc := defScope s_is_label) (by decide +kernel)) (fun _ _ _ _ _ => gb_one (i := 1) nd rfl (Or.inl rfl)) (fun _ _ _ _ _ => gts_nil) (fun _ _ _ _ _ => (ge_chain opg_le opg_le gstr (gvar 1) gstr))) ga_nil))))), ?_⟩
  walk_at "g"
  rw [isi_gen (by exact ht) hm (by decide), ty_strs t hm]
  walk_at "g"
  cases hs : (t == "str") with
  | false =>
    walk_at "g"
    refine rt_b ?_ q
    unfold labD
    cases d <;> first | rfl | (cases ht; done) | (cases ht; rfl) | (cases ht; simp at hs; done)
  | true =>
    have e : t = "str" := by simpa using hs
    subst e
    obtain ⟨x, rfl⟩ : ∃ x, d = .str x := by
      cases d <;> first | exact ⟨_, rfl⟩ | exact absurd (Ty.ty.inj (Option.some.inj ht)) (by decide) | cases ht
    walk_at "g"
    refine ⟨sh, ?_⟩
    refine if_dec (fun c1 => if_b (fun c2 => rt_b ?_ q) fun c2 => Later.go ?_) fun c1 => rt_b ?_ q
    · unfold labD isLab
      have : ¬ (x.length ≤ 8) := by simp at c2; omega
      simp [this]
    · walk_at "g"
      refine LR.mapF x.cps.toList (fun c => .dat (.str ⟨#[c]⟩)) (fun c => .bl (decide (97 ≤ c) && decide (c ≤ 122))) trivial (by have : x.length = x.cps.toList.length := rfl; simp at c2; omega) (fun c hc k1 h1 => ?_) ?_
      · walk_at "g"
        rw [sign_a, sign_z]
        refine if_dec (fun a => ?_) fun a => ?_
        · rw [decide_eq_true a] at h1
          exact h1
        · rw [decide_eq_false a] at h1
          exact h1
      · rw [rAll_map]
        refine rt_b ?_ q
        unfold labD isLab
        have c1' : 1 ≤ x.length := by omega
        have c2' : x.length ≤ 8 := by simp at c2; omega
        simp [c1', c2']
    · unfold labD isLab
      have : ¬ (1 ≤ x.length) := by omega
      simp [this]
/-- values that may be asked -/
def okD (d : D) : Prop := ∃ t, tyD d = some (.ty t) ∧ t ∈ tyNames
/-- a name, of any value -/
def nameD : D → Bool
  | .tup ds => ds.all labD
  | _ => false
def partsD : D → Prop
  | .tup ds => ds.length ≤ 100000 ∧ ∀ d ∈ ds, okD d ∧ shortD d
  | _ => True
def gs_is_name : GSp := fun gs S P _ => ∃ (d : D), gs = [.dat d] ∧ okD d ∧ partsD d ∧ (∀ ds, d ≠ .wt ds) ∧ P (.dat (.bl (nameD d))) S
theorem ty_tups : ∀ t ∈ tyNames, isB t "tuple" = (t == "tuple") := by decide
theorem sc_is_name : FnScope ["thing", "part"] ["thing"] (defScope s_is_name) := ⟨rfl, rfl, rfl, by decide +kernel, rfl, by decide +kernel, by decide +kernel⟩
theorem ok_is_name (Z : Fx K mg) : FnOk P w K mg base (L2.CX P w) 4 Z.f_is_name Z.fd_is_name ["thing"] (spG K (gs_is_name)) := by
  have nd := sc_is_name.nd
  refine okG Z.D_is_name.F sc_is_name (fun gs S Pg Xg h => ?_) (fun cdv A outer s H E gs S Pg Xg hr h => ?_)
  · obtain ⟨d, rfl, _⟩ := h
    rfl
  obtain ⟨d, rfl, ⟨t, ht, hm⟩, parts, nwt, q⟩ := h
  refine ⟨_, (gss_one (gs_ret (ge_and (ge_callB crg_isi (by rfl) Z.m_isinstance (by decide +kernel) (ga_cons (gvar 0) (ga_cons (gty (n := "tuple") Z.m_tuple (by decide +kernel)) ga_nil))) (ge_one (ge_callB (crg_all rfl) (by rfl) Z.m_all (by decide +kernel) (ga_cons (ge_lc (own := [("part", 1)]) (T := .one 1) finF_ok (by decide) rfl nd (gi_seq (gvar 0)) (blkOk_by (N := ["thing", "part"]) (sc := defScope s_is_name) (by decide +kernel)) (fun _ _ _ _ _ => gb_one (i := 1) nd rfl (Or.inl rfl)) (fun _ _ _ _ _ => gts_nil) (fun _ _ _ _ _ => (ge_call Z.D_is_label (ok_is_label Z) tk0 (hr.mono (by decide)) (ga_cons (gvar 1) ga_nil)))) ga_nil)))))), ?_⟩
  walk_at "g"
  rw [isi_gen (by exact ht) hm (by decide), ty_tups t hm]
  walk_at "g"
  cases hs : (t == "tuple") with
  | false =>
    walk_at "g"
    refine rt_b ?_ q
    unfold nameD
    cases d <;> first | rfl | (cases ht; done) | (cases ht; rfl) | (cases ht; simp at hs; done)
  | true =>
    have e : t = "tuple" := by simpa using hs
    subst e
    obtain ⟨ds, rfl⟩ : ∃ ds, d = .tup ds := by
      cases d <;> first | exact ⟨_, rfl⟩ | exact absurd (Ty.ty.inj (Option.some.inj ht)) (by decide) | exact absurd rfl (nwt _) | cases ht
    walk_at "g"
    refine LR.mapF ds (fun d => .dat d) (fun d => .bl (labD d)) trivial parts.1 (fun d hd k1 h1 => ?_) ?_
    · obtain ⟨⟨t, ht, hm⟩, sh⟩ := parts.2 d hd
      walk_at "g"
      exact ⟨d, t, rfl, ht, hm, sh, h1⟩
    · rw [rAll_map]
      exact rt_b rfl q
theorem labs_are : ∀ {ds : List D}, ds.all labD = true → ∃ n : List Str, ds = n.map .str
  | [], _ => ⟨[], rfl⟩
  | d :: ds, h => by
    rw [List.all_cons, Bool.and_eq_true] at h
    obtain ⟨n, rfl⟩ := labs_are h.2
    cases d <;> first | exact ⟨_ :: n, rfl⟩ | cases h.1
theorem name_is {d : D} (h : nameD d = true) : ∃ n : List Str, d = .tup (n.map .str) := by
  cases d with
  | tup ds =>
    obtain ⟨n, e⟩ := labs_are (show ds.all labD = true from h)
    exact ⟨n, by rw [e]⟩
  | _ => cases h
/-- a full name, of any value -/
def fullD : D → Bool
  | .tup ds => ds.all labD && !ds.isEmpty
  | _ => false
def gs_is_full : GSp := fun gs S P _ => ∃ (d : D), gs = [.dat d] ∧ okD d ∧ partsD d ∧ (∀ ds, d ≠ .wt ds) ∧ P (.dat (.bl (fullD d))) S
theorem sc_is_full : FnScope ["thing"] ["thing"] (defScope s_is_full) := ⟨rfl, rfl, rfl, by decide +kernel, rfl, by decide +kernel, by decide +kernel⟩
theorem ok_is_full (Z : Fx K mg) : FnOk P w K mg base (L2.CX P w) 6 Z.f_is_full Z.fd_is_full ["thing"] (spG K (gs_is_full)) := by
  have nd := sc_is_full.nd
  refine okG Z.D_is_full.F sc_is_full (fun gs S Pg Xg h => ?_) (fun cdv A outer s H E gs S Pg Xg hr h => ?_)
  · obtain ⟨d, rfl, _⟩ := h
    rfl
  obtain ⟨d, rfl, okd, parts, nwt, q⟩ := h
  refine ⟨_, (gss_one (gs_ret (ge_and (ge_call Z.D_is_name (ok_is_name Z) (takes_of rfl rfl rfl rfl) (hr.mono (by decide)) (ga_cons (gvar 0) ga_nil)) (ge_one (ge_cmp (one_ hr) (gvar 0) (ge_tup ga_nil) (nomark _)))))), ?_⟩
  walk_at "g"
  refine ⟨d, rfl, okd, parts, nwt, ?_⟩
  walk_at "g"
  refine if_b (fun c => ?_) fun c => ?_
  · obtain ⟨n, rfl⟩ := name_is c
    refine ⟨by decide, Eq.mpr (Enc.nm.rne (by decide) n []) (rt_b ?_ q)⟩
    simp only [nameD] at c
    unfold fullD
    simp only [c, Bool.true_and]
    cases n <;> rfl
  · refine rt_b ?_ q
    cases d <;> first | rfl | (simp only [nameD] at c; simp only [fullD, nameD, c, Bool.false_and])
/-- one part of what are_names asks -/
def partB (k : Nat) : D → Bool
  | .tup ds => fullD (.tup ds) && decide (ds.length ≤ k)
  | _ => false
def nmOf : D → List Str
  | .tup ds => ds.filterMap fun d => match d with
    | .str x => some x
    | _ => none
  | _ => []
def areNames (m k : Nat) (ds : List D) : Bool := decide (ds.length ≤ m) && ds.all (partB k) && decide (ds.map nmOf).Nodup
theorem nmOf_nm (n : List Str) : nmOf (.tup (n.map .str)) = n := by
  show (n.map D.str).filterMap _ = n
  rw [List.filterMap_map]
  exact List.filterMap_some
theorem parts_are {k : Nat} : ∀ {ds : List D}, ds.all (partB k) = true → ∃ ls : List (List Str), ds = ls.map fun n => .tup (n.map .str)
  | [], _ => ⟨[], rfl⟩
  | d :: ds, h => by
    rw [List.all_cons, Bool.and_eq_true] at h
    obtain ⟨ls, rfl⟩ := parts_are h.2
    cases d with
    | tup es =>
      have h1 := (Bool.and_eq_true_iff.mp (show (fullD (.tup es) && decide (es.length ≤ k)) = true from h.1)).1
      obtain ⟨n, rfl⟩ := labs_are (Bool.and_eq_true_iff.mp (show (es.all labD && !es.isEmpty) = true from h1)).1
      exact ⟨n :: ls, rfl⟩
    | _ => cases h.1
theorem names_of {m k : Nat} {ls : List (List Str)} (hm : (ls.map fun n : List Str => D.tup (n.map D.str)).length ≤ m) (h : (ls.map fun n : List Str => D.tup (n.map D.str)).all (partB k) = true) : areNames m k (ls.map fun n => .tup (n.map .str)) = decide ls.Nodup := by
  unfold areNames
  rw [decide_eq_true hm, h, Bool.true_and, Bool.true_and, List.map_map]
  have : (nmOf ∘ fun n : List Str => D.tup (n.map D.str)) = id := funext nmOf_nm
  rw [this, List.map_id]
/-- what may be asked of it -/
def askD (d : D) : Prop := okD d ∧ partsD d ∧ ∀ ds, d ≠ .wt ds
/-- neither a list nor a tuple -/
inductive NoSeq (K : PySem.W.Frag) (S : Sto) : G → Prop
  | ty {x : G} {t : String} (e : tyG S x = some (.ty t)) (h : t ∈ tyNames) (n1 : t ≠ "list") (n2 : t ≠ "tuple") : NoSeq K S x
  | own {x : G} {C : Addr} (e : tyG S x = some (.own C)) (h : OwnC K C) : NoSeq K S x
theorem ty_noseq : ∀ t ∈ tyNames, t ≠ "list" → t ≠ "tuple" → (isB t "list" || isB t "tuple") = false := by decide
theorem isi_own2 {S : Sto} {x : G} {P : G → Sto → Prop} {C : Addr} (e : tyG S x = some (.own C)) (o : OwnC K C) : rIsi_ K [x, .dat (.tup [.val (.ty "list"), .val (.ty "tuple")])] S P = P (.dat (.bl false)) S := by
  simp only [rIsi_, e, oneCl]
  apply propext
  exact ⟨fun h => h.2.2.2, fun h => ⟨fun C' z => by cases z; exact o, by decide, by decide, h⟩⟩
theorem isi_noseq {S : Sto} {x : G} {P : G → Sto → Prop} (h : NoSeq K S x) : rIsi_ K [x, .dat (.tup [.val (.ty "list"), .val (.ty "tuple")])] S P = P (.dat (.bl false)) S := by
  cases h with
  | ty e h n1 n2 => rw [isi_gen2 e h (by decide) (by decide), ty_noseq _ h n1 n2]
  | own e h => exact isi_own2 e h
def gs_are_names (Z : Fx K mg) : GSp := fun gs S P _ => (∃ (x : G) (ds : List D) (m k : Nat), gs = [x, .dat (.int m), .dat (.int k)] ∧ m < 64 ∧ ds.length ≤ 100000 ∧ (ds.length ≤ m → ∀ d ∈ ds, askD d) ∧ (x = .dat (.lst ds) ∨ x = .dat (.tup ds) ∨ ∃ p, x = .loc p ∧ S p = some (.lst (ds.map .dat))) ∧ P (.dat (.bl (areNames m k ds))) S) ∨
  ∃ (x : G) (m k : Nat), gs = [x, .dat (.int m), .dat (.int k)] ∧ NoSeq K S x ∧ P (.dat (.bl false)) S
theorem lab_len {x : Str} (h : isLab x = true) : x.length ≤ 8 := by
  unfold isLab at h
  simp only [Bool.and_eq_true, decide_eq_true_eq] at h
  exact h.1.2

def gs_is_value : GSp := fun gs S P _ => ∃ (d : D) (t : String), gs = [.dat d] ∧ tyD d = some (.ty t) ∧ t ∈ tyNames ∧ P (.dat (.bl (numD 1000 d))) S
theorem sc_is_value : FnScope ["thing"] ["thing"] (defScope s_is_value) := ⟨rfl, rfl, rfl, by decide +kernel, rfl, by decide +kernel, by decide +kernel⟩
theorem ok_is_value (Z : Fx K mg) : FnOk P w K mg base (L2.CX P w) 6 Z.f_is_value Z.fd_is_value ["thing"] (spG K (gs_is_value)) := by
  have nd := sc_is_value.nd
  refine okG Z.D_is_value.F sc_is_value (fun gs S Pg Xg h => ?_) (fun cdv A outer s H E gs S Pg Xg hr h => ?_)
  · obtain ⟨d, t, rfl, _⟩ := h
    rfl
  obtain ⟨d, t, rfl, ht, hm, q⟩ := h
  refine ⟨_, (gss_one (gs_ret (ge_call Z.D_is_number (ok_is_number Z) (takes_of rfl rfl rfl rfl) (hr.mono (by decide)) (ga_cons (ge_op opg_add (gglob Z.m_GREATEST_VALUE) gint) (ga_cons (gvar 0) ga_nil))))), ?_⟩
  walk_at "g"
  exact ⟨1000, d, t, rfl, ht, hm, rt_now q⟩
theorem labs_all (n : List Str) : (n.map D.str).all labD = n.all isLab := by
  rw [List.all_map]
  rfl
theorem full_nmD (n : List Str) : fullD (.tup (n.map .str)) = isFull n := by
  unfold fullD isFull
  dsimp only
  rw [labs_all]
  congr 1
  cases n <;> rfl
theorem ask_nm {n : List Str} (h1 : n.length ≤ 1000) (h2 : ∀ x ∈ n, x.length ≤ 1000) : askD (.tup (n.map .str)) := by
  refine ⟨⟨"tuple", rfl, by decide⟩, ⟨by rw [List.length_map]; omega, fun d hd => ?_⟩, fun _ => nofun⟩
  obtain ⟨x, hx, rfl⟩ := List.mem_map.mp hd
  exact ⟨⟨"str", rfl, by decide⟩, Nat.le_trans (h2 x hx) (by decide)⟩
theorem full_nm {n : List Str} {S : Sto} {P : G → Sto → Prop} {E : XP} (h1 : n.length ≤ 1000) (h2 : ∀ x ∈ n, x.length ≤ 1000) (q : P (.dat (.bl (isFull n))) S) : gs_is_full [nm n] S P E := by
  obtain ⟨a, b, c⟩ := ask_nm h1 h2
  exact ⟨_, rfl, a, b, c, by rw [full_nmD]; exact q⟩
abbrev fI : Int → G := fun i => .dat (.int i)
/-- one pair of which a zone can be made -/
def okEnt (p : List L2.Key × D) : Bool := fullD (keyT p.1) && numD 1000 p.2
def okTabD (t : List (List L2.Key × D)) : Bool := decide (t.length ≤ 30) && t.all okEnt
/-- a thing of which a zone is to be made -/
inductive ThingZ (K : PySem.W.Frag) (S : Sto) : G → Option (List (List L2.Key × D)) → Prop
  | tab {v : Addr} {t : List (List L2.Key × D)} (e : S v = some (.dct (tabD t))) (few : t.length ≤ 1000) (once : (t.map (·.1)).Nodup) (ask : ∀ p ∈ t, askD (keyT p.1) ∧ okD p.2) : ThingZ K S (.loc v) (some t)
  | raw {x : G} {kd vd : D} (r : RawOne S x kd vd) (leaf : leafK kd = true) : ThingZ K S x none
  | ty {x : G} {t : String} (e : tyG S x = some (.ty t)) (h : t ∈ tyNames) (n : isB t "dict" = false) : ThingZ K S x none
  | own {x : G} {C : Addr} (e : tyG S x = some (.own C)) (h : OwnC K C) : ThingZ K S x none
def zonB : Option (List (List L2.Key × D)) → Bool
  | some t => okTabD t
  | none => false
theorem tab_pairs (t : List (List L2.Key × D)) : (tabD t).map (fun p => G.dat (keyT p.1)) = t.map fun p => .dat (keyT p.1) := by
  unfold tabD
  rw [List.map_map]
  rfl
theorem isi_raw {K : PySem.W.Frag} {S : Sto} {x : G} {kd vd : D} {P : G → Sto → Prop} (h : RawOne S x kd vd) (q : P (.dat (.bl true)) S) : rIsiR K [x, .dat (.val (.ty "dict"))] S P := .inr ⟨x, kd, vd, rfl, h, q⟩
def gs_are_values (Z : Fx K mg) : GSp := fun gs S P _ => ∃ (x : G) (a : Option (List (List L2.Key × D))), gs = [x] ∧ ThingZ K S x a ∧ P (.dat (.bl (zonB a))) S
theorem datK_tab : ∀ t : List (List L2.Key × D), datK (tabD t) = some t
  | [] => rfl
  | p :: t => by
    show (datK (tabD t)).map ((p.1, p.2) :: ·) = _
    rw [datK_tab t]
    rfl
theorem tabD_len (t : List (List L2.Key × D)) : (tabD t).length = t.length := by
  unfold tabD
  rw [List.length_map]
theorem leaf_full {kd : D} (h : leafK kd = true) : fullD kd = false := by cases kd <;> first | rfl | cases h
theorem leaf_ask {kd : D} (h : leafK kd = true) : askD kd := by
  cases kd with
  | non => exact ⟨⟨"NoneType", rfl, by decide⟩, trivial, fun _ => nofun⟩
  | int i => exact ⟨⟨"int", rfl, by decide⟩, trivial, fun _ => nofun⟩
  | str x => exact ⟨⟨"str", rfl, by decide⟩, trivial, fun _ => nofun⟩
  | _ => cases h
theorem sc_are_values : FnScope ["thing", "name", "value"] ["thing"] (defScope s_are_values) := ⟨rfl, rfl, rfl, by decide +kernel, rfl, by decide +kernel, by decide +kernel⟩
theorem ok_are_values (Z : Fx K mg) : FnOk P w K mg base (L2.CX P w) 8 Z.f_are_values Z.fd_are_values ["thing"] (spG K (gs_are_values Z)) := by
  have nd := sc_are_values.nd
  refine okG Z.D_are_values.F sc_are_values (fun gs S Pg Xg h => ?_) (fun cdv A outer s H E gs S Pg Xg hr h => ?_)
  · obtain ⟨x, a, rfl, _⟩ := h
    rfl
  obtain ⟨x, a, rfl, at_, q⟩ := h
  refine ⟨_, (gss_cons (gs_if (gw_pt (gw_or (gt_not (gt_truth (ge_callB crg_isiR (by rfl) Z.m_isinstance (by decide +kernel) (ga_cons (gvar 0) (ga_cons (gty (n := "dict") Z.m_dict (by decide +kernel)) ga_nil))))) (gw_or1 (gt_cmp opg_gt (ge_callB crD_lenR (by rfl) Z.m_len PySem.boot_len (ga_cons (gvar 0) ga_nil)) (gglob Z.m_MOST_NAMES) (nomark _))))) (gss_one (gs_ret gbl)) gss_nil) (gss_one (gs_ret (ge_callB (crg_all rfl) (by rfl) Z.m_all (by decide +kernel) (ga_cons (ge_or2 (ge_lock (ge_lc (own := [("name", 1), ("value", 2)]) (T := .many [1, 2]) finF_ok (by decide) rfl nd (gi_pairs (gvar 0)) (blkOk_by (N := ["thing", "name", "value"]) (sc := defScope s_are_values) (by decide +kernel)) (fun _ _ _ _ _ => pg_tup rfl (pgs_cons (pg_name (i := 1) nd rfl (Or.inl rfl)) (pgs_cons (pg_name (i := 2) nd rfl (Or.inl rfl)) pgs_nil))) (fun _ _ _ _ _ => gts_nil) (fun _ _ _ _ _ => (ge_and (ge_call Z.D_is_full (ok_is_full Z) tk0 (hr.mono (by decide)) (ga_cons (gvar 1) ga_nil)) (ge_one (ge_call Z.D_is_value (ok_is_value Z) tk0 (hr.mono (by decide)) (ga_cons (gvar 2) ga_nil))))))) (ge_lc (own := [("name", 1), ("value", 2)]) (T := .many [1, 2]) finF_ok (by decide) rfl nd (gi_pairsO (gvar 0)) (blkOk_by (N := ["thing", "name", "value"]) (sc := defScope s_are_values) (by decide +kernel)) (fun _ _ _ _ _ => pg_tup rfl (pgs_cons (pg_name (i := 1) nd rfl (Or.inl rfl)) (pgs_cons (pg_name (i := 2) nd rfl (Or.inl rfl)) pgs_nil))) (fun _ _ _ _ _ => gts_nil) (fun _ _ _ _ _ => (ge_and (ge_call Z.D_is_full (ok_is_full Z) tk0 (hr.mono (by decide)) (ga_cons (gvar 1) ga_nil)) (ge_one (ge_call Z.D_is_value (ok_is_value Z) tk0 (hr.mono (by decide)) (ga_cons (gvar 2) ga_nil))))))) ga_nil))))), ?_⟩
  cases at_ with
  | ty e h n =>
    walk_at "g"
    refine .inl ?_
    rw [isi_gen e h (by decide), n]
    walk_at "g"
    exact rt_now q
  | own e h =>
    walk_at "g"
    refine .inl ?_
    rw [isi_own e h (by decide)]
    walk_at "g"
    exact rt_now q
  | @raw _ kd vd r leaf =>
    obtain ⟨d, o, rfl, hd, lo, one⟩ := r
    walk_at "g"
    refine isi_raw ⟨d, o, rfl, hd, lo, one⟩ ?_
    walk_at "g"
    refine .inr ⟨_, kd, vd, rfl, ⟨d, o, rfl, hd, lo, one⟩, ?_⟩
    walk_at "g"
    refine if_dec (fun c => by omega) fun c => Later.go ?_
    walk_at "g"
    refine .inr ?_
    walk_at "g"
    refine ⟨d, o, kd, vd, rfl, hd, lo, one, ?_⟩
    refine LR.mapF [(kd, vd)] (fun p => .dat (.tup [p.1, p.2])) (fun p => .bl false) hd (by show 1 ≤ 100000; decide) (fun p hp k1 h1 => ?_) ?_
    · obtain rfl := List.mem_singleton.mp hp
      walk_at "g"
      obtain ⟨a1, a2, a3⟩ := leaf_ask leaf
      refine ⟨kd, rfl, a1, a2, a3, ?_⟩
      rw [leaf_full leaf]
      walk_at "g"
      exact h1
    · rw [rAll_map]
      exact rt_b rfl q
  | @tab v t e few once ask =>
    walk_at "g"
    refine .inl ?_
    rw [isi_dd e]
    walk_at "g"
    refine .inl ?_
    rw [rDLen_at (dctOf_loc e), tabD_len]
    walk_at "g"
    refine if_dec (fun c => rt_b ?_ q) fun c => Later.go ?_
    · show false = okTabD t
      unfold okTabD
      rw [decide_eq_false (by omega : ¬ t.length ≤ 30)]
      rfl
    walk_at "g"
    refine .inl ?_
    walk_at "g"
    refine ⟨v, _, e, fun od ks => ?_⟩
    walk_at "g"
    rw [datK_tab]
    dsimp only
    refine LR.mapF t (fun p => .dat (.tup [keyT p.1, p.2])) (fun p => .bl (okEnt p)) sup_same (by omega) (fun p hp k1 h1 => ?_) ?_
    · obtain ⟨⟨a1, a2, a3⟩, ⟨y, b1, b2⟩⟩ := ask p hp
      walk_at "g"
      refine ⟨_, rfl, a1, a2, a3, ?_⟩
      walk_at "g"
      refine if_b (fun c => ⟨_, y, rfl, b1, b2, ?_⟩) fun c => ?_
      · unfold okEnt at h1
        rw [c, Bool.true_and] at h1
        exact h1
      · unfold okEnt at h1
        rw [c, Bool.false_and] at h1
        rw [c]
        exact h1
    · refine ⟨sup_same, ?_⟩
      rw [unlock e, rAll_map]
      refine rt_b ?_ q
      show _ = okTabD t
      unfold okTabD
      rw [decide_eq_true (by omega : t.length ≤ 30), Bool.true_and]
def okTab (t : List (List Str × Int)) : Bool := decide (t.length ≤ 30) && t.all fun p => isFull p.1 && decide (0 ≤ p.2 ∧ p.2 < 1000)
abbrev entI (p : List Str × Int) : List L2.Key × D := (kN p.1, .int p.2)
theorem keys_name : ∀ {k : List L2.Key} {n : List Str}, k.map keyD = n.map D.str → k = n.map .inr
  | [], [], _ => rfl
  | [], _ :: _, h => by cases h
  | _ :: _, [], h => by cases h
  | y :: k, x :: n, h => by
    rw [List.map_cons, List.map_cons] at h
    obtain ⟨h1, h2⟩ := List.cons.inj h
    rw [List.map_cons, ← keys_name h2]
    cases y with
    | inl i => cases h1
    | inr z => cases h1; rfl
theorem key_name {k : List L2.Key} {n : List Str} (h : keyT k = .tup (n.map .str)) : k = kN n := keys_name (D.tup.inj h)
theorem full_name {d : D} (h : fullD d = true) : ∃ n : List Str, d = .tup (n.map .str) ∧ isFull n = true := by
  cases d with
  | tup ds =>
    have h' := h
    unfold fullD at h'
    dsimp only at h'
    rw [Bool.and_eq_true] at h'
    obtain ⟨n, rfl⟩ := labs_are h'.1
    exact ⟨n, rfl, by rw [← full_nmD]; exact h⟩
  | _ => cases h
theorem num_is {m : Int} {d : D} (h : numD m d = true) : ∃ i : Int, d = .int i ∧ 0 ≤ i ∧ i < m := by
  cases d with
  | int i =>
    have h : 0 ≤ i ∧ i < m := of_decide_eq_true h
    exact ⟨i, rfl, h⟩
  | _ => cases h
theorem ents_are : ∀ {t : List (List L2.Key × D)}, t.all okEnt = true → ∃ u : List (List Str × Int), t = u.map entI ∧ (u.all fun p => isFull p.1 && decide (0 ≤ p.2 ∧ p.2 < 1000)) = true
  | [], _ => ⟨[], rfl, rfl⟩
  | (k, d) :: t, h => by
    rw [List.all_cons, Bool.and_eq_true] at h
    obtain ⟨u, rfl, hu⟩ := ents_are h.2
    obtain ⟨h1, h2⟩ := Bool.and_eq_true_iff.mp (show (fullD (keyT k) && numD 1000 d) = true from h.1)
    obtain ⟨n, e, fn⟩ := full_name h1
    obtain ⟨i, rfl, i0, i1⟩ := num_is h2
    refine ⟨(n, i) :: u, by rw [key_name e]; rfl, ?_⟩
    rw [List.all_cons, hu, fn]
    simp [i0, i1]
theorem tab_ok {t : List (List L2.Key × D)} (h : okTabD t = true) : ∃ u : List (List Str × Int), t = u.map entI ∧ okTab u = true := by
  unfold okTabD at h
  rw [Bool.and_eq_true] at h
  obtain ⟨u, rfl, hu⟩ := ents_are h.2
  refine ⟨u, rfl, ?_⟩
  unfold okTab
  rw [hu, Bool.and_true]
  have := of_decide_eq_true h.1
  rw [List.length_map] at this
  exact decide_eq_true this
theorem tab_ent (u : List (List Str × Int)) : tabD (u.map entI) = tbl fI u := by
  unfold tabD tbl
  rw [List.map_map]
  rfl
theorem kN_inj {a b : List Str} (h : kN a = kN b) : a = b := by
  unfold kN at h
  exact List.map_inj_right (fun x y e => Sum.inr.inj e) |>.mp h
theorem once_ent {u : List (List Str × Int)} (h : ((u.map entI).map (·.1)).Nodup) : (u.map (·.1)).Nodup := by
  rw [List.map_map] at h
  have e : u.map ((fun p : List L2.Key × D => p.1) ∘ entI) = (u.map (·.1)).map kN := by rw [List.map_map]; rfl
  rw [e] at h
  exact h.of_map (f := kN) (fun a b ne z => ne (by rw [z]))
/-- a zone's table, copied -/
theorem copy_tab {K : PySem.W.Frag} {T : Sto → Prop} {P : G → Sto → Prop} {S : Sto} {v : Addr} {t : List (List Str × Int)} {od : Obj} {ks : List (List L2.Key × V)} {Γw : List (Option G)} {gk gv : GR} {i : Nat} (hv : S v = some (.dct (tbl fI t))) (few : t.length ≤ 1000) (once : Once t)
    (st : T (sup S v (.dlk od ks (tbl fI t))))
    (turn : ∀ p ∈ t, ∀ (k1 : G → G → Sto → Prop), k1 (nm p.1) (fI p.2) (sup S v (.dlk od ks (tbl fI t))) → gk (Γw.set i (some (nm p.1))) (sup S v (.dlk od ks (tbl fI t))) (fun y S4 => gv (Γw.set i (some (nm p.1))) S4 (fun z S5 => k1 y z S5) never) never)
    (q : ∀ w, S w = none → w ≠ v → P (.loc w) (sup (sup S v (.dlk od ks (tbl fI t))) w (.dct (tbl fI t)))) :
    DR (.one i) gYes gk gv Γw T P ((tbl fI t).map fun p => .dat (keyT p.1)) [] (sup S v (.dlk od ks (tbl fI t))) := by
  rw [tbl_keys]
  refine DR.map (T := .one i) (gk := gk) (gv := gv) (Γw := Γw) st (fun p : List Str × Int => nm p.1) (fun p => kN p.1) (fun p => fI p.2) t [] (by simp; omega) (fun p hp k1 h1 => turn p hp k1 (h1 _ keyG_nm)) fun w hw => ?_
  obtain ⟨n1, n2⟩ := sup_none hw
  have e : mergeL [] (t.map fun p => (kN p.1, fI p.2)) = tbl fI t := by
    have := tbl_merge (f := fI) t []
    rw [merge_self t [] (by simpa using once)] at this
    exact this
  rw [e]
  exact q w n1 n2
theorem copy_in {S : Sto} {v w : Addr} {o d : O} (h : w ≠ v) : sup (sup S v o) w d v = some o := by rw [sup_ne (Ne.symm h), sup_same]
theorem copy_out {S : Sto} {v w : Addr} {o d u : O} (h : w ≠ v) (hv : S v = some u) : sup (sup (sup S v o) w d) v u = sup S w d := by rw [sup_sw h, unlock hv]
def ZoneAt (Z : Fx K mg) (S : Sto) (z v : Addr) (t : List (List Str × Int)) : Prop := S z = some (.ins Z.C_Zone [("_values", .loc v)]) ∧ S v = some (.dct (tbl fI t))
theorem ZoneAt.ne {Z : Fx K mg} {S : Sto} {z v : Addr} {t : List (List Str × Int)} (h : ZoneAt Z S z v t) : z ≠ v := fun e => by
  obtain ⟨h1, h2⟩ := h
  rw [e, h2] at h1
  cases h1
theorem zone_fld {Z : Fx K mg} {S : Sto} {z v : Addr} (h : S z = some (.ins Z.C_Zone [("_values", .loc v)])) : fldOf S "_values" (.loc z) = some (Z.C_Zone, .loc v) := by
  rw [fldOf_loc h]
  rfl
def gs_Zone_init (Z : Fx K mg) : GSp := fun gs S P X => ∃ (z : Addr) (x : G) (a : Option (List (List L2.Key × D))), gs = [.loc z, x] ∧ S z = some (.ins Z.C_Zone []) ∧ ThingZ K S x a ∧ (zonB a = false → X Z.C_Wrong [("place", .int 0)] (sdel S z)) ∧
  ∀ u : List (List Str × Int), a = some (u.map entI) → okTab u = true → Once u → ∀ w, S w = none → P (.dat .non) (sup (sup S w (.dct (tbl fI u))) z (.ins Z.C_Zone [("_values", .loc w)]))
theorem sc_Zone_init : FnScope ["self", "values", "name"] ["self", "values"] (defScope s_Zone_init) := ⟨rfl, rfl, rfl, by decide +kernel, rfl, by decide +kernel, by decide +kernel⟩
theorem ok_Zone_init (Z : Fx K mg) : FnOk P w K mg base (L2.CX P w) 10 Z.g_Zone_init Z.gd_Zone_init ["self", "values"] (spG K (gs_Zone_init Z)) := by
  have nd := sc_Zone_init.nd
  refine okG Z.F_Zone_init sc_Zone_init (fun gs S Pg Xg h => ?_) (fun cdv A outer s H E gs S Pg Xg hr h => ?_)
  · obtain ⟨z, x, a, rfl, _⟩ := h
    rfl
  obtain ⟨z, x, a, rfl, hz, at_, bad, good⟩ := h
  refine ⟨_, (gss_cons (gs_if (gt_not (gt_truth (ge_call Z.D_are_values (ok_are_values Z) (takes_of rfl rfl rfl rfl) (hr.mono (by decide)) (ga_cons (gvar 1) ga_nil)))) (gss_one (gs_raise rfl (takes_of rfl rfl rfl rfl) (ei_Wrong Z) (hr.mono (by decide)) (ga_cons gint ga_nil))) gss_nil) (gss_one (gs_sto (gvar 0) (ge_lock (ge_dc (own := [("name", 2)]) (T := .one 2) hr (by decide) rfl nd (gi_keys (gvar 1)) (blkOk_by (N := ["self", "values", "name"]) (sc := defScope s_Zone_init) (by decide +kernel)) (fun _ _ _ _ _ => gb_one (i := 2) nd rfl (Or.inl rfl)) (fun _ _ _ _ _ => gts_nil) (fun _ _ _ _ _ => (gvar 2)) (fun _ _ _ _ _ => (ge_dget hr (gvar 1) (gvar 2)))))))), ?_⟩
  walk_at "g"
  refine ⟨x, a, rfl, at_, ?_⟩
  cases ok : zonB a with
  | false =>
    walk_at "g"
    exact ⟨_, sub_del S z, bad ok⟩
  | true =>
  walk_at "g"
  refine Later.go ?_
  cases at_ with
  | ty e h n => cases ok
  | own e h => cases ok
  | raw r leaf => cases ok
  | @tab v t hv few once ask =>
  obtain ⟨u, rfl, oku⟩ := tab_ok ok
  have o1 := once_ent once
  rw [tab_ent] at hv
  rw [List.length_map] at few
  walk_at "g"
  refine ⟨v, _, hv, fun od ks => ?_⟩
  walk_at "g"
  refine copy_tab (K := K) hv few o1 ?_ (fun p hp k1 h1 => ?_) fun w nw ne => ?_
  · exact sup_same
  · walk_at "g"
    rw [rDGet_at dct_sup dkey_nm, tbl_look, look_at o1 hp]
    exact h1
  · have hw : w ≠ z := fun e => by rw [e, hz] at nw; cases nw
    refine ⟨copy_in ne, ?_⟩
    rw [copy_out ne hv, sup_ne (Ne.symm hw), hz]
    refine ⟨⟨Z.cl_Zone, Z.na_Zone__values, by decide⟩, nx_now ?_⟩
    exact good u rfl oku o1 w nw
def gs_Zone_contains (Z : Fx K mg) : GSp := fun gs S P _ => ∃ (z v : Addr) (t : List (List Str × Int)) (n : List Str), gs = [.loc z, nm n] ∧ ZoneAt Z S z v t ∧ n.length ≤ 1000 ∧ (∀ x ∈ n, x.length ≤ 1000) ∧ P (.dat (.bl (isFull n && (look t n).isSome))) S
theorem sc_Zone_contains : FnScope ["self", "x"] ["self", "x"] (defScope s_Zone_contains) := ⟨rfl, rfl, rfl, by decide +kernel, rfl, by decide +kernel, by decide +kernel⟩
theorem ok_Zone_contains (Z : Fx K mg) : FnOk P w K mg base (L2.CX P w) 8 Z.g_Zone_contains Z.gd_Zone_contains ["self", "x"] (spG K (gs_Zone_contains Z)) := by
  have nd := sc_Zone_contains.nd
  refine okG Z.F_Zone_contains sc_Zone_contains (fun gs S Pg Xg h => ?_) (fun cdv A outer s H E gs S Pg Xg hr h => ?_)
  · obtain ⟨z, v, t, n, rfl, _⟩ := h
    rfl
  obtain ⟨z, v, t, n, rfl, ⟨hz, hv⟩, h1, h2, q⟩ := h
  refine ⟨_, (gss_one (gs_ret (ge_and (ge_call Z.D_is_full (ok_is_full Z) (takes_of rfl rfl rfl rfl) (hr.mono (by decide)) (ga_cons (gvar 1) ga_nil)) (ge_one (ge_cmp (opD_in hr) (gvar 1) (ge_fld (gvar 0)) (by rfl)))))), ?_⟩
  walk_at "g"
  refine full_nm h1 h2 ?_
  walk_at "g"
  rw [zone_fld hz]
  refine if_b (fun c => ⟨⟨Z.cl_Zone, Z.na_Zone__values⟩, ?_⟩) fun c => rt_b ?_ q
  · rw [rDIn_at (dctOf_loc hv) dkey_nm, tbl_look, Option.isSome_map]
    exact rt_b (by rw [c]; rfl) q
  · rw [c]
    rfl
def gs_Zone_getitem (Z : Fx K mg) : GSp := fun gs S P _ => ∃ (z v : Addr) (t : List (List Str × Int)) (n : List Str) (i : Int), gs = [.loc z, nm n] ∧ ZoneAt Z S z v t ∧ n.length ≤ 1000 ∧ (∀ x ∈ n, x.length ≤ 1000) ∧ isFull n = true ∧ look t n = some i ∧ P (.dat (.int i)) S
theorem sc_Zone_getitem : FnScope ["self", "at"] ["self", "at"] (defScope s_Zone_getitem) := ⟨rfl, rfl, rfl, by decide +kernel, rfl, by decide +kernel, by decide +kernel⟩
theorem ok_Zone_getitem (Z : Fx K mg) : FnOk P w K mg base (L2.CX P w) 10 Z.g_Zone_getitem Z.gd_Zone_getitem ["self", "at"] (spG K (gs_Zone_getitem Z)) := by
  have nd := sc_Zone_getitem.nd
  refine okG Z.F_Zone_getitem sc_Zone_getitem (fun gs S Pg Xg h => ?_) (fun cdv A outer s H E gs S Pg Xg hr h => ?_)
  · obtain ⟨z, v, t, n, i, rfl, _⟩ := h
    rfl
  obtain ⟨z, v, t, n, i, rfl, ⟨hz, hv⟩, h1, h2, full, hi, q⟩ := h
  refine ⟨_, (gss_cons (gs_if (gt_cmp (opO_nin Z.du_Zone_contains (FnOk.c (ok_Zone_contains Z) Z.b_Zone_contains (tk0 (X := _)) (hr.mono (by decide)))) (gvar 1) (gvar 0) (by rfl)) (gss_one gs_never) gss_nil) (gss_one (gs_ret (ge_dget hr (ge_fld (gvar 0)) (gvar 1))))), ?_⟩
  walk_at "g"
  refine ⟨by rw [isOf_loc hz], z, v, t, n, rfl, ⟨hz, hv⟩, h1, h2, _, rfl, ?_⟩
  rw [full, hi]
  walk_at "g"
  refine Later.go ?_
  walk_at "g"
  rw [zone_fld hz]
  refine ⟨⟨Z.cl_Zone, Z.na_Zone__values⟩, ?_⟩
  rw [rDGet_at (dctOf_loc hv) dkey_nm, tbl_look, hi]
  exact rt_now q
def gs_Zone_names (Z : Fx K mg) : GSp := fun gs S P _ => ∃ (z v : Addr) (t : List (List Str × Int)), gs = [.loc z] ∧ ZoneAt Z S z v t ∧ t.length ≤ 1000 ∧ (∀ p ∈ t, isFull p.1 = true) ∧ P (nms ((t.map (·.1)).mergeSort (leD nmQ))) S
theorem full_some {n : List Str} (h : isFull n = true) : n ≠ [] := fun z => by
  rw [z] at h
  cases h
theorem sc_Zone_names : FnScope ["self"] ["self"] (defScope s_Zone_names) := ⟨rfl, rfl, rfl, by decide +kernel, rfl, by decide +kernel, by decide +kernel⟩
theorem ok_Zone_names (Z : Fx K mg) : FnOk P w K mg base (L2.CX P w) 2 Z.g_Zone_names Z.gd_Zone_names ["self"] (spG K (gs_Zone_names Z)) := by
  have nd := sc_Zone_names.nd
  refine okG Z.F_Zone_names sc_Zone_names (fun gs S Pg Xg h => ?_) (fun cdv A outer s H E gs S Pg Xg hr h => ?_)
  · obtain ⟨z, v, t, rfl, _⟩ := h
    rfl
  obtain ⟨z, v, t, rfl, ⟨hz, hv⟩, few, full, q⟩ := h
  refine ⟨_, (gss_one (gs_ret (ge_callB (crg_sort hr) (by rfl) Z.m_sorted (by decide +kernel) (ga_cons (ge_callTy (crD_list rfl) (by rfl) Z.m_list (by decide +kernel) (ga_cons (ge_fld (gvar 0)) ga_nil)) ga_nil)))), ?_⟩
  walk_at "g"
  rw [zone_fld hz]
  refine ⟨⟨Z.cl_Zone, Z.na_Zone__values⟩, ?_⟩
  rw [rDList_at (dctOf_loc hv)]
  refine ⟨List Str, t.map (·.1), fun n => .tup (n.map .str), nmQ, ?_, srt_names (fun n hn => ?_) (by rw [List.length_map]; omega), rt_now q⟩
  · rw [dlst_lst', List.map_map]
    unfold tbl
    rw [List.map_map]
    exact congrArg some (List.map_congr_left fun p _ => keyT_nm)
  · obtain ⟨p, hp, rfl⟩ := List.mem_map.mp hn
    exact full_some (full p hp)

theorem scTake : FnScope ["_law_bag_here", "_law_many", "_law_cell", "_law_more", "_law_drawn"] ["_law_bag_here", "_law_many"] (defScope s_law_take) := ⟨rfl, rfl, rfl, by decide +kernel, rfl, by decide +kernel, by decide +kernel⟩
theorem ok_take {f : Addr} {fd : FuncData} (F : Fun K "_law_take" "_law_take" s_law_take f fd) (ml : mg "len" = none) (mi : mg "int" = none) : FnOk P w K mg base CX0 1 f fd ["_law_bag_here", "_law_many"] spTake := by
  refine F.ok scTake (fun vs H Q E h => ?_) (fun cdv A outer s H vs Q E hr h => ?_)
  · obtain ⟨b, bc, m, rfl, _⟩ := h
    rfl
  obtain ⟨b, c, m, rfl, bag, m1, m2, q⟩ := h
  have nd := scTake.nd
  refine ⟨_, C8.pss_cut (ps_if (pt_cmpR op_eq (pe_ix ix_list (pv 0) pe_int (fun _ _ => rfl)) pe_int (nomark _))
      (pss_cons (ps_set (i := 2) nd rfl (.inl rfl) pe_int)
      (C8.pss_cut (ps_if (pt_cmpR op_lt (pe_ix ix_list (pv 0) pe_int (fun _ _ => rfl)) (pe_callB call_len_seq (by rfl) ml PySem.boot_len (pa_cons (pe_ix ix_list (pv 0) pe_int (fun _ _ => rfl)) pa_nil)) (nomark _))
        (pss_one (ps_set (i := 2) nd rfl (.inl rfl) (pe_ix ix_list (pe_ix ix_list (pv 0) pe_int (fun _ _ => rfl)) (pe_ix ix_list (pv 0) pe_int (fun _ _ => rfl)) (fun _ _ => rfl)))) pss_nil)
      (pss_cons (ps_augS (pv 0) pe_int get_list pe_int L2.ip_add set_list)
      (C8.pss_cut (ps_if (pt_cmpR op_ge (pv 2) pe_int (nomark _)) (pss_one (ps_asg (pv 2) (pg_sub (pv 0) pe_int set_list))) pss_nil)
      (pss_cons (ps_set (i := 3) nd rfl (.inl rfl) (pe_op op_add (pe_op op_mod (pe_callTy call_int1 (by rfl) mi (by decide +kernel) (pa_cons (pv 2) pa_nil)) pe_int)
          (pe_op op_mul pe_int (pe_ix ix_list (pv 0) pe_int (fun _ _ => rfl)))))
      (pss_one (ps_asg (pe_op op_mod (pe_callTy call_int1 (by rfl) mi (by decide +kernel) (pa_cons (pe_op op_add (pe_op op_mul (pe_ix ix_list (pv 0) pe_int (fun _ _ => rfl)) pe_int) (pv 3)) pa_nil)) pe_int) (pg_sub (pv 0) pe_int set_list)))))))) pss_nil)
    (pss_cons (ps_if (pt_cmpR op_gt (pe_ix ix_list (pv 0) pe_int (fun _ _ => rfl)) pe_int (nomark _))
      (pss_cons (ps_set (i := 4) nd rfl (.inl rfl) (pe_op op_mod (pe_callTy call_int1 (by rfl) mi (by decide +kernel) (pa_cons (pe_ix ix_list (pv 0) pe_int (fun _ _ => rfl)) pa_nil)) (pv 1)))
      (pss_cons (ps_asg (pe_op op_fdiv (pe_ix ix_list (pv 0) pe_int (fun _ _ => rfl)) (pv 1)) (pg_sub (pv 0) pe_int set_list)) (pss_one (ps_ret (pv 4))))) pss_nil)
    (C8.pss_cut (ps_asg (pe_op op_mod (pe_callTy call_int1 (by rfl) mi (by decide +kernel) (pa_cons (pe_op op_add (pe_op op_mul (pe_ix ix_list (pv 0) pe_int (fun _ _ => rfl)) pe_int) pe_int) pa_nil)) pe_int) (pg_sub (pv 0) pe_int set_list))
    (pss_one (ps_ret (pe_op op_mod (pe_callTy call_int1 (by rfl) mi (by decide +kernel) (pa_cons (pe_op op_fdiv (pe_ix ix_list (pv 0) pe_int (fun _ _ => rfl)) pe_int) pa_nil)) (pv 1)))))), ?_⟩
  obtain ⟨x0, x1, x2, ns, hcb, hb, hc, h1, h2, h3⟩ := bag
  let G : Int → Int → Int → Hp := fun x0 x1 x2 => upd H b (.lst [.int x0, .int x1, .int x2, .ref c])
  have gc : ∀ x0 x1 x2, G x0 x1 x2 c = some (.lst (ns.map V.int)) := fun x0 x1 x2 => (upd_ne hcb).trans hc
  have gb : ∀ x0 x1 x2, G x0 x1 x2 b = some (.lst [.int x0, .int x1, .int x2, .ref c]) := fun x0 x1 x2 => upd_same
  have st : ∀ x0 x1 x2 z0 z1 z2, upd (G x0 x1 x2) b (.lst [.int z0, .int z1, .int z2, .ref c]) = G z0 z1 z2 := fun _ _ _ _ _ _ => upd_upd
  have g0 : H = G x0 x1 x2 := (upd_own hb).symm
  have dr : ∀ z0 z1 z2, 0 ≤ z1 → z1 < 2147483647 → 0 ≤ z2 → Drew b c H (G z0 z1 z2) := fun z0 z1 z2 k1 k2 k3 =>
    ⟨⟨z0, z1, z2, ns, hcb, gb _ _ _, gc _ _ _, k1, k2, k3⟩, fun a o n e => (upd_ne n).trans e, fun a e z => by
      by_cases ea : a = b
      · rw [ea] at z
        exact absurd ((gb z0 z1 z2).symm.trans z) (Option.some_ne_none _)
      · exact e ((upd_ne (o := .lst [.int z0, .int z1, .int z2, .ref c]) ea).symm.trans z)⟩
  clear_value G
  subst g0
  have modr : ∀ z : Int, 0 ≤ z % 2147483647 ∧ z % 2147483647 < 2147483647 := fun z => ⟨Int.emod_nonneg z (by decide), Int.emod_lt_of_pos z (by decide)⟩
  have nat : ∀ z : Int, ∃ r : Nat, z % (m : Int) = (r : Int) ∧ r < m := fun z => by
    have a1 : 0 ≤ z % (m : Int) := Int.emod_nonneg z (by omega)
    have a2 : z % (m : Int) < (m : Int) := Int.emod_lt_of_pos z (by omega)
    exact ⟨(z % (m : Int)).toNat, by omega, by omega⟩
  refine ⟨fun σ' H' => ∃ y2 y3 z0 z1 z2, σ' = [some (.ref b), some (.int m), y2, y3, none] ∧ H' = G z0 z1 z2 ∧ 0 ≤ z1 ∧ z1 < 2147483647 ∧ 0 ≤ z2, ?_, ?_⟩
  · refine ⟨.ref b, rfl, b, _, 0, _, rfl, rfl, .inl (.inl (gb _ _ _)), rfl, rfl, _, rfl, ite2 (fun _ => ?_) (fun _ => ?_)⟩
    · refine ⟨fun σ' H' => ∃ z, σ' = [some (.ref b), some (.int m), some (.int z), none, none] ∧ H' = G x0 x1 x2, ?_, ?_⟩
      · refine ⟨.ref b, rfl, b, _, 2, _, rfl, rfl, .inl (.inl (gb _ _ _)), rfl, .ref b, rfl, b, _, 3, _, rfl, rfl, .inl (.inl (gb _ _ _)), rfl, c, _, rfl, .inl (.inl (.inl (gc _ _ _))), ?_⟩
        refine ⟨_, _, rfl, rfl, _, rfl, ite2 (fun e => ?_) (fun _ => ⟨0, rfl, rfl⟩)⟩
        have lt := of_decide_eq_true e
        rw [List.length_map] at lt
        obtain ⟨k, rfl⟩ := Int.eq_ofNat_of_zero_le h3
        have hk : k < ns.length := by omega
        refine ⟨.ref b, rfl, b, _, 3, _, rfl, rfl, .inl (.inl (gb _ _ _)), rfl, .ref b, rfl, b, _, 2, _, rfl, rfl, .inl (.inl (gb _ _ _)), rfl, c, _, k, .int ns[k], rfl, rfl, .inl (.inl (gc _ _ _)), atI_nat ?_, ⟨_, rfl, rfl⟩⟩
        rw [List.getElem?_map, List.getElem?_eq_getElem hk]
        rfl
      · rintro _ _ ⟨z, rfl, rfl⟩
        refine ⟨.ref b, rfl, b, _, 2, _, rfl, rfl, by decide, gb _ _ _, rfl, _, _, rfl, rfl, b, _, _, _, rfl, rfl, gb _ _ _, rfl, ?_⟩
        show C8.tCut _ _ _ _ (upd (G x0 x1 x2) b (.lst [.int x0, .int x1, .int (x2 + 1), .ref c]))
        rw [st]
        refine ⟨fun σ' H' => ∃ z z0, σ' = [some (.ref b), some (.int m), some (.int z), none, none] ∧ H' = G z0 x1 (x2 + 1), ?_, ?_⟩
        · refine ⟨_, rfl, _, _, rfl, rfl, _, rfl, ite2 (fun _ => ?_) (fun _ => ⟨_, _, rfl, rfl⟩)⟩
          refine ⟨_, rfl, .ref b, rfl, b, _, 0, _, rfl, rfl, gb _ _ _, rfl, ⟨z, z, rfl, ?_⟩⟩
          exact st _ _ _ _ _ _
        · rintro _ _ ⟨z, z0, rfl, rfl⟩
          refine ⟨_, rfl, .inl ⟨z, rfl, _, _, rfl, rfl, (by show (0 : Int) < 2147483647; decide), .ref b, rfl, b, _, 2, _, rfl, rfl, .inl (.inl (gb _ _ _)), rfl, _, _, rfl, rfl, .inl ⟨by decide, by decide⟩, _, _, rfl, rfl, ?_⟩⟩
          refine ⟨.ref b, rfl, b, _, 1, _, rfl, rfl, .inl (.inl (gb _ _ _)), rfl, _, _, rfl, rfl, .inl ⟨by omega, by omega⟩, _, rfl, _, _, rfl, rfl, .inl ⟨_, rfl, _, _, rfl, rfl, (by show (0 : Int) < 2147483647; decide), ?_⟩⟩
          refine ⟨.ref b, rfl, b, _, 1, _, rfl, rfl, gb _ _ _, rfl, ⟨_, _, z0, _, x2 + 1, rfl, st _ _ _ _ _ _, (modr _).1, (modr _).2, by omega⟩⟩
    · exact ⟨none, none, x0, x1, x2, rfl, rfl, h1, h2, h3⟩
  · rintro _ _ ⟨y2, y3, z0, z1, z2, rfl, rfl, k1, k2, k3⟩
    refine ⟨.ref b, rfl, b, _, 0, _, rfl, rfl, .inl (.inl (gb _ _ _)), rfl, _, _, rfl, rfl, _, rfl, ite2 (fun _ => ?_) (fun _ => ?_)⟩
    · obtain ⟨r, er, hr'⟩ := nat z0
      refine ⟨.ref b, rfl, b, _, 0, _, rfl, rfl, .inl (.inl (gb _ _ _)), rfl, .inl ⟨_, rfl, _, rfl, _, _, rfl, rfl, (by show (0 : Int) < (m : Int); omega), ?_⟩⟩
      refine ⟨.ref b, rfl, b, _, 0, _, rfl, rfl, .inl (.inl (gb _ _ _)), rfl, _, rfl, _, _, rfl, rfl, ⟨by omega, by omega⟩, .ref b, rfl, b, _, 0, _, rfl, rfl, gb _ _ _, rfl, _, rfl, ?_⟩
      show Q (V.int (z0 % (m : Int))) _
      rw [er]
      refine q _ r ?_ hr'
      show Drew b c _ (upd (G z0 z1 z2) b (.lst [.int (z0 / (m : Int)), .int z1, .int z2, .ref c]))
      rw [st]
      exact dr _ _ _ k1 k2 k3
    · refine ⟨fun σ' H' => σ' = [some (.ref b), some (.int m), y2, y3, none] ∧ H' = G z0 ((z1 * 48271 + 11) % 2147483647) z2, ⟨.ref b, rfl, b, _, 1, _, rfl, rfl, .inl (.inl (gb _ _ _)), rfl, _, _, rfl, rfl, .inl ⟨by omega, by omega⟩, _, _, rfl, rfl, .inl ⟨_, rfl, _, _, rfl, rfl, (by show (0 : Int) < 2147483647; decide), ?_⟩⟩, ?_⟩
      · exact ⟨.ref b, rfl, b, _, 1, _, rfl, rfl, gb _ _ _, rfl, rfl, st _ _ _ _ _ _⟩
      rintro _ _ ⟨rfl, rfl⟩
      obtain ⟨r, er, hr'⟩ := nat ((z1 * 48271 + 11) % 2147483647 / 64)
      refine ⟨.ref b, rfl, b, _, 1, _, rfl, rfl, .inl (.inl (gb _ _ _)), rfl, _, _, rfl, rfl, ⟨by decide, by decide⟩, .inl ⟨_, rfl, _, rfl, _, _, rfl, rfl, (by show (0 : Int) < (m : Int); omega), ?_⟩⟩
      show Q (V.int ((z1 * 48271 + 11) % 2147483647 / 64 % (m : Int))) _
      rw [er]
      exact q _ r (dr _ _ _ (modr _).1 (modr _).2 k3) hr'

theorem scBag : FnScope ["_law_script", "_law_cell"] ["_law_script"] (defScope s_law_bag) := ⟨rfl, rfl, rfl, by decide +kernel, rfl, by decide +kernel, by decide +kernel⟩
theorem ok_bag {f : Addr} {fd : FuncData} (F : Fun K "_law_bag" "_law_bag" s_law_bag f fd) (ma : mg "abs" = none) : FnOk P w K mg base CX0 1 f fd ["_law_script"] (spBag K) := by
  refine F.ok scBag (fun vs H Q E h => ?_) (fun cdv A outer s H vs Q E hr h => ?_)
  · obtain ⟨a, ns, rfl, _⟩ := h
    rfl
  obtain ⟨a, ns, rfl, hS, hlen, q⟩ := h
  refine ⟨_, pss_one (ps_ret (pe_lst (pa_cons pe_int (pa_cons pe_int (pa_cons pe_int (pa_cons
    (pe_lc (own := [("_law_cell", 1)]) (g := gName 1) (tt := tYes) rfl scBag.nd (pi_list (pe_slice sl_list (pv 0) po_none (po_some pe_int)))
      (blkOk_by (N := ["_law_script", "_law_cell"]) (sc := defScope s_law_bag) (by decide +kernel)) (fun _ _ _ _ _ => pg_name (i := 1) scBag.nd rfl (Or.inl rfl)) (fun _ _ _ _ _ => pts_nil)
      (fun _ _ _ _ _ => pe_callB call_abs (by rfl) ma (by decide +kernel) (pa_cons (pv 1) pa_nil))) pa_nil)))))), ?_⟩
  refine ⟨.ref a, rfl, 63, rfl, a, _, rfl, hS, fun p np => ?_⟩
  have s1 : Same H (upd H p (.lst (cutV (ns.map V.int) none (some 63)))) := same_put np
  refine ⟨p, rfl, ⟨_, .inl (.inl upd_same)⟩, fun D nD => ?_⟩
  have nDp : D ≠ p := fun e => by rw [e, upd_same] at nD; cases nD
  have s2 := s1.trans (same_put (o := .lst []) nD)
  refine lc_list (K := K) (a := p) (xs := cutV (ns.map V.int) none (some 63))
    (fun i G => ∃ ms : List Int, ms.length = i ∧ G D = some (.lst (ms.map V.int)) ∧ Same H G ∧ G p = some (.lst (cutV (ns.map V.int) none (some 63))))
    ⟨[], rfl, upd_same, s2, by rw [upd_ne nDp.symm]; exact upd_same⟩ (fun i G _ h => .inl (.inl h.choose_spec.2.2.2)) (fun i x G hx h => ?_) (fun G h => ?_)
  · obtain ⟨ms, hm, eD, sm, ep⟩ := h
    have hx' := List.mem_of_getElem? hx
    have : x ∈ ns.map V.int := by
      unfold cutV at hx'
      exact List.mem_of_mem_drop (List.mem_of_mem_take hx')
    obtain ⟨n, _, rfl⟩ := List.mem_map.mp this
    have hi : i < 64 := by
      have h1 := (List.getElem?_eq_some_iff.mp hx).1
      have h2 := cutV_length (ns.map V.int) none (some 63)
      rw [List.length_map] at h2
      omega
    have hn : H D = none := s1.free nD
    refine ⟨rfl, .int n, rfl, n, rfl, ms.map V.int, eD, ?_, ms ++ [if n < 0 then -n else n], ?_, ?_, ?_, ?_⟩
    · rw [List.length_map, hm]
      exact small1000 (by omega)
    · rw [List.length_append, hm]
      rfl
    · rw [upd_same, List.map_append]
      rfl
    · exact fun b o e => by rw [upd_ne (ne_of_none e hn)]; exact sm _ _ e
    · rw [upd_ne nDp.symm]
      exact ep
  · obtain ⟨ms, hm, eD, sm, ep⟩ := h
    refine ⟨by show 4 ≤ sizeLine; decide, fun b nb => ?_⟩
    refine q _ b D (sm.trans (same_put nb)) (sm.free nb) (s1.free nD) ⟨0, 1234567891, 0, ms, ne_of_none eD nb, upd_same, ?_, by decide, by decide, by decide⟩
    rw [upd_ne (ne_of_none eD nb)]
    exact eD

abbrev labP (x : Str) : Prop := isLab x = true

theorem ok_law_take (Z : Fx K mg) : FnOk P w K mg base (L2.CX P w) 1 Z.f_law_take Z.fd_law_take ["_law_bag_here", "_law_many"] (spG K gs_take) := (FnOk.cx (ok_take Z.D_law_take.F Z.m_len Z.m_int)).imp take_g
theorem ok_law_bag (Z : Fx K mg) : FnOk P w K mg base (L2.CX P w) 1 Z.f_law_bag Z.fd_law_bag ["_law_script"] (spG K gs_bag) := (FnOk.cx (ok_bag Z.D_law_bag.F Z.m_abs)).imp bag_g
/-- a draw -/
theorem take_of {S : Sto} {P : G → Sto → Prop} {E : XP} {b : Addr} {m : Nat} (hb : S b = some .bag) (h1 : 1 ≤ m) (h2 : m < 1073741824) (h : ∀ r : Nat, r < m → P (.dat (.int r)) S) : gs_take [.loc b, .dat (.int m)] S P E := ⟨b, m, rfl, hb, h1, h2, h⟩
theorem take_n (m : Nat) {S : Sto} {P : G → Sto → Prop} {E : XP} {b : Addr} {i : Int} (hb : S b = some .bag) (h : ∀ r : Nat, r < m → P (.dat (.int r)) S) (e : i = (m : Int) := by rfl) (h1 : 1 ≤ m := by decide) (h2 : m < 1073741824 := by decide) : gs_take [.loc b, .dat (.int i)] S P E := e ▸ ⟨b, m, rfl, hb, h1, h2, h⟩
def gs_law_pick : GSp := fun gs S P _ => ∃ (b : Addr) (x : G) (xs : List G), gs = [.loc b, x] ∧ S b = some .bag ∧ lstOf S x = some xs ∧ 1 ≤ xs.length ∧ xs.length ≤ 100000 ∧ ∀ y ∈ xs, P y S
theorem sc_law_pick : FnScope ["_law_bag_here", "_law_some"] ["_law_bag_here", "_law_some"] (defScope s_law_pick) := ⟨rfl, rfl, rfl, by decide +kernel, rfl, by decide +kernel, by decide +kernel⟩
theorem ok_law_pick (Z : Fx K mg) : FnOk P w K mg base (L2.CX P w) 3 Z.f_law_pick Z.fd_law_pick ["_law_bag_here", "_law_some"] (spG K (gs_law_pick)) := by
  have nd := sc_law_pick.nd
  refine okG Z.D_law_pick.F sc_law_pick (fun gs S Pg Xg h => ?_) (fun cdv A outer s H E gs S Pg Xg hr h => ?_)
  · obtain ⟨b, x, xs, rfl, _⟩ := h
    rfl
  obtain ⟨b, x, xs, rfl, hb, hx, h1, h2, q⟩ := h
  refine ⟨_, (gss_one (gs_ret (ge_ix ixg (gvar 1) (ge_call Z.D_law_take (ok_law_take Z) (takes_of rfl rfl rfl rfl) (hr.mono (by decide)) (ga_cons (gvar 0) (ga_cons (ge_callB crg_len (by rfl) Z.m_len PySem.boot_len (ga_cons (gvar 1) ga_nil)) ga_nil))) (fun _ _ => rfl)))), ?_⟩
  walk_at "g"
  rw [rLen_of hx]
  refine take_of hb h1 (by omega) fun r lt => ?_
  rw [rIx_of hx]
  have e : xs[r]? = some xs[r] := List.getElem?_eq_getElem lt
  exact ⟨_, atI_nat e, rt_now (q _ (List.getElem_mem lt))⟩
theorem pick_dat {α : Type} {S : Sto} {P : G → Sto → Prop} {E : XP} {b : Addr} {as : List α} {f : α → D} (hb : S b = some .bag) (h1 : 1 ≤ as.length) (h2 : as.length ≤ 100000) (h : ∀ a ∈ as, P (.dat (f a)) S) : gs_law_pick [.loc b, .dat (.lst (as.map f))] S P E := by
  refine ⟨b, _, _, rfl, hb, rfl, by simpa using h1, by simpa using h2, fun y hy => ?_⟩
  rw [List.map_map] at hy
  obtain ⟨a, ha, rfl⟩ := List.mem_map.mp hy
  exact h a ha
theorem pick_loc {α : Type} {S : Sto} {P : G → Sto → Prop} {E : XP} {b c : Addr} {as : List α} {f : α → G} (hb : S b = some .bag) (hc : S c = some (.lst (as.map f))) (h1 : 1 ≤ as.length) (h2 : as.length ≤ 100000) (h : ∀ a ∈ as, P (f a) S) : gs_law_pick [.loc b, .loc c] S P E := by
  refine ⟨b, _, _, rfl, hb, lstOf_loc hc, by simpa using h1, by simpa using h2, fun y hy => ?_⟩
  obtain ⟨a, ha, rfl⟩ := List.mem_map.mp hy
  exact h a ha
def gs_law_word : GSp := fun gs S P _ => ∃ (b : Addr) (labs : List Str) (lo hi : Nat), gs = [.loc b, .dat (.lst (labs.map .str)), .dat (.int lo), .dat (.int hi)] ∧ S b = some .bag ∧ 1 ≤ labs.length ∧ labs.length ≤ 100 ∧ lo ≤ hi ∧ hi ≤ 100 ∧
  ∀ n : List Str, lo ≤ n.length → n.length ≤ hi → (∀ x ∈ n, x ∈ labs) → P (nm n) S
theorem sc_law_word : FnScope ["_law_bag_here", "_law_labels_here", "_law_least", "_law_most", "_law_k"] ["_law_bag_here", "_law_labels_here", "_law_least", "_law_most"] (defScope s_law_word) := ⟨rfl, rfl, rfl, by decide +kernel, rfl, by decide +kernel, by decide +kernel⟩
theorem ok_law_word (Z : Fx K mg) : FnOk P w K mg base (L2.CX P w) 5 Z.f_law_word Z.fd_law_word ["_law_bag_here", "_law_labels_here", "_law_least", "_law_most"] (spG K (gs_law_word)) := by
  have nd := sc_law_word.nd
  refine okG Z.D_law_word.F sc_law_word (fun gs S Pg Xg h => ?_) (fun cdv A outer s H E gs S Pg Xg hr h => ?_)
  · obtain ⟨b, labs, lo, hi, rfl, _⟩ := h
    rfl
  obtain ⟨b, labs, lo, hi, rfl, hb, h1, h2, h3, h4, q⟩ := h
  refine ⟨_, (gss_one (gs_ret (ge_callTy crg_tuple (by rfl) Z.m_tuple (by decide +kernel) (ga_cons (ge_lc (own := [("_law_k", 4)]) (T := .one 4) finF_ok (by decide) rfl nd (gi_rng (by rfl) Z.m_range (ga_cons (ge_op opg_add (gvar 2) (ge_call Z.D_law_take (ok_law_take Z) (takes_of rfl rfl rfl rfl) (hr.mono (by decide)) (ga_cons (gvar 0) (ga_cons (ge_op opg_add (ge_op opg_sub (gvar 3) (gvar 2)) gint) ga_nil)))) ga_nil)) (blkOk_by (N := ["_law_bag_here", "_law_labels_here", "_law_least", "_law_most", "_law_k"]) (sc := defScope s_law_word) (by decide +kernel)) (fun _ _ _ _ _ => gb_one (i := 4) nd rfl (Or.inl rfl)) (fun _ _ _ _ _ => gts_nil) (fun _ _ _ _ _ => (ge_call Z.D_law_pick (ok_law_pick Z) tk0 (hr.mono (by decide)) (ga_cons (gvar 0) (ga_cons (gvar 1) ga_nil))))) ga_nil)))), ?_⟩
  walk_at "g"
  have e : (hi : Int) - (lo : Int) + 1 = ((hi - lo + 1 : Nat) : Int) := by omega
  rw [e]
  refine take_of hb (by omega) (by omega) fun r lt => ?_
  walk_at "g"
  have n0 : ((lo : Int) + (r : Int)).toNat = lo + r := by omega
  refine ⟨⟨by omega, by omega⟩, ?_⟩
  rw [n0]
  refine LR.allF (List.range (lo + r)) (fun i : Nat => .dat (.int (0 + (i : Nat)))) D.str (fun _ x => x ∈ labs) trivial (by rw [List.length_range]; omega) (fun i hi k1 h => ?_) fun n hn => ?_
  · walk_at "g"
    exact pick_dat hb h1 (by omega) fun x hx => h x hx
  · have hl : (List.range (lo + r)).length = n.length := Paired.length hn
    rw [List.length_range] at hl
    walk_at "g"
    refine rt_now (q n (by omega) (by omega) fun x hx => ?_)
    obtain ⟨_, _, h⟩ := pair_mem hn x hx
    exact h
theorem lab_ok : ∀ s ∈ stems, ∀ c ∈ letters.cps.toList, labP (s ++ ⟨#[c]⟩) ∧ labP (Str.empty ++ ⟨#[c]⟩) := by decide +kernel
theorem letters_few : letters.cps.toList.length = 26 := by decide +kernel
theorem stems_len : ∀ s ∈ stems, s.length ≤ 7 := by decide +kernel
def gs_law_labels : GSp := fun gs S P _ => ∃ (b : Addr) (m : Nat), gs = [.loc b, .dat (.int m)] ∧ S b = some .bag ∧ m ≤ 100 ∧ ∀ labs : List Str, labs.length = m → (∀ x ∈ labs, labP x) → P (.dat (.lst (labs.map .str))) S
theorem sc_law_labels : FnScope ["_law_bag_here", "_law_many", "_law_turn", "_law_stem", "_law_letters", "_law_k"] ["_law_bag_here", "_law_many"] (defScope s_law_labels) := ⟨rfl, rfl, rfl, by decide +kernel, rfl, by decide +kernel, by decide +kernel⟩
theorem ok_law_labels (Z : Fx K mg) : FnOk P w K mg base (L2.CX P w) 3 Z.f_law_labels Z.fd_law_labels ["_law_bag_here", "_law_many"] (spG K (gs_law_labels)) := by
  have nd := sc_law_labels.nd
  refine okG Z.D_law_labels.F sc_law_labels (fun gs S Pg Xg h => ?_) (fun cdv A outer s H E gs S Pg Xg hr h => ?_)
  · obtain ⟨b, m, rfl, _⟩ := h
    rfl
  obtain ⟨b, m, rfl, hb, h1, q⟩ := h
  refine ⟨_, (gss_cons (gs_asg (ge_tup (ga_cons (ge_call Z.D_law_take (ok_law_take Z) (takes_of rfl rfl rfl rfl) (hr.mono (by decide)) (ga_cons (gvar 0) (ga_cons gint ga_nil))) (ga_cons (ge_ix ixg (ge_lst (ga_cons gstr (ga_cons gstr (ga_cons gstr (ga_cons gstr ga_nil))))) (ge_call Z.D_law_take (ok_law_take Z) (takes_of rfl rfl rfl rfl) (hr.mono (by decide)) (ga_cons (gvar 0) (ga_cons gint ga_nil))) (fun _ _ => rfl)) ga_nil))) (gg_tup (is := [2, 3]) rfl (pgs_cons (pg_name (i := 2) nd rfl (.inr rfl)) (pgs_cons (pg_name (i := 3) nd rfl (.inr rfl)) pgs_nil)))) (gss_cons (gs_set (i := 4) nd rfl (.inr rfl) gstr) (gss_one (gs_ret (ge_lc (own := [("_law_k", 5)]) (T := .one 5) finF_ok (by decide) rfl nd (gi_rng (by rfl) Z.m_range (ga_cons (gvar 1) ga_nil)) (blkOk_by (N := ["_law_bag_here", "_law_many", "_law_turn", "_law_stem", "_law_letters", "_law_k"]) (sc := defScope s_law_labels) (by decide +kernel)) (fun _ _ _ _ _ => gb_one (i := 5) nd rfl (Or.inl rfl)) (fun _ _ _ _ _ => gts_nil) (fun _ _ _ _ _ => (ge_op opg_add (ge_op opg_mul (gvar 3) (ge_callTy crg_int (by rfl) Z.m_int (by decide +kernel) (ga_cons (ge_op opg_mod (ge_callTy crg_int (by rfl) Z.m_int (by decide +kernel) (ga_cons (gvar 5) ga_nil)) gint) ga_nil))) (ge_ix ixg (gvar 4) (ge_op opg_mod (ge_callTy crg_int (by rfl) Z.m_int (by decide +kernel) (ga_cons (ge_op opg_add (gvar 2) (ge_op opg_mul gint (gvar 5))) ga_nil)) gint) (fun _ _ => rfl))))))))), ?_⟩
  walk_at "g"
  refine take_of hb (by decide) (by decide) fun r lt => ⟨by decide, take_of hb (by decide) (by decide) fun j ltj => ?_⟩
  walk_at "g"
  have ltj : j < stems.length := ltj
  have e : stems[j]? = some stems[j] := List.getElem?_eq_getElem ltj
  have mem : stems[j] ∈ stems := List.getElem_mem ltj
  refine ⟨_, ix_map (f := fun s => G.dat (.str s)) e, ?_⟩
  generalize stems[j] = s at mem
  walk_at "g"
  refine ⟨by decide, Later.go ?_⟩
  walk_at "g"
  refine Later.go ?_
  walk_at "g"
  refine ⟨⟨by omega, by omega⟩, ?_⟩
  refine LR.allF (List.range m) (fun i : Nat => .dat (.int (0 + (i : Nat)))) D.str (fun _ x => labP x) trivial (by rw [List.length_range]; omega) (fun i hi k1 h => ?_) fun n hn => ?_
  · walk_at "g"
    have hi : i < m := List.mem_range.mp hi
    have m0 : 0 ≤ (0 + (i : Int)) % 2 := Int.emod_nonneg _ (by decide)
    have m2 : (0 + (i : Int)) % 2 < 2 := Int.emod_lt_of_pos _ (by decide)
    obtain ⟨ok, eq⟩ := mul_few (x := s) m0 m2
    refine ⟨by decide, ok, .inl (by decide), by decide, (by decide : letters.length ≤ sizeLine), ?_⟩
    have c0 : 0 ≤ ((r : Int) + 3 * (0 + (i : Int))) % 26 := Int.emod_nonneg _ (by decide)
    have c1 : ((r : Int) + 3 * (0 + (i : Int))) % 26 < 26 := Int.emod_lt_of_pos _ (by decide)
    have lt2 : (((r : Int) + 3 * (0 + (i : Int))) % 26).toNat < letters.cps.toList.length := by rw [letters_few]; omega
    have e2 : letters.cps.toList[(((r : Int) + 3 * (0 + (i : Int))) % 26).toNat]? = some letters.cps.toList[(((r : Int) + 3 * (0 + (i : Int))) % 26).toNat] := List.getElem?_eq_getElem lt2
    have mem2 := List.getElem_mem lt2
    have e3 := atI_nat e2
    rw [Int.toNat_of_nonneg c0] at e3
    refine ⟨_, e3, ?_⟩
    generalize letters.cps.toList[(((r : Int) + 3 * (0 + (i : Int))) % 26).toNat] = c at mem2
    have sl := stems_len s mem
    rcases eq with eq | eq
    · rw [eq]
      exact ⟨(by decide : 0 + 1 ≤ sizeLine), h _ (lab_ok s mem c mem2).2⟩
    · rw [eq]
      exact ⟨Nat.le_trans (Nat.add_le_add_right sl 1) (by decide), h _ (lab_ok s mem c mem2).1⟩
  · have hl : (List.range m).length = n.length := Paired.length hn
    rw [List.length_range] at hl
    exact rt_now (q n hl.symm fun x hx => (pair_mem hn x hx).choose_spec.2)
def gs_law_suffixes : GSp := fun gs S P _ => ∃ (b : Addr) (labs : List Str) (m : Nat), gs = [.loc b, .dat (.lst (labs.map .str)), .dat (.int m)] ∧ S b = some .bag ∧ 1 ≤ labs.length ∧ labs.length ≤ 100 ∧ m ≤ 100 ∧
  ∀ ls : List (List Str), ls.length ≤ m → ls.Nodup → (∀ n ∈ ls, 1 ≤ n.length ∧ n.length ≤ 3 ∧ ∀ x ∈ n, x ∈ labs) → P (nms ls) S
theorem good_int {i : Int} (h0 : 0 ≤ i) (h : i < 1000) : Good (.int i) 0 200 := by
  have t : ∀ n : Fin 1000, (PyData.int (n.val : Int)).showable = true ∧ (PyData.int (n.val : Int)).shown.length ≤ 200 := by decide +kernel
  obtain ⟨h1, h2⟩ := t ⟨i.toNat, by omega⟩
  rw [show (((⟨i.toNat, by omega⟩ : Fin 1000).val : Nat) : Int) = i by show (i.toNat : Int) = i; omega] at h1 h2
  exact ⟨rfl, h1, Nat.le_refl _, h2⟩
theorem lab_okL {x : Str} (h : isLab x = true) : PyData.strOk x = true := by
  unfold isLab at h
  simp only [Bool.and_eq_true, List.all_eq_true, decide_eq_true_eq] at h
  obtain ⟨_, h⟩ := h
  show x.cps.all (· < 0x110000) = true
  refine Array.all_eq_true_iff_forall_mem.mpr fun c hc => decide_eq_true ?_
  have := h c (Array.mem_def.mp hc)
  omega
theorem good_nm {n : List Str} (h : ∀ x ∈ n, isLab x = true) (l : n.length ≤ 20) : Good (nmQ n) 1 2000 := by
  have g : ∀ d ∈ n.map PyData.str, Good d 0 82 := fun d hd => by
    obtain ⟨x, hx, rfl⟩ := List.mem_map.mp hd
    exact Good.str (m := 8) (lab_okL (h x hx)) (lab_len (h x hx))
  exact (Good.tuple g (m := 20) (by rw [List.length_map]; exact l)).mono (Nat.le_refl _) (by decide)
def gs_law_alike : GSp := fun gs S P _ => ∃ (x y : G) (d : PyData) (k n : Nat), gs = [x, y] ∧ LN.vw S x = some d ∧ LN.vw S y = some d ∧ Good d k n ∧ k ≤ 60 ∧ n ≤ sizeLine ∧ P (.dat (.bl true)) S
theorem sc_law_alike : FnScope ["_law_found", "_law_right"] ["_law_found", "_law_right"] (defScope s_law_alike) := ⟨rfl, rfl, rfl, by decide +kernel, rfl, by decide +kernel, by decide +kernel⟩
theorem ok_law_alike (Z : Fx K mg) : FnG P w K mg base 2 Z.f_law_alike Z.fd_law_alike ["_law_found", "_law_right"] (spG K (gs_law_alike)) := by
  have nd := sc_law_alike.nd
  refine okGQ Z.D_law_alike.F sc_law_alike (fun gs S Pg Xg h => ?_) (fun cdv A outer s H E gs S Pg Xg quiet hr h => ?_)
  · obtain ⟨x, y, d, k, n, rfl, _⟩ := h
    rfl
  obtain ⟨x, y, d, k, n, rfl, h1, h2, g, hk, hn, q⟩ := h
  refine ⟨_, (gss_one (gs_ret (ge_and (ge_cmp (oeq hr) (gvar 0) (gvar 1) (nomark _)) (ge_one (ge_cmp (oeq hr) (ge_callB (crepr quiet hr) (by rfl) Z.m_repr (by decide +kernel) (ga_cons (gvar 0) ga_nil)) (ge_callB (crepr quiet hr) (by rfl) Z.m_repr (by decide +kernel) (ga_cons (gvar 1) ga_nil)) (nomark _)))))), ?_⟩
  have g1 := g.deep
  walk_at "g"
  rw [rEq_gen h1 h2 (by omega), g.self]
  walk_at "g"
  have rp : ∀ (z : G) (P' : G → Sto → Prop), LN.vw S z = some d → P' (.dat (.str d.shown)) S → rRepr_ [z] S P' := fun z P' e p => by
    unfold rRepr_
    dsimp only
    rw [e]
    exact ⟨⟨g.shows, g.noDict, by omega, Nat.le_trans g.len hn⟩, p⟩
  refine rp _ _ h1 (rp _ _ h2 ?_)
  rw [req_str, decide_eq_true rfl]
  exact rt_now q

/-- a list of names, changed no more or not yet -/
def NamesAt (S : Sto) (x : G) (ns : List (List Str)) : Prop := x = nms ns ∨ ∃ p, x = .loc p ∧ S p = some (.lst (ns.map fun n => nm n))
def gs_law_values : GSp := fun gs S P _ => ∃ (b : Addr) (x : G) (ns : List (List Str)), gs = [.loc b, x] ∧ S b = some .bag ∧ NamesAt S x ns ∧ ns.length ≤ 100 ∧ ns.Nodup ∧
  ∀ t : List (List Str × Int), t.map (·.1) = ns → (∀ p ∈ t, 0 ≤ p.2 ∧ p.2 < 1000) → ∀ c, S c = none → P (.loc c) (sup S c (.dct (tbl fI t)))
theorem sc_law_values : FnScope ["_law_bag_here", "_law_names_here", "_law_name"] ["_law_bag_here", "_law_names_here"] (defScope s_law_values) := ⟨rfl, rfl, rfl, by decide +kernel, rfl, by decide +kernel, by decide +kernel⟩
theorem ok_law_values (Z : Fx K mg) : FnOk P w K mg base (L2.CX P w) 3 Z.f_law_values Z.fd_law_values ["_law_bag_here", "_law_names_here"] (spG K (gs_law_values)) := by
  have nd := sc_law_values.nd
  refine okG Z.D_law_values.F sc_law_values (fun gs S Pg Xg h => ?_) (fun cdv A outer s H E gs S Pg Xg hr h => ?_)
  · obtain ⟨b, x, ns, rfl, _⟩ := h
    rfl
  obtain ⟨b, x, ns, rfl, hb, at_, few, once, q⟩ := h
  have fin : ∀ (t : List (List Str × Int)), Paired (fun (n : List Str) (p : List Str × Int) => p.1 = n ∧ 0 ≤ p.2 ∧ p.2 < 1000) ns t → rDOf_ [.dat (.lst (t.map fun p : List Str × Int => .tup [.tup (p.1.map .str), .int p.2]))] S (endG Pg Xg).rt := fun t ht => by
    have names : t.map (·.1) = ns := by
      clear q once few at_
      induction ht with
      | nil => rfl
      | cons h _ ih => rw [List.map_cons, ih, h.1]
    have hl : ns.length = t.length := Paired.length ht
    have vals : ∀ p ∈ t, 0 ≤ p.2 ∧ p.2 < 1000 := fun p hp => (pair_mem ht p hp).choose_spec.2.2
    rw [rDOf_tbl]
    refine ⟨by omega, fun c hc => ?_⟩
    rw [merge_self t [] (by show (t.map (·.1)).Nodup; rw [names]; exact once), List.nil_append]
    exact rt_now (q t names vals c hc)
  have ix : ∀ r j : Nat, r < 1000 → j < 3 → ∃ i : Int, atI [G.dat (.int 0), G.dat (.int 999), G.dat (.int (r : Int))] (j : Int) = some (.dat (.int i)) ∧ 0 ≤ i ∧ i < 1000 := fun r j hr hj => by
    have : j = 0 ∨ j = 1 ∨ j = 2 := by omega
    rcases this with rfl | rfl | rfl
    · exact ⟨0, rfl, by decide, by decide⟩
    · exact ⟨999, rfl, by decide, by decide⟩
    · exact ⟨r, rfl, by omega, by omega⟩
  refine ⟨_, (gss_one (gs_ret (ge_callTy (crD_of hr rfl) (by rfl) Z.m_dict (by decide +kernel) (ga_cons (ge_lc (own := [("_law_name", 2)]) (T := .one 2) finF_ok (by decide) rfl nd (gi_seq (gvar 1)) (blkOk_by (N := ["_law_bag_here", "_law_names_here", "_law_name"]) (sc := defScope s_law_values) (by decide +kernel)) (fun _ _ _ _ _ => gb_one (i := 2) nd rfl (Or.inl rfl)) (fun _ _ _ _ _ => gts_nil) (fun _ _ _ _ _ => (ge_tup (ga_cons (gvar 2) (ga_cons (ge_ix ixg (ge_lst (ga_cons gint (ga_cons gint (ga_cons (ge_call Z.D_law_take (ok_law_take Z) tk0 (hr.mono (by decide)) (ga_cons (gvar 0) (ga_cons gint ga_nil))) ga_nil)))) (ge_call Z.D_law_take (ok_law_take Z) tk0 (hr.mono (by decide)) (ga_cons (gvar 0) (ga_cons gint ga_nil))) (fun _ _ => rfl)) ga_nil))))) ga_nil)))), ?_⟩
  rcases at_ with rfl | ⟨p, rfl, hp⟩
  · walk_at "g"
    refine LR.allD ns (fun n => .tup (n.map .str)) (fun p : List Str × Int => .tup [.tup (p.1.map .str), .int p.2]) (fun n p => p.1 = n ∧ 0 ≤ p.2 ∧ p.2 < 1000) trivial (by omega) (fun n hn k1 h => ?_) fin
    walk_at "g"
    refine take_n 1000 hb fun r lt => ⟨(by decide : 3 ≤ sizeLine), take_n 3 hb fun j ltj => ?_⟩
    obtain ⟨i, e, i0, i1⟩ := ix r j lt ltj
    walk_at "g"
    refine ⟨_, e, ?_⟩
    walk_at "g"
    exact ⟨by decide, h (n, i) ⟨rfl, i0, i1⟩⟩
  · walk_at "g"
    rw [hp]
    dsimp only
    refine LR.allF ns (fun n => nm n) (fun p : List Str × Int => .tup [.tup (p.1.map .str), .int p.2]) (fun n p => p.1 = n ∧ 0 ≤ p.2 ∧ p.2 < 1000) hp (by omega) (fun n hn k1 h => ?_) fin
    walk_at "g"
    refine take_n 1000 hb fun r lt => ⟨(by decide : 3 ≤ sizeLine), take_n 3 hb fun j ltj => ?_⟩
    obtain ⟨i, e, i0, i1⟩ := ix r j lt ltj
    walk_at "g"
    refine ⟨_, e, ?_⟩
    walk_at "g"
    exact ⟨by decide, h (n, i) ⟨rfl, i0, i1⟩⟩

def gs_law_mix : GSp := fun gs S P _ => ∃ (b : Addr) (as : List (List Str)), gs = [.loc b, nms as] ∧ S b = some .bag ∧ as.length ≤ 100 ∧ ∀ ms : List (List Str), ms.Perm as → P (nms ms) S
theorem sc_law_mix : FnScope ["_law_bag_here", "_law_some", "_law_found", "_law_one"] ["_law_bag_here", "_law_some"] (defScope s_law_mix) := ⟨rfl, rfl, rfl, by decide +kernel, rfl, by decide +kernel, by decide +kernel⟩
theorem ok_law_mix (Z : Fx K mg) : FnOk P w K mg base (L2.CX P w) 3 Z.f_law_mix Z.fd_law_mix ["_law_bag_here", "_law_some"] (spG K (gs_law_mix)) := by
  have nd := sc_law_mix.nd
  refine okG Z.D_law_mix.F sc_law_mix (fun gs S Pg Xg h => ?_) (fun cdv A outer s H E gs S Pg Xg hr h => ?_)
  · obtain ⟨b, as, rfl, _⟩ := h
    rfl
  obtain ⟨b, as, rfl, hb, few, q⟩ := h
  refine ⟨_, (gss_cons (gs_set (i := 2) nd rfl (.inl rfl) (ge_own ga_nil)) (gss_cons (gs_for (passes_of rfl) rfl (gi_seq (gvar 1)) (gg_name (i := 3) nd rfl (.inl rfl)) (gss_one (gs_expr (ge_lm PySem.F.slot_list_insert PySem.F.type_list_insert mg_ins (gvar 2) (ga_cons (ge_call Z.D_law_take (ok_law_take Z) (takes_of rfl rfl rfl rfl) (hr.mono (by decide)) (ga_cons (gvar 0) (ga_cons (ge_op opg_add (ge_callB crg_len (by rfl) Z.m_len PySem.boot_len (ga_cons (gvar 2) ga_nil)) gint) ga_nil))) (ga_cons (gvar 3) ga_nil)))))) (gss_one (gs_ret (gvar 2))))), ?_⟩
  walk_at "g"
  refine ⟨by decide, fun p np => Later.go ?_⟩
  have hbp : ∀ o, sup S p o b = some .bag := fun o => (sup_ne (ne_new hb np)).trans hb
  walk_at "g"
  refine FR.walkD as (fun n => .tup (n.map .str)) (fun l Γ' S' => ∃ ms : List (List Str), (∃ x, Γ' = [some (.loc b), some (nms as), some (.loc p), x]) ∧ S' = sup S p (.lst (ms.map fun n => nm n)) ∧ ms.Perm l)
    ⟨[], ⟨_, rfl⟩, rfl, .nil⟩ (fun _ _ _ _ => trivial) (fun l n r Γ' S' split h => ?_) nm_mono fun Γ' S' h => ?_
  · obtain ⟨ms, ⟨x, rfl⟩, rfl, pm⟩ := h
    have ml := pm.length_eq
    have ll : l.length < 100 := by
      have := congrArg List.length split
      rw [List.length_append, List.length_cons] at this
      omega
    walk_at "g"
    intro k hk
    rw [isLst_loc sup_same, rLen_loc sup_same, List.length_map, rAdd_int, show ((ms.length : Int) + 1) = ((ms.length + 1 : Nat) : Int) by omega]
    refine ⟨trivial, take_of (hbp _) (by omega) (by omega) fun j lt => ?_⟩
    rw [rIns_loc sup_same, List.length_map, sup_sup]
    refine ⟨by omega, by omega, by omega, _, _, .refl, hk _ _ ⟨ms.take j ++ [n] ++ ms.drop j, ⟨_, rfl⟩, ?_, ?_⟩⟩
    · rw [List.map_append, List.map_append, List.map_take, List.map_drop]
      rfl
    · have h1 : (ms.take j ++ [n] ++ ms.drop j).Perm ([n] ++ (ms.take j ++ ms.drop j)) := by
        rw [List.append_assoc]
        exact List.perm_append_comm_assoc _ _ _
      rw [List.take_append_drop] at h1
      exact h1.trans ((List.Perm.append_left [n] pm).trans List.perm_append_comm)
  · obtain ⟨ms, ⟨x, rfl⟩, rfl, pm⟩ := h
    refine Later.go ?_
    walk_at "g"
    exact rt_lst np (allDat_mapf _) (q ms pm)

/-- what is drawn as a name -/
structure DrawnN (most : Nat) (n : List Str) : Prop where
  some_ : 1 ≤ n.length
  few : n.length ≤ most
  lab : ∀ x ∈ n, isLab x = true
def gs_law_names : GSp := fun gs S P _ => ∃ (b : Addr) (labs : List Str) (m most : Nat), gs = [.loc b, .dat (.lst (labs.map .str)), .dat (.int m), .dat (.int most)] ∧ S b = some .bag ∧ 1 ≤ labs.length ∧ labs.length ≤ 100 ∧ (∀ x ∈ labs, isLab x = true) ∧ 1 ≤ m ∧ m ≤ 100 ∧ 1 ≤ most ∧ most ≤ 100 ∧
  ∀ ms : List (List Str), 1 ≤ ms.length → ms.length ≤ m → ms.Nodup → (∀ n ∈ ms, DrawnN most n) → P (nms ms) S
theorem sc_law_names : FnScope ["_law_bag_here", "_law_labels_here", "_law_many", "_law_most", "_law_found", "_law_k", "_law_name"] ["_law_bag_here", "_law_labels_here", "_law_many", "_law_most"] (defScope s_law_names) := ⟨rfl, rfl, rfl, by decide +kernel, rfl, by decide +kernel, by decide +kernel⟩
theorem ok_law_names (Z : Fx K mg) : FnOk P w K mg base (L2.CX P w) 7 Z.f_law_names Z.fd_law_names ["_law_bag_here", "_law_labels_here", "_law_many", "_law_most"] (spG K (gs_law_names)) := by
  have nd := sc_law_names.nd
  refine okG Z.D_law_names.F sc_law_names (fun gs S Pg Xg h => ?_) (fun cdv A outer s H E gs S Pg Xg hr h => ?_)
  · obtain ⟨b, labs, m, most, rfl, _⟩ := h
    rfl
  obtain ⟨b, labs, m, most, rfl, hb, l1, l2, labs_ok, m1, m2, o1, o2, q⟩ := h
  refine ⟨_, (gss_cons (gs_set (i := 4) nd rfl (.inl rfl) (ge_own ga_nil)) (gss_cons (gs_for (passes_of rfl) rfl (gi_rng (by rfl) Z.m_range (ga_cons (gvar 2) ga_nil)) (gg_name (i := 5) nd rfl (.inl rfl)) (gss_cons (gs_set (i := 6) nd rfl (.inl rfl) (ge_call Z.D_law_word (ok_law_word Z) (takes_of rfl rfl rfl rfl) (hr.mono (by decide)) (ga_cons (gvar 0) (ga_cons (gvar 1) (ga_cons gint (ga_cons (gvar 3) ga_nil)))))) (gss_cons (gs_if (gw_pt (gw_and (gt_cmp (one_ hr) (gvar 4) (ge_lst ga_nil) (nomark _)) (gw_and1 (gt_cmp (oeq hr) (ge_call Z.D_law_take (ok_law_take Z) (takes_of rfl rfl rfl rfl) (hr.mono (by decide)) (ga_cons (gvar 0) (ga_cons gint ga_nil))) gint (nomark _))))) (gss_one (gs_set (i := 6) nd rfl (.inl rfl) (ge_slice slg (ge_op opg_add (gvar 6) (ge_call Z.D_law_pick (ok_law_pick Z) (takes_of rfl rfl rfl rfl) (hr.mono (by decide)) (ga_cons (gvar 0) (ga_cons (gvar 4) ga_nil)))) (go_some (ge_op opg_sub gint (gvar 3))) go_none))) gss_nil) (gss_one (gs_if (gt_cmp (onin hr) (gvar 6) (gvar 4) (by rfl)) (gss_one (gs_expr (ge_lm PySem.F.slot_list_append PySem.F.type_list_append mg_app (gvar 4) (ga_cons (gvar 6) ga_nil)))) gss_nil))))) (gss_one (gs_ret (gvar 4))))), ?_⟩
  walk_at "g"
  refine ⟨by decide, fun p np => Later.go ?_⟩
  have bp : b ≠ p := ne_new hb np
  walk_at "g"
  refine ⟨by omega, ?_⟩
  refine FR.walk (List.range m) (fun i : Nat => .dat (.int (0 + (i : Nat)))) (fun l Γ' S' => ∃ ms : List (List Str), (∃ x y, Γ' = [some (.loc b), some (.dat (.lst (labs.map .str))), some (.dat (.int m)), some (.dat (.int most)), some (.loc p), x, y]) ∧ S' = sup S p (.lst (ms.map fun n => nm n)) ∧ ms.length ≤ l.length ∧ (l ≠ [] → ms ≠ []) ∧ ms.Nodup ∧ ∀ n ∈ ms, DrawnN most n)
    ⟨[], ⟨_, _, rfl⟩, rfl, Nat.le_refl _, fun z => (z rfl).elim, List.nodup_nil, fun n h => nomatch h⟩ (fun _ _ _ _ => trivial) (fun l i r Γ' S' split h => ?_) nm_mono fun Γ' S' h => ?_
  · obtain ⟨ms, ⟨x, y, rfl⟩, rfl, le, _, once, good⟩ := h
    have hb' : sup S p (.lst (ms.map fun n => nm n)) b = some .bag := (sup_ne bp).trans hb
    have len : l.length < m := by
      have := congrArg List.length split
      rw [List.length_range, List.length_append, List.length_cons] at this
      omega
    walk_at "g"
    intro k hk
    refine ⟨b, labs, 1, most, rfl, hb', l1, l2, o1, o2, fun n n1 n2 nl => Later.go ?_⟩
    have gn : DrawnN most n := ⟨n1, n2, fun x hx => labs_ok x (nl x hx)⟩
    have fin : ∀ n : List Str, DrawnN most n → ∀ x5, LN.Later (gIfS (gTest (gOp rNin_ (gVar 6) (gVar 4))) (gDrop (gBM rApp_ (gVar 4) (LN.gCons (gVar 6) LN.gNil))) gNext) { endG Pg Xg with
          nx := fun Γ3 S3 => ∃ Γ4 S4, Gh Γ3 S3 Γ4 S4 ∧ k Γ4 S4
          ct := fun Γ3 S3 => ∃ Γ4 S4, Gh Γ3 S3 Γ4 S4 ∧ k Γ4 S4
          bk := fun Γ' S' => LN.Later (gRet (gVar 4)) (endG Pg Xg) Γ' S' } [some (.loc b), some (.dat (.lst (labs.map .str))), some (.dat (.int m)), some (.dat (.int most)), some (.loc p), x5, some (nm n)] (sup S p (.lst (ms.map fun n => nm n))) := fun n gn x5 => by
      refine Later.go ?_
      walk_at "g"
      rw [rnin_locnm sup_same]
      walk_at "g"
      refine if_b (fun c => ?_) fun c => ?_
      · rw [isLst_loc sup_same, rApp_loc sup_same, List.length_map, sup_sup]
        refine ⟨trivial, by omega, _, _, .refl, hk _ _ ⟨ms ++ [n], ⟨_, _, rfl⟩, by rw [List.map_append]; rfl, by simp; omega, fun _ => by simp, ?_, fun x hx => ?_⟩⟩
        · have c2 : n ∉ ms := by simpa using c
          exact List.nodup_append.mpr ⟨once, by simp, fun x hx y hy => by rw [List.mem_singleton.mp hy]; exact fun z => c2 (z ▸ hx)⟩
        · rcases List.mem_append.mp hx with h | h
          · exact good x h
          · rw [List.mem_singleton.mp h]
            exact gn
      · have c2 : n ∈ ms := by simpa using c
        exact ⟨_, _, .refl, hk _ _ ⟨ms, ⟨_, _, rfl⟩, rfl, by rw [List.length_append]; simp; omega, fun _ z => (by rw [z] at c2; cases c2), once, good⟩⟩
    walk_at "g"
    rw [rne_locnm sup_same]
    refine ⟨by decide, if_b (fun c => take_n 2 hb' fun j ltj => ?_) fun c => fin n gn _⟩
    have some_ : ms ≠ [] := by simpa using c
    walk_at "g"
    refine if_dec (fun c2 => ?_) fun c2 => fin n gn _
    refine pick_loc hb' sup_same (List.length_pos_iff.mpr some_) (by omega) fun o ho => ?_
    have go := good o ho
    walk_at "g"
    have n2 := gn.few
    have o3 := go.few
    refine ⟨Nat.le_trans (Nat.add_le_add n2 o3) (by show most + most ≤ sizeLine; exact Nat.le_trans (by omega : most + most ≤ 200) (by decide)), ?_⟩
    rw [← List.map_append, cutA_map, show (0 - (most : Int)) = -(most : Int) by omega, cutA_last o1]
    have len : (n ++ o).length = n.length + o.length := List.length_append
    refine fin ((n ++ o).drop ((n ++ o).length - most)) ⟨?_, ?_, fun x hx => ?_⟩ _
    · have := gn.some_
      rw [List.length_drop]
      omega
    · rw [List.length_drop]
      omega
    · rcases List.mem_append.mp (List.mem_of_mem_drop hx) with h | h
      · exact gn.lab x h
      · exact go.lab x h
  · obtain ⟨ms, ⟨x, y, rfl⟩, rfl, le, ne, once, good⟩ := h
    refine Later.go ?_
    walk_at "g"
    refine rt_lst np (allDat_mapf _) (q ms ?_ ?_ once good)
    · have := ne (by rw [Ne, List.range_eq_nil]; omega)
      exact List.length_pos_iff.mpr this
    · rw [List.length_range] at le
      exact le

theorem letter_in (c : Nat) : decide (c ∈ letters.cps.toList) = (decide (97 ≤ c) && decide (c ≤ 122)) := by
  have e : letters.cps.toList = List.range' 97 26 := by decide +kernel
  rw [e, Bool.eq_iff_iff, decide_eq_true_eq, List.mem_range'_1, Bool.and_eq_true, decide_eq_true_eq, decide_eq_true_eq]
  omega
theorem join_signs : ∀ n : List Str, (Txt.join "" n).cps.toList = (n.map fun x => x.cps.toList).flatten := by
  intro n
  have h := TL.tl_join "" n
  rw [← TL.join_eq] at h
  have e : ∀ l : List (List Nat), TL.joinL (TL.tl "") l = l.flatten := by
    intro l
    induction l with
    | nil => rfl
    | cons p l ih =>
      cases l with
      | nil => show p = [p].flatten; simp
      | cons q r =>
        show p ++ (TL.tl "" ++ TL.joinL (TL.tl "") (q :: r)) = _
        rw [ih]
        rfl
  rw [e] at h
  exact h
theorem lab_parts (n : List Str) : (n.all isLab) = ((n.all fun x => decide (0 < x.length) && decide (x.length < 9)) && ((n.map fun x => x.cps.toList).flatten.all fun c => decide (97 ≤ c) && decide (c ≤ 122))) := by
  induction n with
  | nil => rfl
  | cons x n ih =>
    rw [List.all_cons, List.all_cons, List.map_cons, List.flatten_cons, List.all_append, ih]
    have : isLab x = ((decide (0 < x.length) && decide (x.length < 9)) && x.cps.toList.all fun c => decide (97 ≤ c) && decide (c ≤ 122)) := by
      unfold isLab
      congr 2
      exact decide_eq_decide.mpr (by omega)
    rw [this]
    generalize (decide (0 < x.length) && decide (x.length < 9)) = a
    generalize (x.cps.toList.all fun c => decide (97 ≤ c) && decide (c ≤ 122)) = b
    generalize (n.all fun x => decide (0 < x.length) && decide (x.length < 9)) = c
    generalize ((n.map fun x => x.cps.toList).flatten.all fun c => decide (97 ≤ c) && decide (c ≤ 122)) = d
    cases a <;> cases b <;> cases c <;> cases d <;> rfl
theorem sum8 : ∀ n : List Str, (∀ x ∈ n, x.length ≤ 8) → (n.map (·.length)).sum ≤ 8 * n.length
  | [], _ => Nat.le_refl _
  | x :: n, h => by
    rw [List.map_cons, List.sum_cons, List.length_cons]
    have h1 := h x List.mem_cons_self
    have h2 := sum8 n fun y hy => h y (List.mem_cons_of_mem _ hy)
    omega
theorem bad_signs (L : List Nat) : decide (((L.filter fun c => !decide (c ∈ letters.cps.toList)).map fun c => (⟨#[c]⟩ : Str)) = []) = L.all fun c => decide (97 ≤ c) && decide (c ≤ 122) := by
  rw [Bool.eq_iff_iff, decide_eq_true_eq, List.map_eq_nil_iff, List.filter_eq_nil_iff, List.all_eq_true]
  constructor
  · intro h c hc
    have := h c hc
    rw [letter_in] at this
    simpa using this
  · intro h c hc
    rw [letter_in, h c hc]
    exact Bool.false_ne_true

abbrev nmOfP (p : List Str × Int) : List Str := p.1
def wrongD : D := .tup [.str "wrong", .int 0]
/-- names with values, in the order of the names -/
def rowsOf (u : List (List Str × Int)) : List (List Str × Int) := ((u.map (·.1)).mergeSort (leD nmQ)).map fun n => (n, (look u n).getD 0)
def madeD (u : List (List Str × Int)) : D := .tup [.str "made", .lst ((rowsOf u).map fun p => .tup [.tup (p.1.map .str), .int p.2])]
theorem okTab_few {u : List (List Str × Int)} (h : okTab u = true) : u.length ≤ 30 := by
  unfold okTab at h
  simp only [Bool.and_eq_true, decide_eq_true_eq] at h
  exact h.1
theorem okTab_ent {u : List (List Str × Int)} (h : okTab u = true) {p : List Str × Int} (hp : p ∈ u) : isFull p.1 = true ∧ 0 ≤ p.2 ∧ p.2 < 1000 := by
  unfold okTab at h
  rw [Bool.and_eq_true] at h
  have := List.all_eq_true.mp h.2 p hp
  simp only [Bool.and_eq_true, decide_eq_true_eq] at this
  exact this
theorem ThingZ.grow {S : Sto} {x : G} {a : Option (List (List L2.Key × D))} {h : Addr} {o : O} (at_ : ThingZ K S x a) (nh : S h = none) : ThingZ K (sup S h o) x a := by
  have same : ∀ {x : G} {t}, tyG S x = some t → tyG (sup S h o) x = some t := fun {x t} z => by
    cases x with
    | dat d => exact z
    | loc n =>
      have nh2 : n ≠ h := fun zz => by rw [zz] at z; simp only [tyG, nh] at z; cases z
      simp only [tyG, sup_ne nh2]
      exact z
  cases at_ with
  | tab e few once ask => exact .tab ((sup_ne (ne_new e nh)).trans e) few once ask
  | raw r leaf =>
    obtain ⟨d, ob, rfl, hd, lo, one⟩ := r
    exact .raw ⟨d, ob, rfl, (sup_ne (ne_new hd nh)).trans hd, lo, one⟩ leaf
  | ty e ht n => exact .ty (same e) ht n
  | own e ho => exact .own (same e) ho
theorem zone_made {Z : Fx K mg} {S : Sto} {x : G} {a : Option (List (List L2.Key × D))} {z : Addr} {P : G → Sto → Prop} {E : XP} (at_ : ThingZ K S x a) (nz : S z = none) (bad : zonB a = false → E Z.C_Wrong [("place", .int 0)] S)
    (good : ∀ u : List (List Str × Int), a = some (u.map entI) → okTab u = true → Once u → ∀ w, S w = none → w ≠ z → P (.loc z) (sup (sup S w (.dct (tbl fI u))) z (.ins Z.C_Zone [("_values", .loc w)]))) :
    gs_Zone_init Z [.loc z, x] (sup S z (.ins Z.C_Zone [])) (madeO S z P) E := by
  refine ⟨z, x, a, rfl, sup_same, at_.grow nz, fun c => ?_, fun u e1 e2 e3 w nw => ⟨rfl, ?_⟩⟩
  · rw [sdel_sup nz]
    exact bad c
  · obtain ⟨n1, n2⟩ := sup_none nw
    rw [sup_sw (Ne.symm n2), sup_sup]
    exact good u e1 e2 e3 w n1 n2
def gs_law_tried (Z : Fx K mg) : GSp := fun gs S P _ => ∃ (x : G) (a : Option (List (List L2.Key × D))), gs = [x] ∧ ThingZ K S x a ∧ (zonB a = false → P (.dat wrongD) S) ∧
  ∀ u : List (List Str × Int), a = some (u.map entI) → okTab u = true → Once u → (∀ p ∈ u, p.1.length ≤ 1000 ∧ ∀ x ∈ p.1, x.length ≤ 1000) ∧ P (.dat (madeD u)) S
theorem sc_law_tried : FnScope ["_law_thing", "_law_zone", "e", "_law_name"] ["_law_thing"] (defScope s_law_tried) := ⟨rfl, rfl, rfl, by decide +kernel, rfl, by decide +kernel, by decide +kernel⟩
theorem ok_law_tried (Z : Fx K mg) : FnOk P w K mg base (L2.CX P w) 12 Z.f_law_tried Z.fd_law_tried ["_law_thing"] (spG K (gs_law_tried Z)) := by
  have nd := sc_law_tried.nd
  refine okG Z.D_law_tried.F sc_law_tried (fun gs S Pg Xg h => ?_) (fun cdv A outer s H E gs S Pg Xg hr h => ?_)
  · obtain ⟨x, a, rfl, _⟩ := h
    rfl
  obtain ⟨x, a, rfl, at_, bad, good⟩ := h
  refine ⟨_, (gss_cons (gs_tryAs (i := 2) rfl rfl nd rfl rfl ⟨by rfl, by decide, .inl Z.m_ListError⟩ (takes_of rfl rfl rfl rfl) (fun W' pn xe tk' => (gss_one (gs_set (i := 1) nd rfl (.inr rfl) (ge_make madeO_ok Z.mk_Zone (ok_Zone_init Z) tk' (hr.mono (by decide)) Z.m_Zone Z.b_Zone_init (ga_cons (gvar 0) ga_nil))))) (fun a oe cls d pn hz hf => (gss_one (gs_ret (ge_ifx (gw_pt (gw_and (gt_truth (ge_callB (crg_isE hz hf) (by rfl) Z.m_isinstance (by decide +kernel) (ga_cons (gvar 2) (ga_cons (gcls Z.m_Wrong) ga_nil)))) (gw_and1 (gt_not (gt_truth (ge_callB (crg_isE hz hf) (by rfl) Z.m_isinstance (by decide +kernel) (ga_cons (gvar 2) (ga_cons (ge_tup (ga_cons (gcls Z.m_Full) (ga_cons (gcls Z.m_NoName) ga_nil))) ga_nil)))))))) (ge_tup (ga_cons gstr (ga_cons (ge_xf hz hf (gvar 2)) ga_nil))) (ge_tup (ga_cons gstr (ga_cons gint ga_nil)))))))) (gss_one (gs_ret (ge_tup (ga_cons gstr (ga_cons (ge_lc (own := [("_law_name", 3)]) (T := .one 3) finF_ok (by decide) rfl nd (gi_seq (ge_meth0 (gvar 1) Z.cl_Zone Z.me_Zone_names (FnOk.c (ok_Zone_names Z) Z.b_Zone_names (takes_of rfl rfl rfl rfl) (hr.mono (by decide))))) (blkOk_by (N := ["_law_thing", "_law_zone", "e", "_law_name"]) (sc := defScope s_law_tried) (by decide +kernel)) (fun _ _ _ _ _ => gb_one (i := 3) nd rfl (Or.inl rfl)) (fun _ _ _ _ _ => gts_nil) (fun _ _ _ _ _ => (ge_tup (ga_cons (gvar 3) (ga_cons (ge_sub Z.du_Zone_getitem Z.fi_Zone_getitem (FnOk.c1 (ok_Zone_getitem Z) Z.b_Zone_getitem tk0 (hr.mono (by decide))) (gvar 1) (gvar 3)) ga_nil))))) ga_nil)))))), ?_⟩
  walk_at "g"
  intro z nz
  refine zone_made at_ nz (fun c => ?_) fun u e1 e2 e3 w nw wz => Later.go ?_
  · refine ⟨true, Z.ex_Wrong_ListError, ?_⟩
    walk_at "g"
    intro a' od'
    refine ⟨Z.er_Wrong, _, true, .own _, Z.ki_Wrong_Wrong, ?_⟩
    walk_at "g"
    refine ⟨by decide, Z.er_Wrong, _, false, .own _, Z.ki_Wrong_Full, _, false, .own _, Z.ki_Wrong_NoName, ?_⟩
    rw [if_pos (by rfl)]
    refine ⟨⟨Z.er_Wrong.xf, Z.nf_Wrong⟩, ?_⟩
    exact ⟨by decide, rt_now (bad c)⟩
  · obtain ⟨small, q⟩ := good u e1 e2 e3
    have hz : (sup (sup S w (.dct (tbl fI u))) z (.ins Z.C_Zone [("_values", .loc w)])) z = some (.ins Z.C_Zone [("_values", .loc w)]) := sup_same
    have hw : (sup (sup S w (.dct (tbl fI u))) z (.ins Z.C_Zone [("_values", .loc w)])) w = some (.dct (tbl fI u)) := (sup_ne wz).trans sup_same
    have few := okTab_few e2
    walk_at "g"
    refine ⟨by rw [isOfM_loc hz]; exact ⟨rfl, rfl⟩, z, w, u, rfl, ⟨hz, hw⟩, by omega, fun p hp => (okTab_ent e2 hp).1, ?_⟩
    walk_at "g"
    refine LR.mapD (st := always) ((u.map (·.1)).mergeSort (leD nmQ)) (fun n => .tup (n.map .str)) (fun n => .tup [.tup (n.map .str), .int ((look u n).getD 0)]) trivial (by rw [List.length_mergeSort, List.length_map]; omega) (fun n hn k1 h1 => ?_) ?_
    · have hn2 : n ∈ u.map (·.1) := List.mem_mergeSort.mp hn
      obtain ⟨p, hp, rfl⟩ := List.mem_map.mp hn2
      have lk : look u p.1 = some p.2 := look_at e3 hp
      rw [lk] at h1
      walk_at "g"
      refine ⟨by rw [isOf_loc hz], z, w, u, p.1, p.2, rfl, ⟨hz, hw⟩, (small p hp).1, (small p hp).2, (okTab_ent e2 hp).1, lk, ?_⟩
      walk_at "g"
      exact ⟨by decide, h1⟩
    · walk_at "g"
      refine ⟨by decide, rt_sub ((sub_new nw).trans (sub_new ((sup_ne (Ne.symm wz)).trans nz))) ?_⟩
      unfold madeD rowsOf at q
      rw [List.map_map] at q
      exact q
def entOk (p : List Str × D) : Bool := isFull p.1 && numD 1000 p.2
def okTabN (t : List (List Str × D)) : Bool := decide (t.length ≤ 30) && t.all entOk
abbrev entS (p : List Str × Int) : List Str × D := (p.1, .int p.2)
structure TabOk (t : List (List Str × D)) : Prop where
  few : t.length ≤ 1000
  once : (t.map (·.1)).Nodup
  small : ∀ p ∈ t, p.1.length ≤ 1000 ∧ ∀ x ∈ p.1, x.length ≤ 1000
  ok : ∀ p ∈ t, okD p.2
theorem full_parts (n : List Str) : isFull n = (!n.isEmpty && ((n.all fun x => decide (0 < x.length) && decide (x.length < 9)) && ((n.map fun x => x.cps.toList).flatten.all fun c => decide (97 ≤ c) && decide (c ≤ 122)))) := by
  rw [← lab_parts]
  unfold isFull
  cases n with
  | nil => rfl
  | cons x n => rw [Bool.and_comm]
theorem lens_bad {x : Str} {n : List Str} : (leastI (x.length : Int) (n.map fun y => (y.length : Int)) < 1 ∨ mostI (x.length : Int) (n.map fun y => (y.length : Int)) > 8) ↔ ((x :: n).all fun x => decide (0 < x.length) && decide (x.length < 9)) = false := by
  rw [leastI_lt, GT.gt, mostI_gt, List.all_eq_false]
  constructor
  · rintro ((h | ⟨j, hj, h⟩) | h | ⟨j, hj, h⟩)
    · exact ⟨x, List.mem_cons_self, by simp; omega⟩
    · obtain ⟨y, hy, rfl⟩ := List.mem_map.mp hj
      exact ⟨y, List.mem_cons_of_mem _ hy, by simp; omega⟩
    · exact ⟨x, List.mem_cons_self, by simp; omega⟩
    · obtain ⟨y, hy, rfl⟩ := List.mem_map.mp hj
      exact ⟨y, List.mem_cons_of_mem _ hy, by simp; omega⟩
  · rintro ⟨y, hy, h⟩
    have h : y.length < 1 ∨ 8 < y.length := by
      simp at h
      omega
    rcases List.mem_cons.mp hy with rfl | hy
    · rcases h with h | h
      · exact .inl (.inl (by omega))
      · exact .inr (.inl (by omega))
    · rcases h with h | h
      · exact .inl (.inr ⟨_, List.mem_map_of_mem hy, by omega⟩)
      · exact .inr (.inr ⟨_, List.mem_map_of_mem hy, by omega⟩)
theorem tabN_ok {t : List (List Str × D)} (few : t.length ≤ 30) (h : ∀ p ∈ t, entOk p = true) : ∃ u : List (List Str × Int), t = u.map entS ∧ okTab u = true := by
  have : ∃ u : List (List Str × Int), t = u.map entS ∧ (u.all fun p => isFull p.1 && decide (0 ≤ p.2 ∧ p.2 < 1000)) = true := by
    clear few
    induction t with
    | nil => exact ⟨[], rfl, rfl⟩
    | cons p t ih =>
      obtain ⟨u, rfl, hu⟩ := ih fun q hq => h q (List.mem_cons_of_mem _ hq)
      obtain ⟨n, d⟩ := p
      obtain ⟨h1, h2⟩ := Bool.and_eq_true_iff.mp (show (isFull n && numD 1000 d) = true from h _ List.mem_cons_self)
      obtain ⟨i, rfl, i0, i1⟩ := num_is h2
      refine ⟨(n, i) :: u, rfl, ?_⟩
      rw [List.all_cons, hu, h1]
      simp [i0, i1]
  obtain ⟨u, rfl, hu⟩ := this
  refine ⟨u, rfl, ?_⟩
  unfold okTab
  rw [hu, Bool.and_true]
  rw [List.length_map] at few
  exact decide_eq_true few
theorem num_ty {m : Int} {d : D} {y : String} (ht : tyD d = some (.ty y)) (ne : (y == "int") = false) : numD m d = false := by
  cases d with
  | int i =>
    cases ht
    cases ne
  | _ => rfl
theorem int_ty {d : D} {y : String} (ht : tyD d = some (.ty y)) (e : y = "int") : ∃ i, d = .int i := by
  subst e
  cases d <;> first | exact ⟨_, rfl⟩ | exact absurd (Ty.ty.inj (Option.some.inj ht)) (by decide) | cases ht
def gs_law_due : GSp := fun gs S P _ => ∃ (v : Addr) (t : List (List Str × D)), gs = [.loc v] ∧ S v = some (.dct (tbl .dat t)) ∧ TabOk t ∧ (okTabN t = false → P (.dat wrongD) S) ∧ ∀ u : List (List Str × Int), t = u.map entS → okTab u = true → P (.dat (madeD u)) S
theorem sc_law_due : FnScope ["_law_thing", "_law_letters", "_law_name", "_law_lengths", "_law_label", "_law_sign"] ["_law_thing"] (defScope s_law_due) := ⟨rfl, rfl, rfl, by decide +kernel, rfl, by decide +kernel, by decide +kernel⟩
theorem ok_law_due (Z : Fx K mg) : FnOk P w K mg base (L2.CX P w) 2 Z.f_law_due Z.fd_law_due ["_law_thing"] (spG K (gs_law_due)) := by
  have nd := sc_law_due.nd
  refine okG Z.D_law_due.F sc_law_due (fun gs S Pg Xg h => ?_) (fun cdv A outer s H E gs S Pg Xg hr h => ?_)
  · obtain ⟨v, t, rfl, _⟩ := h
    rfl
  obtain ⟨v, t, rfl, hv, tok, bad, good⟩ := h
  refine ⟨_, (gss_cons (gs_set (i := 1) nd rfl (.inr rfl) gstr) (gss_cons (gs_lock (gs_for (passes_of rfl) rfl (gi_keys (gvar 0)) (gg_name (i := 2) nd rfl (.inl rfl)) (gss_cons (gs_setLc (i := 3) (own := [("_law_label", 4)]) (T := .one 4) finF_ok (by decide) rfl nd rfl rfl (sw_true rfl rfl rfl (by decide +kernel)) (gi_seq (gvar 2)) (blkOk_by (N := ["_law_thing", "_law_letters", "_law_name", "_law_lengths", "_law_label", "_law_sign"]) (sc := defScope s_law_due) (by decide +kernel)) (fun _ _ _ _ _ => gb_one (i := 4) nd rfl (Or.inl rfl)) (fun _ _ _ _ _ => gts_nil) (fun _ _ _ _ _ => (ge_callB crg_len (by rfl) Z.m_len PySem.boot_len (ga_cons (gvar 4) ga_nil)))) (gss_cons (gs_if (gw_pt (gw_or (gt_cmp (oeq hr) (gvar 3) (ge_lst ga_nil) (nomark _)) (gw_or (gt_cmp opg_lt (ge_callB (crg_minI rfl hr) (by rfl) Z.m_min (by decide +kernel) (ga_cons (gvar 3) ga_nil)) gint (nomark _)) (gw_or1 (gt_cmp opg_gt (ge_callB (crg_maxI rfl hr) (by rfl) Z.m_max (by decide +kernel) (ga_cons (gvar 3) ga_nil)) gint (nomark _)))))) (gss_one (gs_ret (ge_tup (ga_cons gstr (ga_cons gint ga_nil))))) gss_nil) (gss_cons (gs_if (gt_cmp (one_ hr) (ge_lc (own := [("_law_sign", 5)]) (T := .one 5) finF_ok (by decide) rfl nd (gi_seq (ge_tm PySem.F.slot_str_join PySem.F.type_str_join mt_joinG gstr (ga_cons (gvar 2) ga_nil))) (blkOk_by (N := ["_law_thing", "_law_letters", "_law_name", "_law_lengths", "_law_label", "_law_sign"]) (sc := defScope s_law_due) (by decide +kernel)) (fun _ _ _ _ _ => gb_one (i := 5) nd rfl (Or.inl rfl)) (fun _ _ _ _ _ => (gts_one (gt_cmp (onin hr) (gvar 5) (gvar 1) (by rfl)))) (fun _ _ _ _ _ => (gvar 5))) (ge_lst ga_nil) (nomark _)) (gss_one (gs_ret (ge_tup (ga_cons gstr (ga_cons gint ga_nil))))) gss_nil) (gss_one (gs_if (gw_pt (gw_or (gt_not (gt_truth (ge_callB crg_isi (by rfl) Z.m_isinstance (by decide +kernel) (ga_cons (ge_dget hr (gvar 0) (gvar 2)) (ga_cons (gty (n := "int") Z.m_int (by decide +kernel)) ga_nil))))) (gw_or (gt_truth (ge_callB crg_isi (by rfl) Z.m_isinstance (by decide +kernel) (ga_cons (ge_dget hr (gvar 0) (gvar 2)) (ga_cons (gty (n := "bool") Z.m_bool (by decide +kernel)) ga_nil)))) (gw_or1 (gt_not (gt_chain opg_le opg_le gint (ge_dget hr (gvar 0) (gvar 2)) gint)))))) (gss_one (gs_ret (ge_tup (ga_cons gstr (ga_cons gint ga_nil))))) gss_nil))))))) (gss_one (gs_ret (ge_ifx (gt_cmp opg_lt (ge_callB crD_len (by rfl) Z.m_len PySem.boot_len (ga_cons (gvar 0) ga_nil)) gint (nomark _)) (ge_tup (ga_cons gstr (ga_cons (ge_callB (crg_sortI rfl hr) (by rfl) Z.m_sorted (by decide +kernel) (ga_cons (ge_items (gvar 0)) ga_nil)) ga_nil))) (ge_tup (ga_cons gstr (ga_cons gint ga_nil)))))))), ?_⟩
  walk_at "g"
  refine Later.go ?_
  walk_at "g"
  refine ⟨v, _, hv, fun od ks => ?_⟩
  walk_at "g"
  rw [tbl_keys]
  have out : ∀ p ∈ t, entOk p = false → (endG Pg Xg).rt (.dat wrongD) (sup (sup S v (.dlk od ks (tbl .dat t))) v (.dct (tbl .dat t))) := fun p hp e => by
    rw [unlock hv]
    refine rt_now (bad ?_)
    unfold okTabN
    rw [Bool.and_eq_false_iff]
    exact .inr (List.all_eq_false.mpr ⟨p, hp, by rw [e]; exact Bool.false_ne_true⟩)
  refine FR.walk t (fun p => nm p.1) (fun l Γ' S' => (∃ x2 x3, Γ' = [some (.loc v), some (.dat (.str letters)), x2, x3, none, none]) ∧ S' = sup S v (.dlk od ks (tbl .dat t)) ∧ ∀ p ∈ l, entOk p = true) ⟨⟨_, _, rfl⟩, rfl, fun e h => nomatch h⟩ (fun l Γ' S' h => by rw [h.2.1, sup_same]) (fun l p r Γ' S' split h => ?_) nm_mono fun Γ' S' h => ?_
  · obtain ⟨⟨x2, x3, rfl⟩, rfl, pass⟩ := h
    have hp : p ∈ t := by rw [split]; simp
    have out := out p hp
    have small := tok.small p hp
    obtain ⟨y, ht, hm⟩ := tok.ok p hp
    have ask := look_at tok.once hp
    obtain ⟨n, d⟩ := p
    dsimp only at small ht hm ask out
    walk_at "g"
    intro k hk
    refine LR.mapD (st := always) n (fun x => .str x) (fun x => .int x.length) trivial (by have := small.1; omega) (fun x hx k1 h1 => ?_) ?_
    · walk_at "g"
      exact ⟨Nat.le_trans (small.2 x hx) (by decide), h1⟩
    · have full := full_parts n
      refine Later.go ?_
      walk_at "g"
      rw [show (n.map fun x => D.int (x.length : Int)) = (n.map fun x => (x.length : Int)).map D.int by rw [List.map_map]; rfl]
      refine ⟨by decide, Eq.mpr (Enc.int.lst.req (by decide) _ []) ?_⟩
      cases n with
      | nil =>
        refine ⟨by decide, sup_same, out ?_⟩
        show (isFull [] && _) = false
        rw [full]
        rfl
      | cons x n =>
        rw [List.map_cons, decide_eq_false (by simp : ¬ _ :: _ = ([] : List Int))]
        dsimp only
        rw [if_neg Bool.false_ne_true]
        have lens : ((x :: n).all fun x => decide (0 < x.length) && decide (x.length < 9)) = false → entOk (x :: n, d) = false := fun z => by
          show (isFull (x :: n) && _) = false
          rw [full, z]
          rfl
        refine ⟨_, _, rfl, ?_⟩
        walk_at "g"
        refine if_dec (fun c1 => ⟨by decide, out (lens (lens_bad.mp (.inl c1)))⟩) fun c1 => ?_
        refine ⟨_, _, rfl, ?_⟩
        walk_at "g"
        refine if_dec (fun c2 => ⟨by decide, out (lens (lens_bad.mp (.inr c2)))⟩) fun c2 => Later.go ?_
        have c3 : ((x :: n).all fun x => decide (0 < x.length) && decide (x.length < 9)) = true := by
          cases z : (x :: n).all fun x => decide (0 < x.length) && decide (x.length < 9) with
          | true => rfl
          | false => exact ((lens_bad.mpr z).elim c1 c2).elim
        have short : ∀ y ∈ x :: n, y.length ≤ 8 := fun y hy => by
          have := List.all_eq_true.mp c3 y hy
          rw [Bool.and_eq_true, decide_eq_true_eq, decide_eq_true_eq] at this
          omega
        have sum := sum8 (x :: n) short
        have many := small.1
        rw [c3, Bool.true_and] at full
        have full : isFull (x :: n) = (((x :: n).map fun x => x.cps.toList).flatten.all fun c => decide (97 ≤ c) && decide (c ≤ 122)) := full
        walk_at "g"
        refine ⟨x :: n, rfl, by show _ + (x :: n).length * 0 ≤ _; omega, ?_⟩
        have jl : (Txt.join "" (x :: n)).cps.toList.length ≤ 8000 := by
          rw [join_signs, List.length_flatten, List.map_map]
          show ((x :: n).map fun x => x.cps.toList.length).sum ≤ 8000
          exact Nat.le_trans sum (by omega)
        refine LR.selF (Txt.join "" (x :: n)).cps.toList (fun c => .dat (.str ⟨#[c]⟩)) (fun c => !decide (c ∈ letters.cps.toList)) (fun c => .str ⟨#[c]⟩) trivial (by omega) (fun c hc k1 k2 y no2 => ?_) ?_
        · walk_at "g"
          refine ⟨c, rfl, ?_⟩
          walk_at "g"
          exact if_b (fun a => y a) fun a => no2 a
        refine ⟨by decide, ?_⟩
        rw [show ∀ L : List Nat, (L.map fun c => D.str ⟨#[c]⟩) = (L.map fun c => (⟨#[c]⟩ : Str)).map D.str from fun L => by rw [List.map_map]; rfl]
        refine Eq.mpr (Enc.str.lst.rne (by decide) _ []) ?_
        rw [bad_signs, join_signs, ← full]
        walk_at "g"
        refine if_b (fun c5 => ⟨by decide, out ?_⟩) fun c5 => Later.go ?_
        · have c5 : isFull (x :: n) = false := by simpa using c5
          show (isFull (x :: n) && _) = false
          rw [c5]
          rfl
        have c5 : isFull (x :: n) = true := by simpa using c5
        have val : entOk (x :: n, d) = numD 1000 d := by
          show (isFull (x :: n) && _) = _
          rw [c5, Bool.true_and]
        rw [val] at out
        have got : dctOf (sup S v (.dlk od ks (tbl .dat t))) (.loc v) = some (tbl .dat t) := dctOf_lk sup_same
        walk_at "g"
        rw [rDGet_at got dkey_nm, tbl_look, ask]
        show rIsi_ K [.dat d, _] _ _
        rw [isi_gen (by exact ht) hm (by decide)]
        walk_at "g"
        refine if_b (fun c6 => ⟨by decide, out (num_ty ht ((ty_ints y hm).2 (by simpa using c6)))⟩) fun c6 => ?_
        have c6 : isB y "int" = true := by simpa using c6
        rw [rDGet_at got dkey_nm, tbl_look, ask]
        show rIsi_ K [.dat d, _] _ _
        rw [isi_gen (by exact ht) hm (by decide)]
        walk_at "g"
        have e6 := (ty_ints y hm).1 c6
        refine if_b (fun c7 => ⟨by decide, out (num_ty ht (by rw [e6, c7]; rfl))⟩) fun c7 => ?_
        have c7 : isB y "bool" = false := by simpa using c7
        rw [c7] at e6
        obtain ⟨i, rfl⟩ := int_ty ht (by simpa using e6)
        rw [rDGet_at got dkey_nm, tbl_look, ask]
        walk_at "g"
        refine if_dec (fun c8 => if_b (fun c9 => ⟨by decide, out ?_⟩) fun c9 => ⟨_, _, .refl, hk _ _ ⟨⟨_, _, rfl⟩, rfl, fun e he => ?_⟩⟩) fun c8 => ⟨by decide, out ?_⟩
        · refine decide_eq_false fun z => ?_
          simp at c9
          omega
        · rcases List.mem_append.mp he with he | he
          · exact pass e he
          · rw [List.mem_singleton.mp he, val]
            refine decide_eq_true ⟨c8, ?_⟩
            simp at c9
            omega
        · exact decide_eq_false fun z => c8 z.1
  · obtain ⟨⟨x2, x3, rfl⟩, rfl, pass⟩ := h
    refine ⟨sup_same, Later.go ?_⟩
    rw [unlock hv]
    walk_at "g"
    rw [rDLen_at (dctOf_loc hv), tbl_len]
    walk_at "g"
    refine if_dec (fun c => ?_) fun c => ⟨by decide, rt_now (bad ?_)⟩
    · have few : t.length ≤ 30 := by omega
      obtain ⟨u, rfl, oku⟩ := tabN_ok few pass
      have once : Once u := by
        have := tok.once
        rw [List.map_map] at this
        exact this
      rw [List.length_map] at few
      have hv2 : S v = some (.dct (u.map fun p => (kN p.1, .dat (.int p.2)))) := by
        rw [hv]
        unfold tbl
        rw [List.map_map]
        rfl
      refine ⟨⟨v, _, rfl, hv⟩, fun n v1 e nv => ?_⟩
      cases e
      refine ⟨v, List Str × Int, u, fun p => kN p.1, fun p => .int p.2, fun p => .tuple [nmQ p.1, .int p.2], sup_same, (sup_ne (ne_new hv2 nv)).trans hv2, srt_rows Enc.int (by decide) (fun a b => by simp [PySem.W.alike]) (by omega), ?_⟩
      walk_at "g"
      refine ⟨by decide, rt_sub (sub_new nv) ?_⟩
      have q := good u rfl oku
      unfold madeD rowsOf at q
      rw [sort_rows (r := fun i : Int => PyData.int i) (fun a b => by simp [PySem.W.alike]) once 0] at q
      rw [show (fun a : List Str × Int => D.tup [keyT (kN a.1), .int a.2]) = (fun a => D.tup [.tup (a.1.map .str), .int a.2]) from funext fun a => by rw [keyT_nm]]
      exact q
    · unfold okTabN
      rw [decide_eq_false (by omega : ¬ t.length ≤ 30)]
      rfl

theorem rIx_each {ds : List D} {r : Nat} {S : Sto} {P : G → Sto → Prop} (lt : r < ds.length) (q : ∀ d ∈ ds, P (.dat d) S) : rIx_ (.dat (.lst ds)) (.dat (.int r)) S P := by
  rw [rIx_lst]
  exact ⟨_, ix_map (f := fun d => G.dat d) (List.getElem?_eq_getElem lt), q _ (List.getElem_mem lt)⟩
/-- a name that the law hands over as a key -/
structure NameW (n : List Str) : Prop where
  few : n.length ≤ 8
  ok : ∀ x ∈ n, PyData.strOk x = true ∧ x.length ≤ 9
/-- a value that the law hands over -/
structure ValW (d : D) : Prop where
  pz : ∃ p, d.pz = some p ∧ Sm 1 800 p
  ok : okD d
structure TabW (k : Nat) (t : List (List Str × D)) : Prop where
  few : t.length ≤ k
  once : (t.map (·.1)).Nodup
  each : ∀ p ∈ t, NameW p.1 ∧ ValW p.2
  head : ∃ p r, t = p :: r ∧ p.1 ≠ []
theorem TabW.tab {k : Nat} {t : List (List Str × D)} (h : TabW k t) (hk : k ≤ 1000) : TabOk t :=
  ⟨Nat.le_trans h.few hk, h.once, fun p hp => ⟨Nat.le_trans (h.each p hp).1.few (by decide), fun x hx => Nat.le_trans ((h.each p hp).1.ok x hx).2 (by decide)⟩, fun p hp => (h.each p hp).2.ok⟩
theorem TabW.mono {k m : Nat} {t : List (List Str × D)} (h : TabW k t) (hk : k ≤ m) : TabW m t := ⟨Nat.le_trans h.few hk, h.once, h.each, h.head⟩
theorem name_w {n : List Str} (h1 : n.length ≤ 4) (h2 : ∀ x ∈ n, isLab x = true) : NameW n := ⟨by omega, fun x hx => ⟨lab_okL (h2 x hx), Nat.le_trans (lab_len (h2 x hx)) (by decide)⟩⟩
theorem NameW.good {n : List Str} (h : NameW n) : Good (nmQ n) 1 800 := by
  have g : ∀ d ∈ n.map PyData.str, Good d 0 92 := fun d hd => by
    obtain ⟨x, hx, rfl⟩ := List.mem_map.mp hd
    exact Good.str (m := 9) (h.ok x hx).1 (h.ok x hx).2
  exact (Good.tuple g (m := 8) (by rw [List.length_map]; exact h.few)).mono (Nat.le_refl _) (by decide)
theorem val_num {i : Int} (h0 : 0 ≤ i) (h : i < 1000) : ValW (.int i) := ⟨⟨_, rfl, (good_int h0 h).shows, Nat.le_trans (good_int h0 h).deep (by decide), Nat.le_trans (good_int h0 h).len (by decide)⟩, "int", rfl, by decide⟩
theorem TabW.put {k : Nat} {t : List (List Str × D)} (h : TabW k t) {n : List Str} {d : D} (hn : NameW n) (hd : ValW d) : TabW (k + 1) (putL t n d) where
  few := Nat.le_trans (put_len_le t n d) (Nat.succ_le_succ h.few)
  once := put_once h.once n d
  each := fun p hp => by
    unfold putL at hp
    split at hp
    · obtain ⟨q, hq, rfl⟩ := List.mem_map.mp hp
      split
      · exact ⟨(h.each q hq).1, hd⟩
      · exact h.each q hq
    · rcases List.mem_append.mp hp with hp | hp
      · exact h.each p hp
      · rw [List.mem_singleton.mp hp]
        exact ⟨hn, hd⟩
  head := by
    obtain ⟨p, r, rfl, ne⟩ := h.head
    unfold putL
    split
    · rw [List.map_cons]
      refine ⟨_, _, rfl, ?_⟩
      split <;> exact ne
    · exact ⟨_, _, rfl, ne⟩
theorem tab_start {ns : List (List Str)} {t : List (List Str × Int)} (h1 : t.map (·.1) = ns) (h2 : ∀ p ∈ t, 0 ≤ p.2 ∧ p.2 < 1000) (l1 : 1 ≤ ns.length) (l2 : ns.length ≤ 32) (once : ns.Nodup) (good : ∀ n ∈ ns, DrawnN 4 n) : TabW 32 (t.map entS) where
  few := by rw [List.length_map, ← List.length_map (f := (·.1)) (as := t), h1]; exact l2
  once := by rw [List.map_map, show ((fun p : List Str × D => p.1) ∘ entS) = (·.1) from rfl, h1]; exact once
  each := fun p hp => by
    obtain ⟨q, hq, rfl⟩ := List.mem_map.mp hp
    have g := good q.1 (by rw [← h1]; exact List.mem_map_of_mem hq)
    exact ⟨name_w g.few g.lab, val_num (h2 q hq).1 (h2 q hq).2⟩
  head := by
    cases t with
    | nil => rw [← h1] at l1; simp at l1
    | cons p t =>
      refine ⟨_, _, rfl, fun z => ?_⟩
      have g := (good p.1 (by rw [← h1]; exact List.mem_cons_self)).some_
      rw [show p.1 = [] from z] at g
      simp at g
def oddNames (x : Str) : List (List Str) := [[], [("" : Str)], [("A" : Str)], [("abcdefghi" : Str)], [("a" : Str), ("b-" : Str)], [("a1" : Str)], [("a b" : Str)], List.replicate 8 x]
def oddFix : List (List Str) := [[], [("" : Str)], [("A" : Str)], [("abcdefghi" : Str)], [("a" : Str), ("b-" : Str)], [("a1" : Str)], [("a b" : Str)]]
theorem odd_fix : ∀ n ∈ oddFix, n.length ≤ 8 ∧ ∀ x ∈ n, PyData.strOk x = true ∧ x.length ≤ 9 := by decide +kernel
theorem odd_name {x : Str} (h : isLab x = true) : ∀ n ∈ oddNames x, NameW n := by
  intro n hn
  rcases List.mem_append.mp (show n ∈ oddFix ++ [List.replicate 8 x] from hn) with h1 | h1
  · exact ⟨(odd_fix n h1).1, (odd_fix n h1).2⟩
  · rw [List.mem_singleton.mp h1]
    refine ⟨by rw [List.length_replicate]; decide, fun y hy => ?_⟩
    rw [List.eq_of_mem_replicate hy]
    exact ⟨lab_okL h, Nat.le_trans (lab_len h) (by decide)⟩
def oddVals : List D := [.int 1000, .int (-1), .non, .bl true, .bl false, .str "1", .tup [.int 1], .int 1000000000000000000000000000000000000000]
theorem odd_val : ∀ d ∈ oddVals, ValW d := by
  have one : ∀ {d : D} {p : PyData} {t : String}, d.pz = some p → p.showable = true → p.depth ≤ 1 → p.shown.length ≤ 800 → tyD d = some (.ty t) → t ∈ tyNames → ValW d := fun a b c e f g => ⟨⟨_, a, b, c, e⟩, _, f, g⟩
  intro d hd
  simp only [oddVals, List.mem_cons, List.not_mem_nil, or_false] at hd
  rcases hd with rfl | rfl | rfl | rfl | rfl | rfl | rfl | rfl
  · exact one rfl (by decide +kernel) (by decide) (by decide +kernel) rfl (by decide)
  · exact one rfl (by decide +kernel) (by decide) (by decide +kernel) rfl (by decide)
  · exact one rfl (by decide +kernel) (by decide) (by decide +kernel) rfl (by decide)
  · exact one rfl (by decide +kernel) (by decide) (by decide +kernel) rfl (by decide)
  · exact one rfl (by decide +kernel) (by decide) (by decide +kernel) rfl (by decide)
  · exact one rfl (by decide +kernel) (by decide) (by decide +kernel) rfl (by decide)
  · exact one rfl (by decide +kernel) (by decide) (by decide +kernel) rfl (by decide)
  · exact one rfl (by decide +kernel) (by decide) (by decide +kernel) rfl (by decide)
theorem srt_half {k : Nat} {t : List (List Str × D)} (h : TabW k t) (hk : k ≤ 1000) : SrtE t (fun p => keyT (kN p.1)) (fun p => nmQ p.1) where
  py := fun p _ => by
    rw [keyT_nm]
    exact Enc.nm.py p.1
  alike := PySem.W.AllAlike.of fun a b => alike_nm a.1 b.1
  keys := by
    by_cases e : [] ∈ t.map (·.1)
    · refine .inr ⟨?_, fun d hd => ?_, ?_⟩
      · obtain ⟨p, r, rfl, ne⟩ := h.head
        obtain ⟨n, d⟩ := p
        cases n with
        | nil => exact (ne rfl).elim
        | cons x n => exact ⟨_, _, _, rfl⟩
      · obtain ⟨p, _, rfl⟩ := List.mem_map.mp hd
        exact ⟨_, rfl⟩
      · obtain ⟨p, hp, z⟩ := List.mem_map.mp e
        exact List.mem_map.mpr ⟨p, hp, by rw [z]; rfl⟩
    · refine .inl (.inl fun d hd => ?_)
      obtain ⟨p, hp, rfl⟩ := List.mem_map.mp hd
      obtain ⟨n, d⟩ := p
      cases n with
      | nil => exact (e (List.mem_map_of_mem (f := (·.1)) hp)).elim
      | cons x n => exact ⟨_, _, rfl⟩
  deep := fun p _ => Nat.le_trans (Enc.nm.deep p.1) (by decide)
  few := Nat.le_trans (Nat.le_trans h.few hk) (by decide)
theorem sorted_tab {k : Nat} {t : List (List Str × D)} {S : Sto} {v : Addr} {P : G → Sto → Prop} (h : TabW k t) (hv : S v = some (.dct (tbl .dat t))) (q : ∀ ms : List (List Str), ms.Perm (t.map (·.1)) → P (nms ms) S) (hk : k ≤ 1000 := by decide) : rSortDE_ [.loc v] S P := by
  refine ⟨List Str × D, t, fun p => kN p.1, fun p => .dat p.2, fun p => nmQ p.1, dctOf_loc hv, srt_half h hk, ?_⟩
  have e : ((t.mergeSort (leD fun p => nmQ p.1)).map fun p => keyT (kN p.1)) = ((t.mergeSort (leD fun p => nmQ p.1)).map (·.1)).map fun n => D.tup (n.map .str) := by
    rw [List.map_map]
    exact List.map_congr_left fun p _ => keyT_nm
  rw [e]
  exact q _ ((List.mergeSort_perm t _).map _)
/-- the values of the names, in another order of the names -/
def reTab (t : List (List Str × D)) (os : List (List Str)) : List (List Str × D) := os.map fun n => (n, (look t n).getD .non)
theorem reTab_perm {t : List (List Str × D)} {os : List (List Str)} (once : (t.map (·.1)).Nodup) (h : os.Perm (t.map (·.1))) : (reTab t os).Perm t := by
  have e : (t.map (·.1)).map (fun n => (n, (look t n).getD .non)) = t := by
    rw [List.map_map]
    refine (List.map_congr_left fun p hp => ?_).trans (List.map_id _)
    show (p.1, (look t p.1).getD .non) = p
    rw [look_at once hp]
    rfl
  have := h.map fun n => (n, (look t n).getD .non)
  rw [e] at this
  exact this
abbrev entsOf (t : List (List Str × D)) : List (List L2.Key × D) := t.map fun p => (kN p.1, p.2)
theorem tab_ents (t : List (List Str × D)) : tabD (entsOf t) = tbl .dat t := by
  unfold tabD tbl
  rw [List.map_map]
  rfl
theorem repr_tab {k : Nat} {t : List (List Str × D)} (few : t.length ≤ k) (each : ∀ p ∈ t, NameW p.1 ∧ ValW p.2) (hk : k ≤ 100 := by decide) : ∃ p, (D.dct (entsOf t)).pz = some p ∧ SmP p ∧ p.depth ≤ 60 := by
  have : ∀ t : List (List Str × D), (∀ p ∈ t, NameW p.1 ∧ ValW p.2) → ∃ ps : List (PyData × PyData), D.pzk (entsOf t) = some ps ∧ ps.length = t.length ∧ ∀ q ∈ ps, Sm 1 800 q.1 ∧ Sm 1 800 q.2 := by
    intro t
    induction t with
    | nil => exact fun _ => ⟨[], rfl, rfl, fun q h => nomatch h⟩
    | cons p t ih =>
      intro each
      obtain ⟨ps, e1, e2, e3⟩ := ih fun q hq => each q (List.mem_cons_of_mem _ hq)
      obtain ⟨nw, vw⟩ := each p List.mem_cons_self
      obtain ⟨pd, d1, d2⟩ := vw.pz
      have g := nw.good
      refine ⟨(nmQ p.1, pd) :: ps, ?_, by rw [List.length_cons, List.length_cons, e2], fun q hq => ?_⟩
      · show D.pzk ((kN p.1, p.2) :: entsOf t) = _
        have kk : PyData.tuple ((kN p.1).map keyP) = nmQ p.1 := by
          unfold kN
          rw [List.map_map]
          rfl
        simp only [D.pzk, d1, e1, kk]
      · rcases List.mem_cons.mp hq with rfl | hq
        · exact ⟨⟨g.shows, g.deep, g.len⟩, d2⟩
        · exact e3 q hq
  obtain ⟨ps, e1, e2, e3⟩ := this t each
  have s := Sm.dict (m := 100) e3 (by omega)
  refine ⟨.dict ps, by simp only [D.pz, e1]; rfl, ⟨s.shows, Nat.le_trans s.len (by decide)⟩, Nat.le_trans s.deep (by decide)⟩
theorem thing_tab {K : PySem.W.Frag} {k : Nat} {t : List (List Str × D)} {S : Sto} {w : Addr} (hw : S w = some (.dct (tbl .dat t))) (few : t.length ≤ k) (once : (t.map (·.1)).Nodup) (each : ∀ p ∈ t, NameW p.1 ∧ ValW p.2) (hk : k ≤ 100 := by decide) : ThingZ K S (.loc w) (some (entsOf t)) := by
  refine .tab (by rw [hw, tab_ents]) (by rw [List.length_map]; omega) ?_ fun p hp => ?_
  · have e : (entsOf t).map (·.1) = (t.map (·.1)).map kN := by
      rw [List.map_map, List.map_map]
      rfl
    rw [e]
    exact List.pairwise_map.mpr (once.imp fun ne z => ne (kN_inj z))
  · obtain ⟨q, hq, rfl⟩ := List.mem_map.mp hp
    obtain ⟨nw, vw⟩ := each q hq
    refine ⟨?_, vw.ok⟩
    show askD (keyT (kN q.1))
    rw [keyT_nm]
    exact ask_nm (Nat.le_trans nw.few (by decide)) fun x hx => Nat.le_trans (nw.ok x hx).2 (by decide)
theorem okD_ents (t : List (List Str × D)) : okTabD (entsOf t) = okTabN t := by
  unfold okTabD okTabN
  rw [List.length_map, List.all_map]
  congr 2
  funext p
  show (fullD (keyT (kN p.1)) && numD 1000 p.2) = _
  rw [keyT_nm, full_nmD]
  rfl
theorem okN_perm {t u : List (List Str × D)} (h : t.Perm u) : okTabN t = okTabN u := by
  unfold okTabN
  rw [h.length_eq]
  congr 1
  rw [Bool.eq_iff_iff, List.all_eq_true, List.all_eq_true]
  exact ⟨fun g p hp => g p (h.mem_iff.mpr hp), fun g p hp => g p (h.mem_iff.mp hp)⟩
theorem okN_ent (u : List (List Str × Int)) : okTabN (u.map entS) = okTab u := by
  unfold okTabN okTab
  rw [List.length_map, List.all_map]
  rfl
theorem ents_inj {t : List (List Str × D)} {u : List (List Str × Int)} (h : entsOf t = u.map entI) : t = u.map entS := by
  have e : u.map entI = entsOf (u.map entS) := by
    show _ = (u.map entS).map _
    rw [List.map_map]
    rfl
  rw [e] at h
  have inj : ∀ x y : List Str × D, ((kN x.1, x.2) : List L2.Key × D) = (kN y.1, y.2) → x = y := fun x y z => Prod.ext (kN_inj (Prod.mk.inj z).1) (Prod.mk.inj z).2
  exact (List.map_inj_right (f := fun p : List Str × D => ((kN p.1, p.2) : List L2.Key × D)) inj).mp h
theorem perm_ent {u v : List (List Str × Int)} (h : (u.map entS).Perm (v.map entS)) : u.Perm v := by
  have := h.map fun p : List Str × D => (p.1, match p.2 with
    | .int i => i
    | _ => 0)
  rw [List.map_map, List.map_map] at this
  exact (List.map_id u ▸ List.map_id v ▸ this :)
theorem made_perm {u v : List (List Str × Int)} (h : u.Perm v) (once : Once v) : madeD u = madeD v := by
  have once' : Once u := (h.map (·.1)).nodup_iff.mpr once
  have e : rowsOf u = rowsOf v := by
    unfold rowsOf
    rw [show (u.map (·.1)).mergeSort (leD nmQ) = (v.map (·.1)).mergeSort (leD nmQ) from sort_perm (h.map (·.1))]
    refine List.map_congr_left fun n hn => ?_
    obtain ⟨p, hp, rfl⟩ := List.mem_map.mp (List.mem_mergeSort.mp hn)
    rw [look_at once hp, look_at once' (h.mem_iff.mpr hp)]
  unfold madeD
  rw [e]
theorem alike_wrong {S : Sto} {P : G → Sto → Prop} {E : XP} (q : P (.dat (.bl true)) S) : gs_law_alike [.dat wrongD, .dat wrongD] S P E := by
  have g : Good (.tuple [.str ("wrong" : Str), .int 0]) 1 100 := ⟨by decide +kernel, by decide +kernel, by decide, by decide +kernel⟩
  exact ⟨_, _, _, 1, 100, rfl, rfl, rfl, g, by decide, by decide, q⟩
theorem alike_made {S : Sto} {P : G → Sto → Prop} {E : XP} {u : List (List Str × Int)} (ok : okTab u = true) (small : ∀ p ∈ u, NameW p.1) (once : Once u) (q : P (.dat (.bl true)) S) : gs_law_alike [.dat (madeD u), .dat (madeD u)] S P E := by
  have rows : rowsOf u = u.mergeSort (leD fun p : List Str × Int => .tuple [nmQ p.1, .int p.2]) := sort_rows (r := fun i : Int => PyData.int i) (fun a b => by simp [PySem.W.alike]) once 0
  have e : LN.vw S (.dat (madeD u)) = some (.tuple [.str "made", .list ((rowsOf u).map fun p => .tuple [nmQ p.1, .int p.2])]) := by
    have h := ((Enc.nm.mono (by decide : 1 ≤ 1)).two (Enc.int.mono (by decide : 0 ≤ 1))).lst
    have := (Enc.two (Enc.str.mono (by decide : 0 ≤ 3)) h).vw S (("made" : Str), rowsOf u)
    exact this
  have g : Good (.list ((rowsOf u).map fun p => PyData.tuple [nmQ p.1, .int p.2])) 3 60000 := by
    refine (Good.list (k := 2) (n := 1700) (m := 30) (fun d hd => ?_) (by rw [List.length_map, rows, List.length_mergeSort]; exact okTab_few ok)).mono (by decide) (by decide)
    obtain ⟨p, hp, rfl⟩ := List.mem_map.mp hd
    rw [rows] at hp
    have hp := List.mem_mergeSort.mp hp
    obtain ⟨_, i0, i1⟩ := okTab_ent ok hp
    refine (Good.tuple (k := 1) (n := 800) (m := 2) (fun d hd => ?_) (by show 2 ≤ 2; decide)).mono (by decide) (by decide)
    simp only [List.mem_cons, List.not_mem_nil, or_false] at hd
    rcases hd with rfl | rfl
    · exact (small p hp).good
    · exact (good_int i0 i1).mono (by decide) (by decide)
  have g2 : Good (.tuple [.str ("made" : Str), .list ((rowsOf u).map fun p => PyData.tuple [nmQ p.1, .int p.2])]) 4 130000 := by
    refine (Good.tuple (k := 3) (n := 60000) (m := 2) (fun d hd => ?_) (by show 2 ≤ 2; decide)).mono (by decide) (by decide)
    simp only [List.mem_cons, List.not_mem_nil, or_false] at hd
    rcases hd with rfl | rfl
    · exact (show Good (.str ("made" : Str)) 0 100 from ⟨by decide +kernel, by decide +kernel, by decide, by decide +kernel⟩).mono (by decide) (by decide)
    · exact g
  exact ⟨_, _, _, 4, 130000, rfl, e, e, g2, by decide, by decide, q⟩
def keyAsk (k : List L2.Key) : Bool := decide (k.length ≤ 1000) && k.all fun y => match y with
  | .inl _ => true
  | .inr x => decide (x.length ≤ 1000)
theorem key_ask {k : List L2.Key} (h : keyAsk k = true) : askD (keyT k) := by
  unfold keyAsk at h
  rw [Bool.and_eq_true, decide_eq_true_eq] at h
  refine ⟨⟨"tuple", rfl, by decide⟩, ⟨by rw [List.length_map]; omega, fun d hd => ?_⟩, fun _ => nofun⟩
  obtain ⟨y, hy, rfl⟩ := List.mem_map.mp hd
  have := List.all_eq_true.mp h.2 y hy
  cases y with
  | inl i => exact ⟨⟨"int", rfl, by decide⟩, trivial⟩
  | inr x => exact ⟨⟨"str", rfl, by decide⟩, Nat.le_trans (of_decide_eq_true this) (by decide)⟩
theorem thing_one {K : PySem.W.Frag} {S : Sto} {p : Addr} {key : List L2.Key} {d : D} (hk : keyAsk key = true) (hd : okD d) : ThingZ K (sup S p (.dct [(key, .dat d)])) (.loc p) (some [(key, d)]) := by
  refine .tab sup_same (by show 1 ≤ 1000; decide) (by simp) fun q hq => ?_
  obtain rfl := List.mem_singleton.mp hq
  exact ⟨key_ask hk, hd⟩
/-- of none of these things is a zone made -/
inductive AllBad (K : PySem.W.Frag) (S : Sto) : List G → Prop
  | nil : AllBad K S []
  | cons {g : G} {gs : List G} (h : ∃ a, ThingZ K S g a ∧ zonB a = false) (r : AllBad K S gs) : AllBad K S (g :: gs)
theorem AllBad.grow {K : PySem.W.Frag} {S : Sto} {h : Addr} {o : O} (nh : S h = none) : ∀ {gs : List G}, AllBad K S gs → AllBad K (sup S h o) gs
  | _, .nil => .nil
  | _, .cons ⟨a, t, e⟩ r => .cons ⟨a, t.grow nh, e⟩ (AllBad.grow nh r)
theorem AllBad.app {K : PySem.W.Frag} {S : Sto} : ∀ {gs hs : List G}, AllBad K S gs → AllBad K S hs → AllBad K S (gs ++ hs)
  | _, _, .nil, h => h
  | _, _, .cons a r, h => .cons a (r.app h)
theorem AllBad.mem {K : PySem.W.Frag} {S : Sto} : ∀ {gs : List G}, AllBad K S gs → ∀ g ∈ gs, ∃ a, ThingZ K S g a ∧ zonB a = false
  | _, .cons a r, g, h => (List.mem_cons.mp h).elim (fun e => e ▸ a) (r.mem g)
theorem okD_ent (u : List (List Str × Int)) : okTabD (u.map entI) = okTab u := by
  have e : u.map entI = entsOf (u.map entS) := by
    show _ = (u.map entS).map _
    rw [List.map_map]
    rfl
  rw [e, okD_ents, okN_ent]
theorem wrong_eq {S : Sto} {P : G → Sto → Prop} : rEq_ (.dat wrongD) (.dat (.tup [.str ("wrong" : Str), .int 0])) S P = P (.dat (.bl true)) S := by
  rw [rEq_gen (show LN.vw S (.dat wrongD) = some (.tuple [.str ("wrong" : Str), .int 0]) from rfl) (show LN.vw S (.dat (.tup [.str ("wrong" : Str), .int 0])) = some (.tuple [.str ("wrong" : Str), .int 0]) from rfl) (by decide)]
  rfl
theorem sc_law : FnScope ["_law_script", "_law_bag_here", "_law_labels_here", "_law_turn", "_law_names_here", "_law_values_here", "_law_way", "_law_odd", "_law_handed", "_law_shown", "_law_again", "_law_deep", "_law_some", "_law_thing", "_law_name"] ["_law_script"] (defScope s_law) := ⟨rfl, rfl, rfl, by decide +kernel, rfl, by decide +kernel, by decide +kernel⟩
theorem ok_law (Z : Fx K mg) : FnG P w K mg base 14 Z.f_law Z.fd_law ["_law_script"] (spG K (gs_law)) := by
  have nd := sc_law.nd
  refine okGQ Z.D_law.F sc_law (fun gs S Pg Xg h => ?_) (fun cdv A outer s H E gs S Pg Xg quiet hr h => ?_)
  · obtain ⟨ns, rfl, _⟩ := h
    rfl
  obtain ⟨ns, rfl, few, q⟩ := h
  refine ⟨_, (gss_cons (gs_set (i := 1) nd rfl (.inl rfl) (ge_call Z.D_law_bag (ok_law_bag Z) (takes_of rfl rfl rfl rfl) (hr.mono (by decide)) (ga_cons (gvar 0) ga_nil))) (gss_cons (gs_set (i := 2) nd rfl (.inl rfl) (ge_call Z.D_law_labels (ok_law_labels Z) (takes_of rfl rfl rfl rfl) (hr.mono (by decide)) (ga_cons (gvar 1) (ga_cons (ge_op opg_add gint (ge_call Z.D_law_take (ok_law_take Z) (takes_of rfl rfl rfl rfl) (hr.mono (by decide)) (ga_cons (gvar 1) (ga_cons gint ga_nil)))) ga_nil)))) (gss_cons (gs_for (passes_of rfl) rfl (gi_rng (by rfl) Z.m_range (ga_cons gint ga_nil)) (gg_name (i := 3) nd rfl (.inl rfl)) (gss_cons (gs_set (i := 4) nd rfl (.inl rfl) (ge_slice slg (ge_call Z.D_law_names (ok_law_names Z) (takes_of rfl rfl rfl rfl) (hr.mono (by decide)) (ga_cons (gvar 1) (ga_cons (gvar 2) (ga_cons (ge_ix ixg (ge_lst (ga_cons gint (ga_cons gint ga_nil))) (ge_call Z.D_law_take (ok_law_take Z) (takes_of rfl rfl rfl rfl) (hr.mono (by decide)) (ga_cons (gvar 1) (ga_cons gint ga_nil))) (fun _ _ => rfl)) (ga_cons gint ga_nil))))) go_none (go_some (ge_ix ixg (ge_lst (ga_cons gint (ga_cons gint (ga_cons gint (ga_cons gint ga_nil))))) (ge_call Z.D_law_take (ok_law_take Z) (takes_of rfl rfl rfl rfl) (hr.mono (by decide)) (ga_cons (gvar 1) (ga_cons gint ga_nil))) (fun _ _ => rfl))))) (gss_cons (gs_pars (is := [5, 6]) rfl (ga_cons (ge_call Z.D_law_values (ok_law_values Z) (takes_of rfl rfl rfl rfl) (hr.mono (by decide)) (ga_cons (gvar 1) (ga_cons (gvar 4) ga_nil))) (ga_cons (ge_call Z.D_law_take (ok_law_take Z) (takes_of rfl rfl rfl rfl) (hr.mono (by decide)) (ga_cons (gvar 1) (ga_cons gint ga_nil))) ga_nil)) (pgs_cons (pg_name (i := 5) nd rfl (.inr rfl)) (pgs_cons (pg_name (i := 6) nd rfl (.inl rfl)) pgs_nil))) (gss_cut (gs_if (gt_cmp (oeq hr) (gvar 6) gint (nomark _)) (gss_cons (gs_set (i := 7) nd rfl (.inl rfl) (ge_lst (ga_cons (ge_tup ga_nil) (ga_cons (ge_tup (ga_cons gstr ga_nil)) (ga_cons (ge_tup (ga_cons gstr ga_nil)) (ga_cons (ge_tup (ga_cons gstr ga_nil)) (ga_cons (ge_tup (ga_cons gstr (ga_cons gstr ga_nil))) (ga_cons (ge_tup (ga_cons gstr ga_nil)) (ga_cons (ge_tup (ga_cons gstr ga_nil)) (ga_cons (ge_op opg_mulT (ge_tup (ga_cons (ge_ix ixg (gvar 2) gint (fun _ _ => rfl)) ga_nil)) gint) ga_nil)))))))))) (gss_one (gs_dput hr (gvar 5) (ge_call Z.D_law_pick (ok_law_pick Z) (takes_of rfl rfl rfl rfl) (hr.mono (by decide)) (ga_cons (gvar 1) (ga_cons (gvar 7) ga_nil))) gint))) gss_nil) (gss_cut (gs_if (gt_cmp (oeq hr) (gvar 6) gint (nomark _)) (gss_cons (gs_set (i := 7) nd rfl (.inl rfl) (ge_lst (ga_cons gint (ga_cons (ge_un ung_neg gint) (ga_cons gnon (ga_cons gbl (ga_cons gbl (ga_cons gstr (ga_cons (ge_tup (ga_cons gint ga_nil)) (ga_cons (ge_op opg_pow gint gint) ga_nil)))))))))) (gss_one (gs_dput hr (gvar 5) (ge_call Z.D_law_pick (ok_law_pick Z) (takes_of rfl rfl rfl rfl) (hr.mono (by decide)) (ga_cons (gvar 1) (ga_cons (ge_op opg_add (gvar 4) (ge_lst (ga_cons (ge_tup (ga_cons gstr ga_nil)) ga_nil))) ga_nil))) (ge_call Z.D_law_pick (ok_law_pick Z) (takes_of rfl rfl rfl rfl) (hr.mono (by decide)) (ga_cons (gvar 1) (ga_cons (gvar 7) ga_nil)))))) gss_nil) (gss_cut (gs_set (i := 8) nd rfl (.inl rfl) (ge_callTy (crD_of hr rfl) (by rfl) Z.m_dict (by decide +kernel) (ga_cons (ge_lc (own := [("_law_name", 14)]) (T := .one 14) finF_ok (by decide) rfl nd (gi_seq (ge_call Z.D_law_mix (ok_law_mix Z) (takes_of rfl rfl rfl rfl) (hr.mono (by decide)) (ga_cons (gvar 1) (ga_cons (ge_callB (crg_sortDE rfl hr) (by rfl) Z.m_sorted (by decide +kernel) (ga_cons (gvar 5) ga_nil)) ga_nil)))) (blkOk_by (N := ["_law_script", "_law_bag_here", "_law_labels_here", "_law_turn", "_law_names_here", "_law_values_here", "_law_way", "_law_odd", "_law_handed", "_law_shown", "_law_again", "_law_deep", "_law_some", "_law_thing", "_law_name"]) (sc := defScope s_law) (by decide +kernel)) (fun _ _ _ _ _ => gb_one (i := 14) nd rfl (Or.inl rfl)) (fun _ _ _ _ _ => gts_nil) (fun _ _ _ _ _ => (ge_tup (ga_cons (gvar 14) (ga_cons (ge_dget hr (gvar 5) (gvar 14)) ga_nil))))) ga_nil))) (gss_cons (gs_set (i := 9) nd rfl (.inl rfl) (ge_callB (crg_reprD quiet hr) (by rfl) Z.m_repr (by decide +kernel) (ga_cons (gvar 8) ga_nil))) (gss_one (gs_for (passes_of rfl) rfl (gi_rng (by rfl) Z.m_range (ga_cons gint ga_nil)) (gg_name (i := 10) nd rfl (.inl rfl)) (gss_one (gs_if (gw_pt (gw_or (gt_not (gt_truth (ge_callQ Z.D_law_alike (ok_law_alike Z) quiet (takes_of rfl rfl rfl rfl) (hr.mono (by decide)) (ga_cons (ge_call Z.D_law_tried (ok_law_tried Z) (takes_of rfl rfl rfl rfl) (hr.mono (by decide)) (ga_cons (gvar 8) ga_nil)) (ga_cons (ge_call Z.D_law_due (ok_law_due Z) (takes_of rfl rfl rfl rfl) (hr.mono (by decide)) (ga_cons (gvar 5) ga_nil)) ga_nil))))) (gw_or1 (gt_cmp (one_ hr) (ge_callB (crg_reprD quiet hr) (by rfl) Z.m_repr (by decide +kernel) (ga_cons (gvar 8) ga_nil)) (gvar 9) (nomark _))))) (gss_one (gs_ret gbl)) gss_nil))))))))))) (gss_cons (gs_set (i := 11) nd rfl (.inl rfl) (ge_lst (ga_cons (ge_lst (ga_cons (ge_lst (ga_cons (ge_lst (ga_cons (ge_lst (ga_cons (ge_lst (ga_cons (ge_lst (ga_cons (ge_lst (ga_cons (ge_lst (ga_cons (ge_lst (ga_cons (ge_lst (ga_cons (ge_lst (ga_cons (ge_lst (ga_cons (ge_lst ga_nil) ga_nil)) ga_nil)) ga_nil)) ga_nil)) ga_nil)) ga_nil)) ga_nil)) ga_nil)) ga_nil)) ga_nil)) ga_nil)) ga_nil)) ga_nil))) (gss_cons (gs_set (i := 12) nd rfl (.inl rfl) (ge_own (ga_cons gnon (ga_cons (ge_lst ga_nil) (ga_cons (ge_tup ga_nil) (ga_cons gstr (ga_cons gint (ga_cons (ge_lst (ga_cons (ge_tup (ga_cons gstr ga_nil)) ga_nil)) (ga_cons (ge_dleaf (.str "a") (by rfl) gstr gint) (ga_cons (ge_dleaf .non (by rfl) gnon gint) (ga_cons (ge_dleaf (.int 1) (by rfl) gint gint) (ga_cons (ge_done hr (ge_tup (ga_cons gstr (ga_cons gint ga_nil))) gint) (ga_cons (ge_done hr (ge_tup (ga_cons gstr ga_nil)) (ge_lst (ga_cons gint ga_nil))) (ga_cons (ge_op opg_mulL (ge_lst (ga_cons gnon ga_nil)) gint) ga_nil)))))))))))))) (gss_cons (gs_set (i := 13) nd rfl (.inl rfl) (ge_ix ixg (ge_op opg_addL (gvar 12) (ge_own (ga_cons (gvar 11) (ga_cons (ge_make madeO_ok Z.mk_Zone (ok_Zone_init Z) (takes_of rfl rfl rfl rfl) (hr.mono (by decide)) Z.m_Zone Z.b_Zone_init (ga_cons ge_dnew ga_nil)) (ga_cons (ge_done hr (ge_tup (ga_cons gstr ga_nil)) (gvar 11)) ga_nil))))) (ge_call Z.D_law_take (ok_law_take Z) (takes_of rfl rfl rfl rfl) (hr.mono (by decide)) (ga_cons (gvar 1) (ga_cons gint ga_nil))) (fun _ _ => rfl))) (gss_one (gs_ret (ge_and (ge_cmp (oeq hr) (ge_call Z.D_law_tried (ok_law_tried Z) (takes_of rfl rfl rfl rfl) (hr.mono (by decide)) (ga_cons (gvar 13) ga_nil)) (ge_tup (ga_cons gstr (ga_cons gint ga_nil))) (nomark _)) (ge_one (ge_cmp (oeq hr) (ge_call Z.D_law_tried (ok_law_tried Z) (takes_of rfl rfl rfl rfl) (hr.mono (by decide)) (ga_cons (ge_make madeO_ok Z.mk_Zone (ok_Zone_init Z) (takes_of rfl rfl rfl rfl) (hr.mono (by decide)) Z.m_Zone Z.b_Zone_init (ga_cons (ge_done hr (ge_tup (ga_cons gstr ga_nil)) gint) ga_nil)) ga_nil)) (ge_tup (ga_cons gstr (ga_cons gint ga_nil))) (nomark _)))))))))))), ?_⟩
  walk_at "g"
  refine ⟨ns, rfl, few, fun b nb => Later.go ?_⟩
  walk_at "g"
  refine take_n 4 (S := sup S b .bag) sup_same fun r lt => ?_
  walk_at "g"
  rw [show (3 + (r : Int)) = ((3 + r : Nat) : Int) by omega]
  refine ⟨b, 3 + r, rfl, sup_same, by omega, fun labs ll labs_ok => Later.go ?_⟩
  have l1 : 1 ≤ labs.length := by omega
  have l2 : labs.length ≤ 100 := by omega
  have hb0 : (sup S b .bag) b = some .bag := sup_same
  generalize sup S b .bag = S0 at hb0 ⊢
  walk_at "g"
  refine ⟨by decide, ?_⟩
  refine FR.walk (List.range 6) (fun i : Nat => .dat (.int (0 + (i : Nat)))) (fun l Γ' S' => (∃ x3 x4 x5 x6 x7 x8 x9 x10 x11 x12 x13 x14, Γ' = [some (.dat (.ro (ns.map .int))), some (.loc b), some (.dat (.lst (labs.map .str))), x3, x4, x5, x6, x7, x8, x9, x10, x11, x12, x13, x14]) ∧ S' b = some .bag)
    ⟨⟨_, _, _, _, _, _, _, _, _, _, _, _, rfl⟩, hb0⟩ (fun _ _ _ _ => trivial) (fun l i r Γ' S' split h => ?_) nm_mono fun Γ' S' h => ?_
  · clear hb0
    obtain ⟨⟨x3, x4, x5, x6, x7, x8, x9, x10, x11, x12, x13, x14, rfl⟩, hb0⟩ := h
    walk_at "g"
    intro k hk
    refine ⟨by decide, take_n 2 hb0 fun r2 lt2 => rIx_each lt2 fun d hd => ?_⟩
    obtain ⟨m, rfl, m1, m2⟩ : ∃ m : Nat, d = .int m ∧ 1 ≤ m ∧ m ≤ 100 := by
      simp only [List.mem_cons, List.not_mem_nil, or_false] at hd
      rcases hd with rfl | rfl
      · exact ⟨3, rfl, by decide, by decide⟩
      · exact ⟨40, rfl, by decide, by decide⟩
    refine ⟨b, labs, m, 4, rfl, hb0, l1, l2, labs_ok, m1, m2, by decide, by decide, fun all a1 a2 once good => ?_⟩
    walk_at "g"
    refine ⟨by decide, take_n 4 hb0 fun r3 lt3 => rIx_each lt3 fun d hd => ?_⟩
    obtain ⟨j, rfl, j1, j2⟩ : ∃ j : Nat, d = .int j ∧ 1 ≤ j ∧ j ≤ 32 := by
      simp only [List.mem_cons, List.not_mem_nil, or_false] at hd
      rcases hd with rfl | rfl | rfl | rfl
      · exact ⟨32, rfl, by decide, by decide⟩
      · exact ⟨31, rfl, by decide, by decide⟩
      · exact ⟨30, rfl, by decide, by decide⟩
      · exact ⟨3, rfl, by decide, by decide⟩
    walk_at "g"
    rw [cutA_map, cutA_to]
    have n1 : 1 ≤ (all.take j).length := by rw [List.length_take]; omega
    have n2 : (all.take j).length ≤ 32 := by rw [List.length_take]; omega
    have n3 : (all.take j).Nodup := once.sublist (List.take_sublist ..)
    have n4 : ∀ n ∈ all.take j, DrawnN 4 n := fun n hn => good n (List.mem_of_mem_take hn)
    clear once good
    generalize all.take j = names at n1 n2 n3 n4 ⊢
    refine Later.go ?_
    walk_at "g"
    refine ⟨b, _, names, rfl, hb0, .inl rfl, by omega, n3, fun t0 t1 t2 v nv => ?_⟩
    have tw := tab_start t1 t2 n1 n2 n3 n4
    have hb1 : sup S' v (.dct (tbl fI t0)) b = some .bag := (sup_ne (ne_new hb0 nv)).trans hb0
    have hv1 : sup S' v (.dct (tbl fI t0)) v = some (.dct (tbl .dat (t0.map entS))) := by
      rw [sup_same]
      unfold tbl
      rw [List.map_map]
      rfl
    generalize sup S' v (.dct (tbl fI t0)) = S1 at hb1 hv1 ⊢
    generalize t0.map entS = T0 at tw hv1
    refine take_n 3 hb1 fun way ltw => ⟨by decide, Later.go ?_⟩
    refine ⟨fun Γ S => ∃ T, (∃ x7, Γ = [some (.dat (.ro (ns.map .int))), some (.loc b), some (.dat (.lst (labs.map .str))), some (.dat (.int (0 + (i : Nat)))), some (nms names), some (.loc v), some (.dat (.int way)), x7, x8, x9, x10, x11, x12, x13, x14]) ∧ S b = some .bag ∧ S v = some (.dct (tbl .dat T)) ∧ TabW 33 T, ?_, fun Γ S h => ?_⟩
    · walk_at "g"
      refine if_dec (fun c => ?_) fun c => ⟨_, _, .refl, T0, ⟨_, rfl⟩, hb1, hv1, tw.mono (by decide)⟩
      obtain ⟨y, rest, rfl⟩ : ∃ y rest, labs = y :: rest := by
        cases labs with
        | nil => simp at l1
        | cons y rest => exact ⟨y, rest, rfl⟩
      iterate 7 refine And.intro (by decide) ?_
      refine ⟨.dat (.str y), atI_nat (j := 0) rfl, (by decide : 1 ≤ sizeLine), ⟨nofun, by decide, by decide, (by decide : 1 ≤ 1000)⟩, by decide, Later.go ?_⟩
      walk_at "g"
      have bv : b ≠ v := fun z => by rw [z, hv1] at hb1; cases hb1
      refine pick_dat (as := oddNames y) (f := fun n => .tup (n.map .str)) hb1 (by show 1 ≤ 8; decide) (by show 8 ≤ 100000; decide) fun n hn => ?_
      rw [dput_at hv1 dkey_nm, tbl_put, tbl_len]
      have l0 := tw.few
      exact ⟨by omega, _, _, .refl, putL T0 n (.int 5), ⟨_, rfl⟩, (sup_ne bv).trans hb1, sup_same, tw.put (odd_name (labs_ok y List.mem_cons_self) n hn) (val_num (by decide) (by decide))⟩
    · obtain ⟨T, ⟨x7', rfl⟩, hb2, hv2, tw2⟩ := h
      clear hb1 hv1 tw
      refine ⟨fun Γ S => ∃ T, (∃ x7, Γ = [some (.dat (.ro (ns.map .int))), some (.loc b), some (.dat (.lst (labs.map .str))), some (.dat (.int (0 + (i : Nat)))), some (nms names), some (.loc v), some (.dat (.int way)), x7, x8, x9, x10, x11, x12, x13, x14]) ∧ S b = some .bag ∧ S v = some (.dct (tbl .dat T)) ∧ TabW 34 T, ?_, fun Γ S h => ?_⟩
      · walk_at "g"
        refine if_dec (fun c => ?_) fun c => ⟨_, _, .refl, T, ⟨_, rfl⟩, hb2, hv2, tw2.mono (by decide)⟩
        refine ⟨by decide, ⟨by decide, by decide, by decide⟩, by decide, Later.go ?_⟩
        walk_at "g"
        have e39 : (10 : Int) ^ Int.toNat 39 = 1000000000000000000000000000000000000000 := by decide
        rw [e39]
        have bv : b ≠ v := fun z => by rw [z, hv2] at hb2; cases hb2
        have l0 := tw2.few
        refine pick_dat (as := oddVals) (f := fun d => d) hb2 (by show 1 ≤ 8; decide) (by show 8 ≤ 100000; decide) fun d hd => ?_
        refine ⟨by decide, by decide, Nat.le_trans (Nat.add_le_add_right n2 1) (by decide), ?_⟩
        have e1 : (names.map (fun n => D.tup (n.map D.str)) ++ [D.tup [D.str ("a" : Str)]]) = (names ++ [[("a" : Str)]]).map fun n => D.tup (n.map D.str) := by rw [List.map_append]; rfl
        rw [e1]
        refine pick_dat hb2 (by simp) (by rw [List.length_append]; simp; omega) fun n hn => ?_
        rw [dput_at hv2 dkey_nm, tbl_put, tbl_len]
        refine ⟨by omega, _, _, .refl, putL T n d, ⟨_, rfl⟩, (sup_ne bv).trans hb2, sup_same, tw2.put ?_ (odd_val d hd)⟩
        rcases List.mem_append.mp hn with h | h
        · exact name_w (n4 n h).few (n4 n h).lab
        · rw [List.mem_singleton.mp h]
          exact name_w (by decide) (by decide)
      · obtain ⟨T, ⟨x7', rfl⟩, hb3, hv3, tw3⟩ := h
        clear hb2 hv2 tw2
        refine ⟨fun Γ S => ∃ w T', (∃ x14, Γ = [some (.dat (.ro (ns.map .int))), some (.loc b), some (.dat (.lst (labs.map .str))), some (.dat (.int (0 + (i : Nat)))), some (nms names), some (.loc v), some (.dat (.int way)), x7', some (.loc w), x9, x10, x11, x12, x13, x14]) ∧ S b = some .bag ∧ S v = some (.dct (tbl .dat T)) ∧ S w = some (.dct (tbl .dat T')) ∧ T'.Perm T, ?_, fun Γ S h => ?_⟩
        · walk_at "g"
          refine sorted_tab tw3 hv3 fun ms pm => ?_
          refine ⟨b, ms, rfl, hb3, by rw [pm.length_eq, List.length_map]; have := tw3.few; omega, fun os pm2 => ?_⟩
          have pm3 := pm2.trans pm
          walk_at "g"
          have mem : ∀ n ∈ os, ∃ p ∈ T, p.1 = n := fun n hn => by
            obtain ⟨p, hp, e⟩ := List.mem_map.mp (pm3.subset hn)
            exact ⟨p, hp, e⟩
          have l0 := tw3.few
          have l5 : os.length = T.length := by rw [pm3.length_eq, List.length_map]
          have perm : (reTab T os).Perm T := reTab_perm tw3.once pm3
          refine LR.mapD (st := always) os (fun n => .tup (n.map .str)) (fun n => .tup [.tup (n.map .str), (look T n).getD .non]) trivial (by omega) (fun n hn k1 h1 => ?_) ?_
          · obtain ⟨p, hp, rfl⟩ := mem n hn
            have ask := look_at tw3.once hp
            rw [ask] at h1
            walk_at "g"
            rw [rDGet_at (dctOf_loc hv3) dkey_nm, tbl_look, ask]
            walk_at "g"
            exact ⟨by decide, h1⟩
          · rw [show (os.map fun n => D.tup [.tup (n.map .str), (look T n).getD .non]) = (reTab T os).map (fun p : List Str × D => D.tup [.tup (p.1.map .str), p.2]) by unfold reTab; rw [List.map_map]; rfl]
            refine Eq.mpr (rDOf_tbl (e := fun d : D => d) (reTab T os)) ⟨by rw [perm.length_eq]; omega, fun w nw => ?_⟩
            rw [merge_self (reTab T os) [] (by rw [List.nil_append]; exact (perm.map (·.1)).nodup_iff.mpr tw3.once), List.nil_append]
            exact ⟨_, _, .refl, w, reTab T os, ⟨_, rfl⟩, (sup_ne (ne_new hb3 nw)).trans hb3, (sup_ne (ne_new hv3 nw)).trans hv3, sup_same, perm⟩
        · obtain ⟨w, T', ⟨x14', rfl⟩, hb4, hv4, hw4, perm⟩ := h
          clear hb3 hv3
          have few' : T'.length ≤ 34 := by rw [perm.length_eq]; exact tw3.few
          have each' : ∀ p ∈ T', NameW p.1 ∧ ValW p.2 := fun p hp => tw3.each p (perm.subset hp)
          have once' : (T'.map (·.1)).Nodup := (perm.map (·.1)).nodup_iff.mpr tw3.once
          obtain ⟨sh, e1, e2, e3⟩ := repr_tab few' each'
          have ww : S w = some (.dct (tabD (entsOf T'))) := by rw [hw4, tab_ents]
          refine Later.go ?_
          walk_at "g"
          refine ⟨entsOf T', sh, ww, e1, e2, e3, Later.go ?_⟩
          walk_at "g"
          refine ⟨by decide, ?_⟩
          refine FR.walk (List.range 2) (fun i : Nat => .dat (.int (0 + (i : Nat)))) (fun l Γ' S2 => S2 = S ∧ ∃ x10, Γ' = [some (.dat (.ro (ns.map .int))), some (.loc b), some (.dat (.lst (labs.map .str))), some (.dat (.int (0 + (i : Nat)))), some (nms names), some (.loc v), some (.dat (.int way)), x7', some (.loc w), some (.dat (.str sh.shown)), x10, x11, x12, x13, x14'])
            ⟨rfl, _, rfl⟩ (fun _ _ _ _ => trivial) (fun l2 i2 r2 Γ' S' split2 h => ?_) nm_mono fun Γ' S' h => ?_
          · obtain ⟨rfl, x10', rfl⟩ := h
            walk_at "g"
            intro k2 hk2
            have thing := thing_tab (K := K) hw4 few' once' each'
            have tok := tw3.tab (by decide)
            have same : okTabN T' = okTabN T := okN_perm perm
            have fin : rReprD_ [.loc w] S' fun x S1 => rNe_ x (.dat (.str sh.shown)) S1 fun x S1 => match x with
                | .dat (.bl k) => if k = true then (endG Pg Xg).rt (.dat (.bl false)) S1 else ∃ Γ4 S4, Gh [some (.dat (.ro (ns.map .int))), some (.loc b), some (.dat (.lst (labs.map .str))), some (.dat (.int (0 + (i : Nat)))), some (nms names), some (.loc v), some (.dat (.int way)), x7', some (.loc w), some (.dat (.str sh.shown)), some (.dat (.int (0 + (i2 : Nat)))), x11, x12, x13, x14'] S1 Γ4 S4 ∧ k2 Γ4 S4
                | _ => False := by
              refine ⟨entsOf T', sh, ww, e1, e2, e3, ?_⟩
              dsimp only
              rw [rNe_gen (show LN.vw S' (.dat (.str sh.shown)) = some (.str sh.shown) from rfl) (show LN.vw S' (.dat (.str sh.shown)) = some (.str sh.shown) from rfl) (by show 0 ≤ 60; decide)]
              simp only [PyData.eqv, decide_true, Bool.not_true, Bool.false_eq_true, if_false, BEq.rfl]
              exact ⟨_, _, .refl, hk2 _ _ ⟨rfl, _, rfl⟩⟩
            refine ⟨.loc w, _, rfl, thing, fun bad => ?_, fun u e oku once => ⟨?_, ?_⟩⟩
            · have bad2 : okTabN T = false := by rw [← same, ← okD_ents]; exact bad
              refine ⟨v, T, rfl, hv4, tok, fun _ => alike_wrong fin, fun u e oku => ?_⟩
              rw [e, okN_ent, oku] at bad2
              cases bad2
            · have e' := ents_inj (Option.some.inj e)
              intro p hp
              have := (each' (entS p) (by rw [e']; exact List.mem_map_of_mem hp)).1
              exact ⟨Nat.le_trans this.few (by decide), fun x hx => Nat.le_trans (this.ok x hx).2 (by decide)⟩
            · have e' := ents_inj (Option.some.inj e)
              refine ⟨v, T, rfl, hv4, tok, fun bad => ?_, fun u2 e2 oku2 => ?_⟩
              · rw [← same, e', okN_ent, oku] at bad
                cases bad
              · rw [e', e2] at perm
                have pu := perm_ent perm
                have once2 : Once u2 := (pu.map (·.1)).nodup_iff.mp once
                rw [made_perm pu once2]
                refine alike_made oku2 (fun p hp => ?_) once2 fin
                exact (tw3.each (entS p) (by rw [e2]; exact List.mem_map_of_mem hp)).1
          · obtain ⟨rfl, x10', rfl⟩ := h
            exact ⟨_, _, .refl, hk _ _ ⟨⟨_, _, _, _, _, _, _, _, _, _, _, _, rfl⟩, hb4⟩⟩
  · clear hb0
    obtain ⟨⟨x3, x4, x5, x6, x7, x8, x9, x10, x11, x12, x13, x14, rfl⟩, hb0⟩ := h
    refine Later.go (Later.go ?_)
    walk_at "g"
    iterate 14 refine And.intro (by decide) ?_
    refine Later.go ?_
    generalize deepG : D.lst [D.lst [D.lst [D.lst [D.lst [D.lst [D.lst [D.lst [D.lst [D.lst [D.lst [D.lst [D.lst [D.lst []]]]]]]]]]]]]] = deep
    have dk : ∃ ds, deep = .lst ds := ⟨_, deepG.symm⟩
    clear deepG
    refine Later.go ?_
    walk_at "g"
    iterate 4 refine And.intro (by decide) ?_
    refine ⟨1, rfl, rfl, fun d1 q1 f1 lo1 one1 => ?_⟩
    have t1 : ThingZ K (sup S' d1 (.raw (pinO d1 q1))) (.loc d1) none := .raw ⟨d1, q1, rfl, sup_same, lo1, one1⟩ rfl
    have b1 : sup S' d1 (.raw (pinO d1 q1)) b = some .bag := (sup_ne (ne_new hb0 f1)).trans hb0
    generalize sup S' d1 (.raw (pinO d1 q1)) = S1 at t1 b1 ⊢
    walk_at "g"
    refine ⟨1, rfl, rfl, fun d2 q2 f2 lo2 one2 => ?_⟩
    have t2 : ThingZ K (sup S1 d2 (.raw (pinO d2 q2))) (.loc d2) none := .raw ⟨d2, q2, rfl, sup_same, lo2, one2⟩ rfl
    have t1 : ThingZ K (sup S1 d2 (.raw (pinO d2 q2))) (.loc d1) none := t1.grow f2
    have b1 : sup S1 d2 (.raw (pinO d2 q2)) b = some .bag := (sup_ne (ne_new b1 f2)).trans b1
    generalize sup S1 d2 (.raw (pinO d2 q2)) = S2 at t1 t2 b1 ⊢
    walk_at "g"
    refine ⟨1, rfl, rfl, fun d3 q3 f3 lo3 one3 => ?_⟩
    have t3 : ThingZ K (sup S2 d3 (.raw (pinO d3 q3))) (.loc d3) none := .raw ⟨d3, q3, rfl, sup_same, lo3, one3⟩ rfl
    have t1 : ThingZ K (sup S2 d3 (.raw (pinO d3 q3))) (.loc d1) none := t1.grow f3
    have t2 : ThingZ K (sup S2 d3 (.raw (pinO d3 q3))) (.loc d2) none := t2.grow f3
    have b1 : sup S2 d3 (.raw (pinO d3 q3)) b = some .bag := (sup_ne (ne_new b1 f3)).trans b1
    generalize sup S2 d3 (.raw (pinO d3 q3)) = S3 at t1 t2 t3 b1 ⊢
    walk_at "g"
    refine ⟨by decide, [.inr ("a" : Str), .inl 1], rfl, fun p4 f4 => ⟨by decide, by decide, [.inr ("a" : Str)], rfl, fun p5 f5 => ⟨by decide, ⟨by decide, by decide, by decide⟩, by decide, fun p6 f6 => Later.go ?_⟩⟩⟩
    have t4 := (thing_one (K := K) (S := S3) (p := p4) (key := [.inr ("a" : Str), .inl 1]) (d := .int 1) (by decide) ⟨"int", rfl, by decide⟩)
    have t1 := t1.grow (o := .dct [([.inr ("a" : Str), .inl 1], .dat (.int 1))]) f4
    have t2 := t2.grow (o := .dct [([.inr ("a" : Str), .inl 1], .dat (.int 1))]) f4
    have t3 := t3.grow (o := .dct [([.inr ("a" : Str), .inl 1], .dat (.int 1))]) f4
    have b1 := (sup_ne (o := .dct [([.inr ("a" : Str), .inl 1], .dat (.int 1))]) (ne_new b1 f4)).trans b1
    generalize sup S3 p4 (.dct [([.inr ("a" : Str), .inl 1], .dat (.int 1))]) = S4 at t1 t2 t3 t4 b1 f5 f6 ⊢
    have t5 := (thing_one (K := K) (S := S4) (p := p5) (key := [.inr ("a" : Str)]) (d := .lst [.int 1]) (by decide) ⟨"list", rfl, by decide⟩)
    have t1 := t1.grow (o := .dct [([.inr ("a" : Str)], .dat (.lst [.int 1]))]) f5
    have t2 := t2.grow (o := .dct [([.inr ("a" : Str)], .dat (.lst [.int 1]))]) f5
    have t3 := t3.grow (o := .dct [([.inr ("a" : Str)], .dat (.lst [.int 1]))]) f5
    have t4 := t4.grow (o := .dct [([.inr ("a" : Str)], .dat (.lst [.int 1]))]) f5
    have b1 := (sup_ne (o := .dct [([.inr ("a" : Str)], .dat (.lst [.int 1]))]) (ne_new b1 f5)).trans b1
    generalize sup S4 p5 (.dct [([.inr ("a" : Str)], .dat (.lst [.int 1]))]) = S5 at t1 t2 t3 t4 t5 b1 f6 ⊢
    have all : AllBad K S5 [.dat .non, .dat (.lst []), .dat (.tup []), .dat (.str ""), .dat (.int 5), .dat (.lst [.tup [.str ("a" : Str)]]), .loc d1, .loc d2, .loc d3, .loc p4, .loc p5, .dat (.lst (List.replicate (Int.toNat 9000) [D.non]).flatten)] := by
      refine .cons ⟨none, .ty (t := "NoneType") rfl (by decide) (by decide), rfl⟩ (.cons ⟨none, .ty (t := "list") rfl (by decide) (by decide), rfl⟩ (.cons ⟨none, .ty (t := "tuple") rfl (by decide) (by decide), rfl⟩ (.cons ⟨none, .ty (t := "str") rfl (by decide) (by decide), rfl⟩ (.cons ⟨none, .ty (t := "int") rfl (by decide) (by decide), rfl⟩
        (.cons ⟨none, .ty (t := "list") rfl (by decide) (by decide), rfl⟩ (.cons ⟨_, t1, rfl⟩ (.cons ⟨_, t2, rfl⟩ (.cons ⟨_, t3, rfl⟩ (.cons ⟨_, t4, by decide +kernel⟩ (.cons ⟨_, t5, by decide +kernel⟩ (.cons ⟨none, .ty (t := "list") rfl (by decide) (by decide), rfl⟩ .nil)))))))))))
    have len : ([.dat .non, .dat (.lst []), .dat (.tup []), .dat (.str ""), .dat (.int 5), .dat (.lst [.tup [.str ("a" : Str)]]), .loc d1, .loc d2, .loc d3, .loc p4, .loc p5, .dat (.lst (List.replicate (Int.toNat 9000) [D.non]).flatten)] : List G).length = 12 := rfl
    generalize ([.dat .non, .dat (.lst []), .dat (.tup []), .dat (.str ""), .dat (.int 5), .dat (.lst [.tup [.str ("a" : Str)]]), .loc d1, .loc d2, .loc d3, .loc p4, .loc p5, .dat (.lst (List.replicate (Int.toNat 9000) [D.non]).flatten)] : List G) = L at all len ⊢
    have h6 : sup S5 p6 (.lst L) p6 = some (.lst L) := sup_same
    have all := all.grow (o := .lst L) f6
    have b1 := (sup_ne (o := .lst L) (ne_new b1 f6)).trans b1
    generalize sup S5 p6 (.lst L) = S6 at all b1 h6 ⊢
    walk_at "g"
    intro p7 f7 z nz
    have te : ThingZ K (sup S6 p7 (.dct [])) (.loc p7) (some []) := .tab (t := []) sup_same (by decide) List.nodup_nil fun q h => nomatch h
    have all := all.grow (o := .dct []) f7
    have b1 := (sup_ne (o := .dct []) (ne_new b1 f7)).trans b1
    have h6 := (sup_ne (o := .dct []) (ne_new h6 f7)).trans h6
    refine zone_made te nz (fun c => absurd c (by decide)) fun u e1 e2 e3 w nw wz => ?_
    generalize sup S6 p7 (.dct []) = S7 at all b1 h6 te nz nw ⊢
    have nz' : sup S7 w (.dct (tbl fI u)) z = none := (sup_ne (Ne.symm wz)).trans nz
    have all := (all.grow (o := .dct (tbl fI u)) nw).grow (o := .ins Z.C_Zone [("_values", .loc w)]) nz'
    have b1 := (sup_ne (o := .dct (tbl fI u)) (ne_new b1 nw)).trans b1
    have h6 := (sup_ne (o := .dct (tbl fI u)) (ne_new h6 nw)).trans h6
    have b1 := (sup_ne (o := .ins Z.C_Zone [("_values", .loc w)]) (ne_new b1 nz')).trans b1
    have h6 := (sup_ne (o := .ins Z.C_Zone [("_values", .loc w)]) (ne_new h6 nz')).trans h6
    have tz : ThingZ K (sup (sup S7 w (.dct (tbl fI u))) z (.ins Z.C_Zone [("_values", .loc w)])) (.loc z) none := .own (C := Z.C_Zone) (by simp only [tyG, sup_same]) Z.own_Zone
    generalize sup (sup S7 w (.dct (tbl fI u))) z (.ins Z.C_Zone [("_values", .loc w)]) = S8 at all b1 h6 tz ⊢
    refine ⟨by decide, [.inr ("a" : Str)], rfl, fun p8 f8 => ⟨by decide, fun p9 f9 => ?_⟩⟩
    obtain ⟨ds, rfl⟩ := dk
    have t8 := (thing_one (K := K) (S := S8) (p := p8) (key := [.inr ("a" : Str)]) (d := .lst ds) (by decide) ⟨"list", rfl, by decide⟩)
    have all := all.grow (o := .dct [([.inr ("a" : Str)], .dat (.lst ds))]) f8
    have tz := tz.grow (o := .dct [([.inr ("a" : Str)], .dat (.lst ds))]) f8
    have b1 := (sup_ne (o := .dct [([.inr ("a" : Str)], .dat (.lst ds))]) (ne_new b1 f8)).trans b1
    have h6 := (sup_ne (o := .dct [([.inr ("a" : Str)], .dat (.lst ds))]) (ne_new h6 f8)).trans h6
    generalize sup S8 p8 (.dct [([.inr ("a" : Str)], .dat (.lst ds))]) = S9 at all b1 h6 tz t8 f9 ⊢
    have bad8 : zonB (some [(([.inr ("a" : Str)] : List L2.Key), D.lst ds)]) = false := by
      show okTabD _ = false
      unfold okTabD okEnt
      simp [numD]
    have all2 : AllBad K S9 [.dat (.lst ds), .loc z, .loc p8] := .cons ⟨none, .ty (t := "list") rfl (by decide) (by decide), rfl⟩ (.cons ⟨_, tz, rfl⟩ (.cons ⟨_, t8, bad8⟩ .nil))
    have all := (all.app all2).grow (o := .lst [.dat (.lst ds), .loc z, .loc p8]) f9
    have b1 := (sup_ne (o := .lst [.dat (.lst ds), .loc z, .loc p8]) (ne_new b1 f9)).trans b1
    have h6 := (sup_ne (o := .lst [.dat (.lst ds), .loc z, .loc p8]) (ne_new h6 f9)).trans h6
    have h9 : sup S9 p9 (.lst [.dat (.lst ds), .loc z, .loc p8]) p9 = some (.lst [.dat (.lst ds), .loc z, .loc p8]) := sup_same
    have len2 : (L ++ [G.dat (.lst ds), .loc z, .loc p8]).length = 15 := by rw [List.length_append, len]; rfl
    generalize sup S9 p9 (.lst [.dat (.lst ds), .loc z, .loc p8]) = S10 at all b1 h6 h9 ⊢
    unfold rAddL_
    rw [lstOf_loc h6, lstOf_loc h9]
    dsimp only
    refine ⟨by rw [len]; show 12 + 3 ≤ sizeLine; decide, fun p10 f10 => ?_⟩
    have all := all.grow (o := .lst (L ++ [.dat (.lst ds), .loc z, .loc p8])) f10
    have b1 := (sup_ne (o := .lst (L ++ [.dat (.lst ds), .loc z, .loc p8])) (ne_new b1 f10)).trans b1
    have h10 : sup S10 p10 (.lst (L ++ [.dat (.lst ds), .loc z, .loc p8])) p10 = some (.lst (L ++ [.dat (.lst ds), .loc z, .loc p8])) := sup_same
    generalize L ++ [G.dat (.lst ds), .loc z, .loc p8] = M at all b1 h10 len2 ⊢
    generalize sup S10 p10 (.lst M) = S11 at all b1 h10 ⊢
    refine take_n 15 b1 fun r lt => ?_
    rw [rIx_of (lstOf_loc h10)]
    have ltM : r < M.length := by omega
    have at_ : M[r]? = some M[r] := List.getElem?_eq_getElem ltM
    refine ⟨_, atI_nat at_, Later.go ?_⟩
    obtain ⟨a, ta, ba⟩ := all.mem _ (List.getElem_mem (by omega : r < M.length))
    generalize M[r] = g at ta
    walk_at "g"
    refine ⟨g, a, rfl, ta, fun _ => ⟨by decide, ?_⟩, fun u e oku _ => ?_⟩
    · rw [wrong_eq]
      refine ⟨by decide, [.inr ("a" : Str)], rfl, fun p nf z2 nz2 => ?_⟩
      have tp := (thing_one (K := K) (S := S11) (p := p) (key := [.inr ("a" : Str)]) (d := .int 1) (by decide) ⟨"int", rfl, by decide⟩)
      refine zone_made tp nz2 (fun c => absurd c (by decide +kernel)) fun u _ _ _ w2 nw2 wz2 => ?_
      refine ⟨.loc z2, none, rfl, .own (C := Z.C_Zone) (by simp only [tyG, sup_same]) Z.own_Zone, fun _ => ⟨by decide, ?_⟩, fun u e => nomatch e⟩
      rw [wrong_eq]
      exact rt_now (q _)
    · rw [e] at ba
      rw [show okTab u = okTabD (u.map entI) from (okD_ent u).symm, show okTabD (u.map entI) = false from ba] at oku
      cases oku

end
set_option maxHeartbeats 0 in
theorem all_mk {l : PySem.W.OpenLaw} {w : World} {K : PySem.W.Frag} {h : Heap} {mg : Str → Option Value} {fa C_Zone f_law_alike f_law_bag f_law_due f_law_labels f_law_mix f_law_names f_law_pick f_law_take f_law_tried f_law_values f_law_word f_are_values f_is_full f_is_integer f_is_label f_is_name f_is_number f_is_value f_law g_Zone_contains g_Zone_getitem g_Zone_init g_Zone_names C_Full C_ListError C_NoName C_Wrong g_Wrong_init : Addr} (X : K.In h) (G : h.Ns mainGlobals mg) (hfa : mg "law" = some (.ref fa))
    {oc_law_alike kV_law_alike dc_law_alike pm_law_alike cd_law_alike ct_law_alike : Value} {od_law_alike an_law_alike : Option Addr} {sl_law_alike : Array (Option Value)}
    {oc_law_bag kV_law_bag dc_law_bag pm_law_bag cd_law_bag ct_law_bag : Value} {od_law_bag an_law_bag : Option Addr} {sl_law_bag : Array (Option Value)}
    {oc_law_due kV_law_due dc_law_due pm_law_due cd_law_due ct_law_due : Value} {od_law_due an_law_due : Option Addr} {sl_law_due : Array (Option Value)}
    {oc_law_labels kV_law_labels dc_law_labels pm_law_labels cd_law_labels ct_law_labels : Value} {od_law_labels an_law_labels : Option Addr} {sl_law_labels : Array (Option Value)}
    {oc_law_mix kV_law_mix dc_law_mix pm_law_mix cd_law_mix ct_law_mix : Value} {od_law_mix an_law_mix : Option Addr} {sl_law_mix : Array (Option Value)}
    {oc_law_names kV_law_names dc_law_names pm_law_names cd_law_names ct_law_names : Value} {od_law_names an_law_names : Option Addr} {sl_law_names : Array (Option Value)}
    {oc_law_pick kV_law_pick dc_law_pick pm_law_pick cd_law_pick ct_law_pick : Value} {od_law_pick an_law_pick : Option Addr} {sl_law_pick : Array (Option Value)}
    {oc_law_take kV_law_take dc_law_take pm_law_take cd_law_take ct_law_take : Value} {od_law_take an_law_take : Option Addr} {sl_law_take : Array (Option Value)}
    {oc_law_tried kV_law_tried dc_law_tried pm_law_tried cd_law_tried ct_law_tried : Value} {od_law_tried an_law_tried : Option Addr} {sl_law_tried : Array (Option Value)}
    {oc_law_values kV_law_values dc_law_values pm_law_values cd_law_values ct_law_values : Value} {od_law_values an_law_values : Option Addr} {sl_law_values : Array (Option Value)}
    {oc_law_word kV_law_word dc_law_word pm_law_word cd_law_word ct_law_word : Value} {od_law_word an_law_word : Option Addr} {sl_law_word : Array (Option Value)}
    {oc_are_values kV_are_values dc_are_values pm_are_values cd_are_values ct_are_values : Value} {od_are_values an_are_values : Option Addr} {sl_are_values : Array (Option Value)}
    {oc_is_full kV_is_full dc_is_full pm_is_full cd_is_full ct_is_full : Value} {od_is_full an_is_full : Option Addr} {sl_is_full : Array (Option Value)}
    {oc_is_integer kV_is_integer dc_is_integer pm_is_integer cd_is_integer ct_is_integer : Value} {od_is_integer an_is_integer : Option Addr} {sl_is_integer : Array (Option Value)}
    {oc_is_label kV_is_label dc_is_label pm_is_label cd_is_label ct_is_label : Value} {od_is_label an_is_label : Option Addr} {sl_is_label : Array (Option Value)}
    {oc_is_name kV_is_name dc_is_name pm_is_name cd_is_name ct_is_name : Value} {od_is_name an_is_name : Option Addr} {sl_is_name : Array (Option Value)}
    {oc_is_number kV_is_number dc_is_number pm_is_number cd_is_number ct_is_number : Value} {od_is_number an_is_number : Option Addr} {sl_is_number : Array (Option Value)}
    {oc_is_value kV_is_value dc_is_value pm_is_value cd_is_value ct_is_value : Value} {od_is_value an_is_value : Option Addr} {sl_is_value : Array (Option Value)}
    {oc_law kV_law dc_law pm_law cd_law ct_law : Value} {od_law an_law : Option Addr} {sl_law : Array (Option Value)}
    {oc_Zone_contains kV_Zone_contains dc_Zone_contains pm_Zone_contains cd_Zone_contains ct_Zone_contains : Value} {od_Zone_contains an_Zone_contains : Option Addr} {sl_Zone_contains : Array (Option Value)}
    {oc_Zone_getitem kV_Zone_getitem dc_Zone_getitem pm_Zone_getitem cd_Zone_getitem ct_Zone_getitem : Value} {od_Zone_getitem an_Zone_getitem : Option Addr} {sl_Zone_getitem : Array (Option Value)}
    {oc_Zone_init kV_Zone_init dc_Zone_init pm_Zone_init cd_Zone_init ct_Zone_init : Value} {od_Zone_init an_Zone_init : Option Addr} {sl_Zone_init : Array (Option Value)}
    {oc_Zone_names kV_Zone_names dc_Zone_names pm_Zone_names cd_Zone_names ct_Zone_names : Value} {od_Zone_names an_Zone_names : Option Addr} {sl_Zone_names : Array (Option Value)}
    {oc_Wrong_init kV_Wrong_init dc_Wrong_init pm_Wrong_init cd_Wrong_init ct_Wrong_init : Value} {od_Wrong_init an_Wrong_init : Option Addr} {sl_Wrong_init : Array (Option Value)}
    {tk_GREATEST_VALUE : Tok}
    {tk_LABEL_SIGNS : Tok}
    {tk_MOST_NAMES : Tok}
    (a_law_alike : PySem.W.nsIn K mainGlobals "_law_alike" = some (some (.ref f_law_alike)))
    (l_law_alike : K.lookup f_law_alike = some ⟨oc_law_alike, od_law_alike, .func (PySem.W.fnOf "_law_alike" "_law_alike" (defArgs s_law_alike) (defBody s_law_alike) (defScope s_law_alike) .none kV_law_alike dc_law_alike pm_law_alike an_law_alike cd_law_alike ct_law_alike), sl_law_alike⟩)
    (c_law_alike : PySem.W.codeIn K cd_law_alike "_law_alike" = true)
    (k_law_alike : PySem.W.keepIn K (.ref f_law_alike) = true)
    (a_law_bag : PySem.W.nsIn K mainGlobals "_law_bag" = some (some (.ref f_law_bag)))
    (l_law_bag : K.lookup f_law_bag = some ⟨oc_law_bag, od_law_bag, .func (PySem.W.fnOf "_law_bag" "_law_bag" (defArgs s_law_bag) (defBody s_law_bag) (defScope s_law_bag) .none kV_law_bag dc_law_bag pm_law_bag an_law_bag cd_law_bag ct_law_bag), sl_law_bag⟩)
    (c_law_bag : PySem.W.codeIn K cd_law_bag "_law_bag" = true)
    (k_law_bag : PySem.W.keepIn K (.ref f_law_bag) = true)
    (a_law_due : PySem.W.nsIn K mainGlobals "_law_due" = some (some (.ref f_law_due)))
    (l_law_due : K.lookup f_law_due = some ⟨oc_law_due, od_law_due, .func (PySem.W.fnOf "_law_due" "_law_due" (defArgs s_law_due) (defBody s_law_due) (defScope s_law_due) .none kV_law_due dc_law_due pm_law_due an_law_due cd_law_due ct_law_due), sl_law_due⟩)
    (c_law_due : PySem.W.codeIn K cd_law_due "_law_due" = true)
    (k_law_due : PySem.W.keepIn K (.ref f_law_due) = true)
    (a_law_labels : PySem.W.nsIn K mainGlobals "_law_labels" = some (some (.ref f_law_labels)))
    (l_law_labels : K.lookup f_law_labels = some ⟨oc_law_labels, od_law_labels, .func (PySem.W.fnOf "_law_labels" "_law_labels" (defArgs s_law_labels) (defBody s_law_labels) (defScope s_law_labels) .none kV_law_labels dc_law_labels pm_law_labels an_law_labels cd_law_labels ct_law_labels), sl_law_labels⟩)
    (c_law_labels : PySem.W.codeIn K cd_law_labels "_law_labels" = true)
    (k_law_labels : PySem.W.keepIn K (.ref f_law_labels) = true)
    (a_law_mix : PySem.W.nsIn K mainGlobals "_law_mix" = some (some (.ref f_law_mix)))
    (l_law_mix : K.lookup f_law_mix = some ⟨oc_law_mix, od_law_mix, .func (PySem.W.fnOf "_law_mix" "_law_mix" (defArgs s_law_mix) (defBody s_law_mix) (defScope s_law_mix) .none kV_law_mix dc_law_mix pm_law_mix an_law_mix cd_law_mix ct_law_mix), sl_law_mix⟩)
    (c_law_mix : PySem.W.codeIn K cd_law_mix "_law_mix" = true)
    (k_law_mix : PySem.W.keepIn K (.ref f_law_mix) = true)
    (a_law_names : PySem.W.nsIn K mainGlobals "_law_names" = some (some (.ref f_law_names)))
    (l_law_names : K.lookup f_law_names = some ⟨oc_law_names, od_law_names, .func (PySem.W.fnOf "_law_names" "_law_names" (defArgs s_law_names) (defBody s_law_names) (defScope s_law_names) .none kV_law_names dc_law_names pm_law_names an_law_names cd_law_names ct_law_names), sl_law_names⟩)
    (c_law_names : PySem.W.codeIn K cd_law_names "_law_names" = true)
    (k_law_names : PySem.W.keepIn K (.ref f_law_names) = true)
    (a_law_pick : PySem.W.nsIn K mainGlobals "_law_pick" = some (some (.ref f_law_pick)))
    (l_law_pick : K.lookup f_law_pick = some ⟨oc_law_pick, od_law_pick, .func (PySem.W.fnOf "_law_pick" "_law_pick" (defArgs s_law_pick) (defBody s_law_pick) (defScope s_law_pick) .none kV_law_pick dc_law_pick pm_law_pick an_law_pick cd_law_pick ct_law_pick), sl_law_pick⟩)
    (c_law_pick : PySem.W.codeIn K cd_law_pick "_law_pick" = true)
    (k_law_pick : PySem.W.keepIn K (.ref f_law_pick) = true)
    (a_law_take : PySem.W.nsIn K mainGlobals "_law_take" = some (some (.ref f_law_take)))
    (l_law_take : K.lookup f_law_take = some ⟨oc_law_take, od_law_take, .func (PySem.W.fnOf "_law_take" "_law_take" (defArgs s_law_take) (defBody s_law_take) (defScope s_law_take) .none kV_law_take dc_law_take pm_law_take an_law_take cd_law_take ct_law_take), sl_law_take⟩)
    (c_law_take : PySem.W.codeIn K cd_law_take "_law_take" = true)
    (k_law_take : PySem.W.keepIn K (.ref f_law_take) = true)
    (a_law_tried : PySem.W.nsIn K mainGlobals "_law_tried" = some (some (.ref f_law_tried)))
    (l_law_tried : K.lookup f_law_tried = some ⟨oc_law_tried, od_law_tried, .func (PySem.W.fnOf "_law_tried" "_law_tried" (defArgs s_law_tried) (defBody s_law_tried) (defScope s_law_tried) .none kV_law_tried dc_law_tried pm_law_tried an_law_tried cd_law_tried ct_law_tried), sl_law_tried⟩)
    (c_law_tried : PySem.W.codeIn K cd_law_tried "_law_tried" = true)
    (k_law_tried : PySem.W.keepIn K (.ref f_law_tried) = true)
    (a_law_values : PySem.W.nsIn K mainGlobals "_law_values" = some (some (.ref f_law_values)))
    (l_law_values : K.lookup f_law_values = some ⟨oc_law_values, od_law_values, .func (PySem.W.fnOf "_law_values" "_law_values" (defArgs s_law_values) (defBody s_law_values) (defScope s_law_values) .none kV_law_values dc_law_values pm_law_values an_law_values cd_law_values ct_law_values), sl_law_values⟩)
    (c_law_values : PySem.W.codeIn K cd_law_values "_law_values" = true)
    (k_law_values : PySem.W.keepIn K (.ref f_law_values) = true)
    (a_law_word : PySem.W.nsIn K mainGlobals "_law_word" = some (some (.ref f_law_word)))
    (l_law_word : K.lookup f_law_word = some ⟨oc_law_word, od_law_word, .func (PySem.W.fnOf "_law_word" "_law_word" (defArgs s_law_word) (defBody s_law_word) (defScope s_law_word) .none kV_law_word dc_law_word pm_law_word an_law_word cd_law_word ct_law_word), sl_law_word⟩)
    (c_law_word : PySem.W.codeIn K cd_law_word "_law_word" = true)
    (k_law_word : PySem.W.keepIn K (.ref f_law_word) = true)
    (a_are_values : PySem.W.nsIn K mainGlobals "are_values" = some (some (.ref f_are_values)))
    (l_are_values : K.lookup f_are_values = some ⟨oc_are_values, od_are_values, .func (PySem.W.fnOf "are_values" "are_values" (defArgs s_are_values) (defBody s_are_values) (defScope s_are_values) .none kV_are_values dc_are_values pm_are_values an_are_values cd_are_values ct_are_values), sl_are_values⟩)
    (c_are_values : PySem.W.codeIn K cd_are_values "are_values" = true)
    (k_are_values : PySem.W.keepIn K (.ref f_are_values) = true)
    (a_is_full : PySem.W.nsIn K mainGlobals "is_full" = some (some (.ref f_is_full)))
    (l_is_full : K.lookup f_is_full = some ⟨oc_is_full, od_is_full, .func (PySem.W.fnOf "is_full" "is_full" (defArgs s_is_full) (defBody s_is_full) (defScope s_is_full) .none kV_is_full dc_is_full pm_is_full an_is_full cd_is_full ct_is_full), sl_is_full⟩)
    (c_is_full : PySem.W.codeIn K cd_is_full "is_full" = true)
    (k_is_full : PySem.W.keepIn K (.ref f_is_full) = true)
    (a_is_integer : PySem.W.nsIn K mainGlobals "is_integer" = some (some (.ref f_is_integer)))
    (l_is_integer : K.lookup f_is_integer = some ⟨oc_is_integer, od_is_integer, .func (PySem.W.fnOf "is_integer" "is_integer" (defArgs s_is_integer) (defBody s_is_integer) (defScope s_is_integer) .none kV_is_integer dc_is_integer pm_is_integer an_is_integer cd_is_integer ct_is_integer), sl_is_integer⟩)
    (c_is_integer : PySem.W.codeIn K cd_is_integer "is_integer" = true)
    (k_is_integer : PySem.W.keepIn K (.ref f_is_integer) = true)
    (a_is_label : PySem.W.nsIn K mainGlobals "is_label" = some (some (.ref f_is_label)))
    (l_is_label : K.lookup f_is_label = some ⟨oc_is_label, od_is_label, .func (PySem.W.fnOf "is_label" "is_label" (defArgs s_is_label) (defBody s_is_label) (defScope s_is_label) .none kV_is_label dc_is_label pm_is_label an_is_label cd_is_label ct_is_label), sl_is_label⟩)
    (c_is_label : PySem.W.codeIn K cd_is_label "is_label" = true)
    (k_is_label : PySem.W.keepIn K (.ref f_is_label) = true)
    (a_is_name : PySem.W.nsIn K mainGlobals "is_name" = some (some (.ref f_is_name)))
    (l_is_name : K.lookup f_is_name = some ⟨oc_is_name, od_is_name, .func (PySem.W.fnOf "is_name" "is_name" (defArgs s_is_name) (defBody s_is_name) (defScope s_is_name) .none kV_is_name dc_is_name pm_is_name an_is_name cd_is_name ct_is_name), sl_is_name⟩)
    (c_is_name : PySem.W.codeIn K cd_is_name "is_name" = true)
    (k_is_name : PySem.W.keepIn K (.ref f_is_name) = true)
    (a_is_number : PySem.W.nsIn K mainGlobals "is_number" = some (some (.ref f_is_number)))
    (l_is_number : K.lookup f_is_number = some ⟨oc_is_number, od_is_number, .func (PySem.W.fnOf "is_number" "is_number" (defArgs s_is_number) (defBody s_is_number) (defScope s_is_number) .none kV_is_number dc_is_number pm_is_number an_is_number cd_is_number ct_is_number), sl_is_number⟩)
    (c_is_number : PySem.W.codeIn K cd_is_number "is_number" = true)
    (k_is_number : PySem.W.keepIn K (.ref f_is_number) = true)
    (a_is_value : PySem.W.nsIn K mainGlobals "is_value" = some (some (.ref f_is_value)))
    (l_is_value : K.lookup f_is_value = some ⟨oc_is_value, od_is_value, .func (PySem.W.fnOf "is_value" "is_value" (defArgs s_is_value) (defBody s_is_value) (defScope s_is_value) .none kV_is_value dc_is_value pm_is_value an_is_value cd_is_value ct_is_value), sl_is_value⟩)
    (c_is_value : PySem.W.codeIn K cd_is_value "is_value" = true)
    (k_is_value : PySem.W.keepIn K (.ref f_is_value) = true)
    (a_law : PySem.W.nsIn K mainGlobals "law" = some (some (.ref f_law)))
    (l_law : K.lookup f_law = some ⟨oc_law, od_law, .func (PySem.W.fnOf "law" "law" (defArgs s_law) (defBody s_law) (defScope s_law) .none kV_law dc_law pm_law an_law cd_law ct_law), sl_law⟩)
    (c_law : PySem.W.codeIn K cd_law "law" = true)
    (k_law : PySem.W.keepIn K (.ref f_law) = true)
    (cC_Zone : PySem.W.nsIn K mainGlobals "Zone" = some (some (.ref C_Zone)))
    (pg_Zone : PySem.W.plainGet K C_Zone Str.empty = true)
    (hd_Zone : PySem.W.hasDictIn K C_Zone = true)
    (po_Zone : PySem.W.plainOver K C_Zone = true)
    (sa_Zone : PySem.W.findIn K (.ref C_Zone) "__setattr__" = some (some (.builtin "object.__setattr__")))
    (oa_Zone : PySem.W.findIn K (.ref C_Zone) "__class__" = some (some (.builtin "object.__class__")))
    (om_Zone : PySem.W.mroIn K C_Zone (.type "object") = some true)
    (oi_Zone : PySem.W.kitOne K (.ref C_Zone) (.type "int") = some false)
    (os_Zone : PySem.W.kitOne K (.ref C_Zone) (.type "str") = some false)
    (ou_Zone : PySem.W.kitOne K (.ref C_Zone) (.type "tuple") = some false)
    (oz_Zone : PySem.W.kitOne K (.ref C_Zone) (.type "list") = some false)
    (od_Zone : PySem.W.kitOne K (.ref C_Zone) (.type "dict") = some false)
    (ob_Zone : PySem.W.kitOne K (.ref C_Zone) (.type "bool") = some false)
    (obj_n : PySem.W.specialIn K (.builtin "object.__class__") "__get__" = some (some (.builtin "getset_descriptor.__get__")))
    (obj_t : PySem.W.takesIn K (.builtin "object.__class__") = some true)
    (ma_Zone_contains : PySem.W.findIn K (.ref C_Zone) "__contains__" = some (some (.ref g_Zone_contains)))
    (mi_Zone_contains : PySem.W.isFn K (.ref g_Zone_contains) = true)
    (l_Zone_contains : K.lookup g_Zone_contains = some ⟨oc_Zone_contains, od_Zone_contains, .func (PySem.W.fnOf "__contains__" "Zone.__contains__" (defArgs s_Zone_contains) (defBody s_Zone_contains) (defScope s_Zone_contains) .none kV_Zone_contains dc_Zone_contains pm_Zone_contains an_Zone_contains cd_Zone_contains ct_Zone_contains), sl_Zone_contains⟩)
    (c_Zone_contains : PySem.W.codeIn K cd_Zone_contains "Zone.__contains__" = true)
    (k_Zone_contains : PySem.W.keepIn K (.ref g_Zone_contains) = true)
    (ma_Zone_getitem : PySem.W.findIn K (.ref C_Zone) "__getitem__" = some (some (.ref g_Zone_getitem)))
    (mi_Zone_getitem : PySem.W.isFn K (.ref g_Zone_getitem) = true)
    (l_Zone_getitem : K.lookup g_Zone_getitem = some ⟨oc_Zone_getitem, od_Zone_getitem, .func (PySem.W.fnOf "__getitem__" "Zone.__getitem__" (defArgs s_Zone_getitem) (defBody s_Zone_getitem) (defScope s_Zone_getitem) .none kV_Zone_getitem dc_Zone_getitem pm_Zone_getitem an_Zone_getitem cd_Zone_getitem ct_Zone_getitem), sl_Zone_getitem⟩)
    (c_Zone_getitem : PySem.W.codeIn K cd_Zone_getitem "Zone.__getitem__" = true)
    (k_Zone_getitem : PySem.W.keepIn K (.ref g_Zone_getitem) = true)
    (mf_Zone_getitem : PySem.W.fnIn K g_Zone_getitem = true)
    (ma_Zone_init : PySem.W.findIn K (.ref C_Zone) "__init__" = some (some (.ref g_Zone_init)))
    (mi_Zone_init : PySem.W.isFn K (.ref g_Zone_init) = true)
    (l_Zone_init : K.lookup g_Zone_init = some ⟨oc_Zone_init, od_Zone_init, .func (PySem.W.fnOf "__init__" "Zone.__init__" (defArgs s_Zone_init) (defBody s_Zone_init) (defScope s_Zone_init) .none kV_Zone_init dc_Zone_init pm_Zone_init an_Zone_init cd_Zone_init ct_Zone_init), sl_Zone_init⟩)
    (c_Zone_init : PySem.W.codeIn K cd_Zone_init "Zone.__init__" = true)
    (k_Zone_init : PySem.W.keepIn K (.ref g_Zone_init) = true)
    (ma_Zone_names : PySem.W.findIn K (.ref C_Zone) "names" = some (some (.ref g_Zone_names)))
    (mi_Zone_names : PySem.W.isFn K (.ref g_Zone_names) = true)
    (l_Zone_names : K.lookup g_Zone_names = some ⟨oc_Zone_names, od_Zone_names, .func (PySem.W.fnOf "names" "Zone.names" (defArgs s_Zone_names) (defBody s_Zone_names) (defScope s_Zone_names) .none kV_Zone_names dc_Zone_names pm_Zone_names an_Zone_names cd_Zone_names ct_Zone_names), sl_Zone_names⟩)
    (c_Zone_names : PySem.W.codeIn K cd_Zone_names "Zone.names" = true)
    (k_Zone_names : PySem.W.keepIn K (.ref g_Zone_names) = true)
    (na_Zone__values : PySem.W.findIn K (.ref C_Zone) "_values" = some none)
    (mm_Zone : PySem.W.makesIn K C_Zone = true)
    (kc_Zone : PySem.W.keepIn K (.ref C_Zone) = true)
    (cC_Full : PySem.W.nsIn K mainGlobals "Full" = some (some (.ref C_Full)))
    (eb_Full : errB K C_Full = true)
    (cC_ListError : PySem.W.nsIn K mainGlobals "ListError" = some (some (.ref C_ListError)))
    (eb_ListError : errB K C_ListError = true)
    (cC_NoName : PySem.W.nsIn K mainGlobals "NoName" = some (some (.ref C_NoName)))
    (eb_NoName : errB K C_NoName = true)
    (cC_Wrong : PySem.W.nsIn K mainGlobals "Wrong" = some (some (.ref C_Wrong)))
    (eb_Wrong : errB K C_Wrong = true)
    (ma_Wrong_init : PySem.W.findIn K (.ref C_Wrong) "__init__" = some (some (.ref g_Wrong_init)))
    (ti_Wrong_init : PySem.W.typeIn K (.ref g_Wrong_init) = some (.type "function"))
    (nf_Wrong : PySem.W.findIn K (.ref C_Wrong) "place" = some none)
    (l_Wrong_init : K.lookup g_Wrong_init = some ⟨oc_Wrong_init, od_Wrong_init, .func (PySem.W.fnOf "__init__" "Wrong.__init__" (defArgs s_Wrong_init) (defBody s_Wrong_init) (defScope s_Wrong_init) .none kV_Wrong_init dc_Wrong_init pm_Wrong_init an_Wrong_init cd_Wrong_init ct_Wrong_init), sl_Wrong_init⟩)
    (c_Wrong_init : PySem.W.codeIn K cd_Wrong_init "Wrong.__init__" = true)
    (k_Wrong_init : PySem.W.keepIn K (.ref g_Wrong_init) = true)
    (ki_Wrong_Full : PySem.W.kitOne K (.ref C_Wrong) (.ref C_Full) = some false)
    (ki_Wrong_ListError : PySem.W.kitOne K (.ref C_Wrong) (.ref C_ListError) = some true)
    (ex_Wrong_ListError : PySem.W.exmOne K (.ref C_Wrong) (.ref C_ListError) = some true)
    (ki_Wrong_NoName : PySem.W.kitOne K (.ref C_Wrong) (.ref C_NoName) = some false)
    (ki_Wrong_Wrong : PySem.W.kitOne K (.ref C_Wrong) (.ref C_Wrong) = some true)
    (gl_GREATEST_VALUE : PySem.W.nsIn K mainGlobals "GREATEST_VALUE" = some (some (.int 999 tk_GREATEST_VALUE)))
    (gl_LABEL_SIGNS : PySem.W.nsIn K mainGlobals "LABEL_SIGNS" = some (some (.int 8 tk_LABEL_SIGNS)))
    (gl_MOST_NAMES : PySem.W.nsIn K mainGlobals "MOST_NAMES" = some (some (.int 30 tk_MOST_NAMES)))
    (z_abs : PySem.W.nsIn K mainGlobals "abs" = some none)
    (z_all : PySem.W.nsIn K mainGlobals "all" = some none)
    (z_bool : PySem.W.nsIn K mainGlobals "bool" = some none)
    (z_dict : PySem.W.nsIn K mainGlobals "dict" = some none)
    (z_int : PySem.W.nsIn K mainGlobals "int" = some none)
    (z_isinstance : PySem.W.nsIn K mainGlobals "isinstance" = some none)
    (z_len : PySem.W.nsIn K mainGlobals "len" = some none)
    (z_list : PySem.W.nsIn K mainGlobals "list" = some none)
    (z_max : PySem.W.nsIn K mainGlobals "max" = some none)
    (z_min : PySem.W.nsIn K mainGlobals "min" = some none)
    (z_range : PySem.W.nsIn K mainGlobals "range" = some none)
    (z_repr : PySem.W.nsIn K mainGlobals "repr" = some none)
    (z_sorted : PySem.W.nsIn K mainGlobals "sorted" = some none)
    (z_str : PySem.W.nsIn K mainGlobals "str" = some none)
    (z_tuple : PySem.W.nsIn K mainGlobals "tuple" = some none) :
    ∃ fd : FuncData, (∀ (s : Shared) (v : Value), BindsTo s fd ⟨[v], []⟩ [("_law_script", v)]) ∧ ∀ base : Heap, K.In base → base.Ns mainGlobals mg → FnQ l.prog w K mg base 14 fa fd ["_law_script"] (spG K gs_law) := by
  have e := hfa.symm.trans (PySem.W.mg_of X G a_law)
  have e : fa = f_law := by cases e; rfl
  rw [e]
  have F_law_alike := fun_mk (st := s_law_alike) l_law_alike c_law_alike k_law_alike
  have b_law_alike := F_law_alike.binds (ps := ["_law_found", "_law_right"]) fun _ _ _ _ _ _ us hl => match us, hl with | [_, _], _ => rfl
  have F_law_bag := fun_mk (st := s_law_bag) l_law_bag c_law_bag k_law_bag
  have b_law_bag := F_law_bag.binds (ps := ["_law_script"]) fun _ _ _ _ _ _ us hl => match us, hl with | [_], _ => rfl
  have F_law_due := fun_mk (st := s_law_due) l_law_due c_law_due k_law_due
  have b_law_due := F_law_due.binds (ps := ["_law_thing"]) fun _ _ _ _ _ _ us hl => match us, hl with | [_], _ => rfl
  have F_law_labels := fun_mk (st := s_law_labels) l_law_labels c_law_labels k_law_labels
  have b_law_labels := F_law_labels.binds (ps := ["_law_bag_here", "_law_many"]) fun _ _ _ _ _ _ us hl => match us, hl with | [_, _], _ => rfl
  have F_law_mix := fun_mk (st := s_law_mix) l_law_mix c_law_mix k_law_mix
  have b_law_mix := F_law_mix.binds (ps := ["_law_bag_here", "_law_some"]) fun _ _ _ _ _ _ us hl => match us, hl with | [_, _], _ => rfl
  have F_law_names := fun_mk (st := s_law_names) l_law_names c_law_names k_law_names
  have b_law_names := F_law_names.binds (ps := ["_law_bag_here", "_law_labels_here", "_law_many", "_law_most"]) fun _ _ _ _ _ _ us hl => match us, hl with | [_, _, _, _], _ => rfl
  have F_law_pick := fun_mk (st := s_law_pick) l_law_pick c_law_pick k_law_pick
  have b_law_pick := F_law_pick.binds (ps := ["_law_bag_here", "_law_some"]) fun _ _ _ _ _ _ us hl => match us, hl with | [_, _], _ => rfl
  have F_law_take := fun_mk (st := s_law_take) l_law_take c_law_take k_law_take
  have b_law_take := F_law_take.binds (ps := ["_law_bag_here", "_law_many"]) fun _ _ _ _ _ _ us hl => match us, hl with | [_, _], _ => rfl
  have F_law_tried := fun_mk (st := s_law_tried) l_law_tried c_law_tried k_law_tried
  have b_law_tried := F_law_tried.binds (ps := ["_law_thing"]) fun _ _ _ _ _ _ us hl => match us, hl with | [_], _ => rfl
  have F_law_values := fun_mk (st := s_law_values) l_law_values c_law_values k_law_values
  have b_law_values := F_law_values.binds (ps := ["_law_bag_here", "_law_names_here"]) fun _ _ _ _ _ _ us hl => match us, hl with | [_, _], _ => rfl
  have F_law_word := fun_mk (st := s_law_word) l_law_word c_law_word k_law_word
  have b_law_word := F_law_word.binds (ps := ["_law_bag_here", "_law_labels_here", "_law_least", "_law_most"]) fun _ _ _ _ _ _ us hl => match us, hl with | [_, _, _, _], _ => rfl
  have F_are_values := fun_mk (st := s_are_values) l_are_values c_are_values k_are_values
  have b_are_values := F_are_values.binds (ps := ["thing"]) fun _ _ _ _ _ _ us hl => match us, hl with | [_], _ => rfl
  have F_is_full := fun_mk (st := s_is_full) l_is_full c_is_full k_is_full
  have b_is_full := F_is_full.binds (ps := ["thing"]) fun _ _ _ _ _ _ us hl => match us, hl with | [_], _ => rfl
  have F_is_integer := fun_mk (st := s_is_integer) l_is_integer c_is_integer k_is_integer
  have b_is_integer := F_is_integer.binds (ps := ["thing"]) fun _ _ _ _ _ _ us hl => match us, hl with | [_], _ => rfl
  have F_is_label := fun_mk (st := s_is_label) l_is_label c_is_label k_is_label
  have b_is_label := F_is_label.binds (ps := ["thing"]) fun _ _ _ _ _ _ us hl => match us, hl with | [_], _ => rfl
  have F_is_name := fun_mk (st := s_is_name) l_is_name c_is_name k_is_name
  have b_is_name := F_is_name.binds (ps := ["thing"]) fun _ _ _ _ _ _ us hl => match us, hl with | [_], _ => rfl
  have F_is_number := fun_mk (st := s_is_number) l_is_number c_is_number k_is_number
  have b_is_number := F_is_number.binds (ps := ["many", "thing"]) fun _ _ _ _ _ _ us hl => match us, hl with | [_, _], _ => rfl
  have F_is_value := fun_mk (st := s_is_value) l_is_value c_is_value k_is_value
  have b_is_value := F_is_value.binds (ps := ["thing"]) fun _ _ _ _ _ _ us hl => match us, hl with | [_], _ => rfl
  have F_law := fun_mk (st := s_law) l_law c_law k_law
  have b_law := F_law.binds (ps := ["_law_script"]) fun _ _ _ _ _ _ us hl => match us, hl with | [_], _ => rfl
  have cl_Zone : Cls K C_Zone := ⟨pg_Zone, hd_Zone, po_Zone, sa_Zone⟩
  have F_Zone_contains := fun_mk (st := s_Zone_contains) l_Zone_contains c_Zone_contains k_Zone_contains
  have b_Zone_contains := F_Zone_contains.binds (ps := ["self", "x"]) fun _ _ _ _ _ _ us hl => match us, hl with | [_, _], _ => rfl
  have F_Zone_getitem := fun_mk (st := s_Zone_getitem) l_Zone_getitem c_Zone_getitem k_Zone_getitem
  have b_Zone_getitem := F_Zone_getitem.binds (ps := ["self", "at"]) fun _ _ _ _ _ _ us hl => match us, hl with | [_, _], _ => rfl
  have F_Zone_init := fun_mk (st := s_Zone_init) l_Zone_init c_Zone_init k_Zone_init
  have b_Zone_init := F_Zone_init.binds (ps := ["self", "values"]) fun _ _ _ _ _ _ us hl => match us, hl with | [_, _], _ => rfl
  have F_Zone_names := fun_mk (st := s_Zone_names) l_Zone_names c_Zone_names k_Zone_names
  have b_Zone_names := F_Zone_names.binds (ps := ["self"]) fun _ _ _ _ _ _ us hl => match us, hl with | [_], _ => rfl
  have F_Wrong_init := fun_mk (st := s_Wrong_init) l_Wrong_init c_Wrong_init k_Wrong_init
  have b_Wrong_init := F_Wrong_init.binds (ps := ["self", "place"]) fun _ _ _ _ _ _ us hl => match us, hl with | [_, _], _ => rfl
  refine ⟨PySem.W.fnOf "law" "law" (defArgs s_law) (defBody s_law) (defScope s_law) .none kV_law dc_law pm_law an_law cd_law ct_law, fun s v => .of_eq rfl, fun base _ _ => ?_⟩
  exact ((ok_law (P := l.prog) (w := w) (base := base) (K := K) (mg := mg) {
    f_law_alike := f_law_alike,
    fd_law_alike := _,
    D_law_alike := ⟨F_law_alike, PySem.W.mg_of X G a_law_alike, b_law_alike⟩,
    f_law_bag := f_law_bag,
    fd_law_bag := _,
    D_law_bag := ⟨F_law_bag, PySem.W.mg_of X G a_law_bag, b_law_bag⟩,
    f_law_due := f_law_due,
    fd_law_due := _,
    D_law_due := ⟨F_law_due, PySem.W.mg_of X G a_law_due, b_law_due⟩,
    f_law_labels := f_law_labels,
    fd_law_labels := _,
    D_law_labels := ⟨F_law_labels, PySem.W.mg_of X G a_law_labels, b_law_labels⟩,
    f_law_mix := f_law_mix,
    fd_law_mix := _,
    D_law_mix := ⟨F_law_mix, PySem.W.mg_of X G a_law_mix, b_law_mix⟩,
    f_law_names := f_law_names,
    fd_law_names := _,
    D_law_names := ⟨F_law_names, PySem.W.mg_of X G a_law_names, b_law_names⟩,
    f_law_pick := f_law_pick,
    fd_law_pick := _,
    D_law_pick := ⟨F_law_pick, PySem.W.mg_of X G a_law_pick, b_law_pick⟩,
    f_law_take := f_law_take,
    fd_law_take := _,
    D_law_take := ⟨F_law_take, PySem.W.mg_of X G a_law_take, b_law_take⟩,
    f_law_tried := f_law_tried,
    fd_law_tried := _,
    D_law_tried := ⟨F_law_tried, PySem.W.mg_of X G a_law_tried, b_law_tried⟩,
    f_law_values := f_law_values,
    fd_law_values := _,
    D_law_values := ⟨F_law_values, PySem.W.mg_of X G a_law_values, b_law_values⟩,
    f_law_word := f_law_word,
    fd_law_word := _,
    D_law_word := ⟨F_law_word, PySem.W.mg_of X G a_law_word, b_law_word⟩,
    f_are_values := f_are_values,
    fd_are_values := _,
    D_are_values := ⟨F_are_values, PySem.W.mg_of X G a_are_values, b_are_values⟩,
    f_is_full := f_is_full,
    fd_is_full := _,
    D_is_full := ⟨F_is_full, PySem.W.mg_of X G a_is_full, b_is_full⟩,
    f_is_integer := f_is_integer,
    fd_is_integer := _,
    D_is_integer := ⟨F_is_integer, PySem.W.mg_of X G a_is_integer, b_is_integer⟩,
    f_is_label := f_is_label,
    fd_is_label := _,
    D_is_label := ⟨F_is_label, PySem.W.mg_of X G a_is_label, b_is_label⟩,
    f_is_name := f_is_name,
    fd_is_name := _,
    D_is_name := ⟨F_is_name, PySem.W.mg_of X G a_is_name, b_is_name⟩,
    f_is_number := f_is_number,
    fd_is_number := _,
    D_is_number := ⟨F_is_number, PySem.W.mg_of X G a_is_number, b_is_number⟩,
    f_is_value := f_is_value,
    fd_is_value := _,
    D_is_value := ⟨F_is_value, PySem.W.mg_of X G a_is_value, b_is_value⟩,
    f_law := f_law,
    fd_law := _,
    D_law := ⟨F_law, PySem.W.mg_of X G a_law, b_law⟩,
    C_Zone := C_Zone,
    m_Zone := PySem.W.mg_of X G cC_Zone,
    cl_Zone := cl_Zone,
    own_Zone := ⟨cl_Zone, oa_Zone, obj_n, obj_t, om_Zone, oi_Zone, os_Zone, ou_Zone, oz_Zone, od_Zone, ob_Zone⟩,
    g_Zone_contains := g_Zone_contains,
    gd_Zone_contains := _,
    F_Zone_contains := F_Zone_contains,
    b_Zone_contains := b_Zone_contains,
    du_Zone_contains := ⟨ma_Zone_contains, mi_Zone_contains⟩,
    g_Zone_getitem := g_Zone_getitem,
    gd_Zone_getitem := _,
    F_Zone_getitem := F_Zone_getitem,
    b_Zone_getitem := b_Zone_getitem,
    du_Zone_getitem := ⟨ma_Zone_getitem, mi_Zone_getitem⟩,
    fi_Zone_getitem := mf_Zone_getitem,
    g_Zone_init := g_Zone_init,
    gd_Zone_init := _,
    F_Zone_init := F_Zone_init,
    b_Zone_init := b_Zone_init,
    g_Zone_names := g_Zone_names,
    gd_Zone_names := _,
    F_Zone_names := F_Zone_names,
    b_Zone_names := b_Zone_names,
    me_Zone_names := ⟨ma_Zone_names, mi_Zone_names, k_Zone_names⟩,
    na_Zone__values := na_Zone__values,
    mk_Zone := ⟨mm_Zone, ma_Zone_init, mi_Zone_init, kc_Zone⟩,
    C_Full := C_Full,
    m_Full := PySem.W.mg_of X G cC_Full,
    er_Full := errB_ok eb_Full,
    C_ListError := C_ListError,
    m_ListError := PySem.W.mg_of X G cC_ListError,
    er_ListError := errB_ok eb_ListError,
    C_NoName := C_NoName,
    m_NoName := PySem.W.mg_of X G cC_NoName,
    er_NoName := errB_ok eb_NoName,
    C_Wrong := C_Wrong,
    m_Wrong := PySem.W.mg_of X G cC_Wrong,
    er_Wrong := errB_ok eb_Wrong,
    g_Wrong_init := g_Wrong_init,
    gd_Wrong_init := _,
    F_Wrong_init := F_Wrong_init,
    b_Wrong_init := b_Wrong_init,
    ii_Wrong := ⟨ma_Wrong_init, ti_Wrong_init⟩,
    nf_Wrong := nf_Wrong,
    ki_Wrong_Full := ki_Wrong_Full,
    ki_Wrong_ListError := ki_Wrong_ListError,
    ex_Wrong_ListError := ex_Wrong_ListError,
    ki_Wrong_NoName := ki_Wrong_NoName,
    ki_Wrong_Wrong := ki_Wrong_Wrong,
    tk_GREATEST_VALUE := tk_GREATEST_VALUE,
    m_GREATEST_VALUE := PySem.W.mg_of X G gl_GREATEST_VALUE,
    tk_LABEL_SIGNS := tk_LABEL_SIGNS,
    m_LABEL_SIGNS := PySem.W.mg_of X G gl_LABEL_SIGNS,
    tk_MOST_NAMES := tk_MOST_NAMES,
    m_MOST_NAMES := PySem.W.mg_of X G gl_MOST_NAMES,
    m_abs := PySem.W.mg_none_of X G z_abs,
    m_all := PySem.W.mg_none_of X G z_all,
    m_bool := PySem.W.mg_none_of X G z_bool,
    m_dict := PySem.W.mg_none_of X G z_dict,
    m_int := PySem.W.mg_none_of X G z_int,
    m_isinstance := PySem.W.mg_none_of X G z_isinstance,
    m_len := PySem.W.mg_none_of X G z_len,
    m_list := PySem.W.mg_none_of X G z_list,
    m_max := PySem.W.mg_none_of X G z_max,
    m_min := PySem.W.mg_none_of X G z_min,
    m_range := PySem.W.mg_none_of X G z_range,
    m_repr := PySem.W.mg_none_of X G z_repr,
    m_sorted := PySem.W.mg_none_of X G z_sorted,
    m_str := PySem.W.mg_none_of X G z_str,
    m_tuple := PySem.W.mg_none_of X G z_tuple })).q
end K17
open PySem PySem.W PyProof.Rows
set_option maxRecDepth 100000 in
set_option maxHeartbeats 0 in
theorem PySem.Challenge.cw_listnames_k17_zones_refused_holds : PySem.Challenge.rw_listnames_k17_zones_refused.Holds := by
  w_on; o_law; k_head; (case hw => w_witness2)
  k_fill
  refine LN.walk_ofQ (l := PySem.Challenge.rw_listnames_k17_zones_refused) (n := 63) (k := 14) (x := "_law_script") (sp := fun w => LN.spG _ LN.gs_law) rfl (by decide) rfl ⟨rfl, by decide, by decide⟩ (fun w h Y => PySem.W.kIn_of Y) ?F (fun _ _ a ns hl only hS => LN.law_want hl only hS)
  case F =>
    intro w mg fa h KX G hmg
    refine' K17.all_mk KX G hmg ?a_law_alike ?l_law_alike ?c_law_alike ?k_law_alike ?a_law_bag ?l_law_bag ?c_law_bag ?k_law_bag ?a_law_due ?l_law_due ?c_law_due ?k_law_due ?a_law_labels ?l_law_labels ?c_law_labels ?k_law_labels ?a_law_mix ?l_law_mix ?c_law_mix ?k_law_mix ?a_law_names ?l_law_names ?c_law_names ?k_law_names ?a_law_pick ?l_law_pick ?c_law_pick ?k_law_pick ?a_law_take ?l_law_take ?c_law_take ?k_law_take ?a_law_tried ?l_law_tried ?c_law_tried ?k_law_tried ?a_law_values ?l_law_values ?c_law_values ?k_law_values ?a_law_word ?l_law_word ?c_law_word ?k_law_word ?a_are_values ?l_are_values ?c_are_values ?k_are_values ?a_is_full ?l_is_full ?c_is_full ?k_is_full ?a_is_integer ?l_is_integer ?c_is_integer ?k_is_integer ?a_is_label ?l_is_label ?c_is_label ?k_is_label ?a_is_name ?l_is_name ?c_is_name ?k_is_name ?a_is_number ?l_is_number ?c_is_number ?k_is_number ?a_is_value ?l_is_value ?c_is_value ?k_is_value ?a_law ?l_law ?c_law ?k_law ?cC_Zone ?pg_Zone ?hd_Zone ?po_Zone ?sa_Zone ?oa_Zone ?om_Zone ?oi_Zone ?os_Zone ?ou_Zone ?oz_Zone ?od_Zone ?ob_Zone ?obj_n ?obj_t ?ma_Zone_contains ?mi_Zone_contains ?l_Zone_contains ?c_Zone_contains ?k_Zone_contains ?ma_Zone_getitem ?mi_Zone_getitem ?l_Zone_getitem ?c_Zone_getitem ?k_Zone_getitem ?mf_Zone_getitem ?ma_Zone_init ?mi_Zone_init ?l_Zone_init ?c_Zone_init ?k_Zone_init ?ma_Zone_names ?mi_Zone_names ?l_Zone_names ?c_Zone_names ?k_Zone_names ?na_Zone__values ?mm_Zone ?kc_Zone ?cC_Full ?eb_Full ?cC_ListError ?eb_ListError ?cC_NoName ?eb_NoName ?cC_Wrong ?eb_Wrong ?ma_Wrong_init ?ti_Wrong_init ?nf_Wrong ?l_Wrong_init ?c_Wrong_init ?k_Wrong_init ?ki_Wrong_Full ?ki_Wrong_ListError ?ex_Wrong_ListError ?ki_Wrong_NoName ?ki_Wrong_Wrong ?gl_GREATEST_VALUE ?gl_LABEL_SIGNS ?gl_MOST_NAMES ?z_abs ?z_all ?z_bool ?z_dict ?z_int ?z_isinstance ?z_len ?z_list ?z_max ?z_min ?z_range ?z_repr ?z_sorted ?z_str ?z_tuple
    (case a_law_alike => k_is)
    (case l_law_alike => k_is)
    (case c_law_alike => k_is)
    (case k_law_alike => k_is)
    (case a_law_bag => k_is)
    (case l_law_bag => k_is)
    (case c_law_bag => k_is)
    (case k_law_bag => k_is)
    (case a_law_due => k_is)
    (case l_law_due => k_is)
    (case c_law_due => k_is)
    (case k_law_due => k_is)
    (case a_law_labels => k_is)
    (case l_law_labels => k_is)
    (case c_law_labels => k_is)
    (case k_law_labels => k_is)
    (case a_law_mix => k_is)
    (case l_law_mix => k_is)
    (case c_law_mix => k_is)
    (case k_law_mix => k_is)
    (case a_law_names => k_is)
    (case l_law_names => k_is)
    (case c_law_names => k_is)
    (case k_law_names => k_is)
    (case a_law_pick => k_is)
    (case l_law_pick => k_is)
    (case c_law_pick => k_is)
    (case k_law_pick => k_is)
    (case a_law_take => k_is)
    (case l_law_take => k_is)
    (case c_law_take => k_is)
    (case k_law_take => k_is)
    (case a_law_tried => k_is)
    (case l_law_tried => k_is)
    (case c_law_tried => k_is)
    (case k_law_tried => k_is)
    (case a_law_values => k_is)
    (case l_law_values => k_is)
    (case c_law_values => k_is)
    (case k_law_values => k_is)
    (case a_law_word => k_is)
    (case l_law_word => k_is)
    (case c_law_word => k_is)
    (case k_law_word => k_is)
    (case a_are_values => k_is)
    (case l_are_values => k_is)
    (case c_are_values => k_is)
    (case k_are_values => k_is)
    (case a_is_full => k_is)
    (case l_is_full => k_is)
    (case c_is_full => k_is)
    (case k_is_full => k_is)
    (case a_is_integer => k_is)
    (case l_is_integer => k_is)
    (case c_is_integer => k_is)
    (case k_is_integer => k_is)
    (case a_is_label => k_is)
    (case l_is_label => k_is)
    (case c_is_label => k_is)
    (case k_is_label => k_is)
    (case a_is_name => k_is)
    (case l_is_name => k_is)
    (case c_is_name => k_is)
    (case k_is_name => k_is)
    (case a_is_number => k_is)
    (case l_is_number => k_is)
    (case c_is_number => k_is)
    (case k_is_number => k_is)
    (case a_is_value => k_is)
    (case l_is_value => k_is)
    (case c_is_value => k_is)
    (case k_is_value => k_is)
    (case a_law => k_is)
    (case l_law => k_is)
    (case c_law => k_is)
    (case k_law => k_is)
    (case cC_Zone => k_is)
    (case pg_Zone => k_is)
    (case hd_Zone => k_is)
    (case po_Zone => k_is)
    (case sa_Zone => k_is)
    (case oa_Zone => k_is)
    (case om_Zone => k_is)
    (case oi_Zone => first | kit_is | k_is)
    (case os_Zone => first | kit_is | k_is)
    (case ou_Zone => first | kit_is | k_is)
    (case oz_Zone => first | kit_is | k_is)
    (case od_Zone => first | kit_is | k_is)
    (case ob_Zone => first | kit_is | k_is)
    (case obj_n => k_is)
    (case obj_t => k_is)
    (case ma_Zone_contains => k_is)
    (case mi_Zone_contains => k_is)
    (case l_Zone_contains => k_is)
    (case c_Zone_contains => k_is)
    (case k_Zone_contains => k_is)
    (case ma_Zone_getitem => k_is)
    (case mi_Zone_getitem => k_is)
    (case l_Zone_getitem => k_is)
    (case c_Zone_getitem => k_is)
    (case k_Zone_getitem => k_is)
    (case mf_Zone_getitem => k_is)
    (case ma_Zone_init => k_is)
    (case mi_Zone_init => k_is)
    (case l_Zone_init => k_is)
    (case c_Zone_init => k_is)
    (case k_Zone_init => k_is)
    (case ma_Zone_names => k_is)
    (case mi_Zone_names => k_is)
    (case l_Zone_names => k_is)
    (case c_Zone_names => k_is)
    (case k_Zone_names => k_is)
    (case na_Zone__values => k_is)
    (case mm_Zone => k_is)
    (case kc_Zone => k_is)
    (case cC_Full => k_is)
    (case eb_Full => kernel_rfl)
    (case cC_ListError => k_is)
    (case eb_ListError => kernel_rfl)
    (case cC_NoName => k_is)
    (case eb_NoName => kernel_rfl)
    (case cC_Wrong => k_is)
    (case eb_Wrong => kernel_rfl)
    (case ma_Wrong_init => k_is)
    (case ti_Wrong_init => k_is)
    (case nf_Wrong => k_is)
    (case l_Wrong_init => k_is)
    (case c_Wrong_init => k_is)
    (case k_Wrong_init => k_is)
    (case ki_Wrong_Full => first | kit_is | k_is | kernel_rfl)
    (case ki_Wrong_ListError => first | kit_is | k_is | kernel_rfl)
    (case ex_Wrong_ListError => first | k_is | kernel_rfl)
    (case ki_Wrong_NoName => first | kit_is | k_is | kernel_rfl)
    (case ki_Wrong_Wrong => first | kit_is | k_is | kernel_rfl)
    (case gl_GREATEST_VALUE => k_is)
    (case gl_LABEL_SIGNS => k_is)
    (case gl_MOST_NAMES => k_is)
    (case z_abs => k_is)
    (case z_all => k_is)
    (case z_bool => k_is)
    (case z_dict => k_is)
    (case z_int => k_is)
    (case z_isinstance => k_is)
    (case z_len => k_is)
    (case z_list => k_is)
    (case z_max => k_is)
    (case z_min => k_is)
    (case z_range => k_is)
    (case z_repr => k_is)
    (case z_sorted => k_is)
    (case z_str => k_is)
    (case z_tuple => k_is)
