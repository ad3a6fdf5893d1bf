import PyProof.Rows.All
import Wide.All
import OpenK.AllK
import Wide.FinOn
import PyProof.RowDictHeap
import PyProof.ReprRoads
import HandS.ForMost
import HandS.ForExc
import HandS.ExcInit
import HandS.ExcField
import HandS.IsInst
import HandS.Wide
import HandS.Defaults
import HandS.Conv
import KE.GoesMore
import KE.GoesZip
import HandS.Zip0
import HandS.Walk
import KE.GoesEnum
import PySem.Challenge.RW_maprows_k41_whole_tables_or_a_bar_that_c
import HandS.Property
import HandS.OwnEq
import PyProof.P3Eq
import PyProof.StrLawsRepr
import HandS.TryOnly
import PyProof.NeKinds
import HandS.TupMul
import HandS.TupAny
import HandS.Codes
import HandS.Text
import HandS.Evl
import HandS.Style
import PyProof.StrBlock2
import HandS.List
import HandS.DictTup
import HandS.Iter
import HandS.DictComp
import HandS.Replace
import HandS.ReplaceList
import KE.KDictPairs
import KE.KDictKeyed
import KE.KDictCopyH
import KE.KDictOf
import HandS.DeepEq
import HandS.GenList
import HandS.Sort
import KE.KEqDict
import HandS.SortRule
import HandS.NamedTupSort
import PyProof.FactsAll.object_2
import HandS.CallLocal
import KE.KDictZip
import KE.KStar
import HandS.Star
import HandS.More
import PyProof.MeetsIn
import HandS.ClsMeth
import KE.SortData
import HandS.TupLen
import KE.KDictDisplayH
import PyProof.Rows.ReprOcc
set_option Elab.async false
set_option linter.all false
set_option maxRecDepth 100000
set_option maxHeartbeats 4000000
namespace Rw
open PySem PySem.Spec PyProof.Rows L2
/-- FnOk, but only where no repr is under way -/
structure FnG (P : Program) (w : World) (K : PySem.W.Frag) (mg : Str → Option Value) (base : Heap) (CX : CXT) (k : Nat) (f : Addr) (fd : FuncData) (ps : List Str) (sp : Sp) : Prop where
  many : ∀ vs H Q E, sp vs H Q E → vs.length = ps.length
  go : ∀ (A : Around) (fr : List Env) (s : Shared) (H : Hp) (ar : Args) (us : List Value) (vs : List V) (Q : VK) (E : XK), A.guards = some [] → Room k A → Env0 P w K mg base A fr s H →
    BindsTo s fd ar (ps.zip us) → Vals vs us → sp vs H Q E → codeAny (model P w) A (.call (.ref f) ar) (CR CX fr P w H s Q E) s
section
variable {P : Program} {w : World} {K : PySem.W.Frag} {mg : Str → Option Value} {base : Heap} {CX : CXT}
theorem fnG_of {k : Nat} {f : Addr} {name qual : Str} {pa : Arguments} {bd : List Stmt} {sc : Scope} {dV kV doc pm cdv ct oc : Value} {an od : Option Addr} {osl : Array (Option Value)} {N ps : List Str} {sp : Sp}
    (lk : K.lookup f = some ⟨oc, od, .func (PySem.W.fnOf name qual pa bd sc dV kV doc pm an cdv ct), osl⟩) (hcd : PySem.W.codeIn K cdv qual = true) (S : FnScope N ps sc)
    (many : ∀ vs H Q E, sp vs H Q E → vs.length = ps.length)
    (walk : ∀ (A : Around) (fr : List Env) (s : Shared) (H : Hp) (vs : List V) (Q : VK) (E : XK), A.guards = some [] → Room k (A.deeper (envOfC qual sc s.heap.objs.size f cdv)) → sp vs H Q E →
      ∃ t, PSs (cxOf CX P w K mg base N qual sc f cdv A fr s H E) bd t ∧ t { nx := fun _ H' => Q .non H', rt := Q } (start N vs) H) :
    FnG P w K mg base CX (k + 1) f (PySem.W.fnOf name qual pa bd sc dV kV doc pm an cdv ct) ps sp := by
  constructor
  · exact many
  intro A fr s H ar us vs Q E gu room ev bnd rel prom
  have cnt := many vs H Q E prom
  have kin : K.In s.heap := PySem.W.Frag.In.keeps ev.mod.kin (fun b o e => (ev.bs b o e).1)
  have lim : s.heap.NoLimit := Heap.NoLimit.keeps ev.mod.nolimit (fun b o e => (ev.bs b o e).1)
  refine codeAny_call_function (Room.depth room) (kin f _ lk) rfl S.co S.gen rfl (PySem.W.codeRec_of kin hcd) ?_
  refine bnd _ _ _ _ ?_
  refine wpAny_newFunctionEnv_cells S.kind ?_ ?_
  · intro y hy
    obtain ⟨n, v⟩ := y
    have hp := (List.of_mem_zip hy).1
    cases S.par n hp with
    | inl q => exact Or.inl q
    | inr q => exact Or.inr ⟨q, PySem.W.cellsFrom_some sc.names (s.heap.objs.size + 1) [] (Or.inl q)⟩
  intro env he s1 x
  subst he
  refine And.intro (lim.keeps (InCallC.toInCall x).keep) ?_
  refine codeAny_func ?_
  have start_ok := inv_start (CX := CX) (E := E) (f := f) (cd := cdv) S room.hd ev cnt rel x
  obtain ⟨t, ht, hq⟩ := walk A fr s H vs Q E gu (Room.deeper room _) prom
  refine wpAny_mono (PSs.run ht [] s1 (start N vs) H _ start_ok hq) ?_ (fun _ _ z => z)
  intro fl s2 hs
  cases fl with
  | ret u =>
    obtain ⟨v, σ2, H2, J, rv, q⟩ := hs
    exact Exists.intro v ⟨H2, J.os, J.bare, J.base, J.hok, rv, q⟩
  | next =>
    obtain ⟨σ2, H2, J, q⟩ := hs
    exact Exists.intro V.non ⟨H2, J.os, J.bare, J.base, J.hok, rfl, q⟩
  | brk => exact (hs.choose_spec.choose_spec.2).elim
  | cont => exact (hs.choose_spec.choose_spec.2).elim
/-- a def of the text: its body's term and reading, where no repr is under way -/
theorem funG {x qual : Str} {st : Stmt} {f : Addr} {fd : FuncData} {N ps : List Str} {k : Nat} {sp : Sp} (F : Fun K x qual st f fd) (S : FnScope N ps (defScope st)) (many : ∀ vs H Q E, sp vs H Q E → vs.length = ps.length)
    (walk : ∀ (cdv : Value) (A : Around) (fr : List Env) (s : Shared) (H : Hp) (vs : List V) (Q : VK) (E : XK), (cxOf CX0 P w K mg base N qual (defScope st) f cdv A fr s H E).A.guards = some [] →
      Room k (A.deeper (envOfC qual (defScope st) s.heap.objs.size f cdv)) → sp vs H Q E →
      ∃ t, PSs (cxOf CX0 P w K mg base N qual (defScope st) f cdv A fr s H E).nox (defBody st) t ∧ t { nx := fun _ H' => Q .non H', rt := Q } (start N vs) H) : FnG P w K mg base CX0 (k + 1) f fd ps sp := by
  obtain ⟨oc, od, kV, doc, pm, an, cdv, ct, osl, rfl, lk, hcd⟩ := F.ex
  refine fnG_of lk hcd S many ?_
  intro A fr s H vs Q E gu room prom
  obtain ⟨t, d, q⟩ := walk cdv A fr s H vs Q E gu room prom
  exact ⟨t, PSs.nox d, q⟩
end
section
variable {X : Cx} {CX : CXT} {k : Nat} {f : Addr} {fd : FuncData} {ps : List Str} {sp : Sp} {dvs : List V} {ds : List Value} {E : XK} {x : Str} {p pos : Pos} {e : Expr} {es : List Expr} {t : TA}
/-- f(e, ..) of such a def -/
theorem pe_callG (F : FnG X.prog X.w X.K X.mg X.base CX k f fd ps sp) (gu : X.A.guards = some []) (room : Room k X.A) (hg : Gl X x) (hm : X.mg x = some (.ref f)) (hk : PySem.W.keepIn X.K (.ref f) = true)
    (bnd : Binds X.K fd ps ds) (hd : Vals dvs ds) (hx : Passes CX X E) (ha : PA X (e :: es) t) (hdb : (x == ("__debug__" : Str)) = false := by decide)
    (he : starEach (e :: es) X.env = (false, eval e X.env) :: starEach es X.env := by rfl) (hpl : (backTo pos (starEach es X.env)).any (·.1) = false := by rfl) :
    PE X (.Call (.Name x p) (e :: es) [] pos) (tCall sp dvs E t) := by
  constructor
  intro pins s σ H Q I h
  refine wpAny_Call_Name_kw (ld_glob I hg hm ?_ hdb)
  refine PySem.W.callWith_K (h₀ := X.base) I.ok.mod.kin hk ?_ he hpl
  refine thn (PA.run ha pos pins s σ H _ I h) ?_
  intro us s1 hh
  obtain ⟨vs, H1, I1, r, q⟩ := hh
  refine ⟨I1.kIn, ?_⟩
  have r2 : Vals (vs ++ dvs) (us ++ ds) := Vals.append r hd
  have cnt : (us ++ ds).length = ps.length := (r2.length).symm.trans (F.many _ _ _ _ q)
  refine wpAny_call (codeAny_mono (F.go X.A X.stack s1 H1 ⟨us, []⟩ (us ++ ds) (vs ++ dvs) Q E gu room I1.env0 (bnd s1 us I1.kIn cnt) r2 q) ?_)
  intro res s2 hq
  cases res with
  | error er => exact hx pins σ H1 s1 er s2 I1 hq
  | ok fl =>
    cases fl with
    | ret u => exact Inv.after I1 hq
    | next => exact hq.elim
    | brk => exact hq.elim
    | cont => exact hq.elim
end
end Rw
set_option Elab.async false
set_option linter.all false
set_option maxRecDepth 100000
set_option maxHeartbeats 4000000
namespace Rw
open PySem PySem.Spec PyProof.Rows L2
/-- nothing is tracked in H but perhaps a -/
def Lone (H : Hp) (a : Addr) : Prop := ∀ b, H b ≠ none → b = a
section
variable {P : Program} {w : World} {K : PySem.W.Frag} {mg mb : Str → Option Value} {s : Shared} {a : Addr} {H : Hp} {o : Obj}
theorem lone_base {b : Addr} {u : Obj} (e : s.heap.get? b = some u) (n : H b = none) : (hidT s.heap H).get? b = some u := hidT_get e n
theorem lone_free (A : Lone H a) {b : Addr} (n : b ≠ a) : H b = none := by
  cases q : H b with
  | none => rfl
  | some u => exact (n (A b (by rw [q]; exact fun z => nomatch z))).elim
theorem lone_dict (A : Lone H a) (ha : s.heap.get? a = some o) (hd : ∀ es n, o.data ≠ .dict es n) {b : Addr} {u : Obj} {es : Array DictEntry} {n : Nat} (e : s.heap.get? b = some u) (d : u.data = .dict es n) : H b = none :=
  lone_free A fun z => by
    rw [z, ha] at e
    cases e
    exact hd es n d
theorem lone_ns (A : Lone H a) (ha : s.heap.get? a = some o) (hd : ∀ es n, o.data ≠ .dict es n) {b : Addr} {m : Str → Option Value} (h : s.heap.Ns b m) : (hidT s.heap H).Ns b m := by
  obtain ⟨u, es, n, e, d, r⟩ := h
  exact ⟨u, es, n, lone_base e (lone_dict A ha hd e d), d, r⟩
theorem lone_mod (A : Lone H a) (ha : s.heap.get? a = some o) (hd : ∀ es n, o.data ≠ .dict es n) (KX : K.In s.heap) (hK : H a ≠ none → K.lookup a = none) (g : s.heap.Ns mainGlobals mg) (b : s.heap.Ns builtinsNs mb)
    (bb : ∀ x : Str, x ≠ "__name__" → mb x = bootBuiltins x) (lim : s.heap.NoLimit) : Mod K mg (hidT s.heap H) := by
  have kin : K.In (hidT s.heap H) := fun c u e => by
    refine lone_base (KX c u e) ?_
    by_cases z : c = a
    · cases q : H a with
      | none => rw [z]; exact q
      | some y =>
        rw [z, hK (by rw [q]; exact fun z => nomatch z)] at e
        cases e
    · exact lone_free A z
  refine ⟨kin, lone_ns A ha hd g, ⟨mb, lone_ns A ha hd b, bb⟩, ?_⟩
  obtain ⟨mc, h1, h2⟩ := lim
  exact ⟨mc, lone_ns A ha hd h1, h2⟩
/-- what a law's run leaves, from its promise -/
theorem lone_run {CX : CXT} {k : Nat} {fa : Addr} {fd : FuncData} {x : Str} {sp : Sp} (A : Lone H a) (ha : s.heap.get? a = some o) (hd : ∀ es n, o.data ≠ .dict es n) (KX : K.In s.heap) (hK : H a ≠ none → K.lookup a = none)
    (g : s.heap.Ns mainGlobals mg) (b : s.heap.Ns builtinsNs mb) (bb : ∀ x : Str, x ≠ "__name__" → mb x = bootBuiltins x) (lim : s.heap.NoLimit) (hg : s.gens = #[]) (only : Only H) (hok : HOk P w H s.heap) (gu : callerA.guards = some []) (hr : Room k callerA)
    (F : ∀ base : Heap, K.In base → base.Ns mainGlobals mg → FnG P w K mg base CX k fa fd [x] sp) (bnd : ∀ (s : Shared) (u : Value), BindsTo s fd ⟨[u], []⟩ [(x, u)])
    (hs : sp [.ref a] H (fun v _ => v = .bl true) fun _ _ _ => False) (hCX : ∀ e s', CX [] H s (fun _ _ _ => False) e s' → False) :
    codeAny (model P w) callerA (.call (.ref fa) ⟨[.ref a], []⟩) (fun r s' => r = .ok (.ret (.bool true)) ∧ OldK s.heap s'.heap ∧ s'.os = s.os ∧ AllBare s'.gens) s := by
  have M := lone_mod A ha hd KX hK g b bb lim
  have ev : Env0 P w K mg (hidT s.heap H) callerA [] s H := by
    refine ⟨rfl, M, fun c u e => of_hidT e, Nat.le_of_eq (hidT_size _ _), True.intro, ?_, hok, .of_eq hg⟩
    intro c hc
    cases hc
  refine codeAny_mono ((F _ M.kin M.glob).go callerA [] s H ⟨[.ref a], []⟩ [.ref a] [.ref a] _ _ gu hr ev (bnd s (.ref a)) (.cons rfl .nil) hs) ?_
  intro r s' h
  cases r with
  | error e => exact False.elim (hCX e s' h)
  | ok fl =>
    cases fl with
    | next => exact h.elim
    | brk => exact h.elim
    | cont => exact h.elim
    | ret u =>
      obtain ⟨v, H', os, bare, un, hok', r', q⟩ := h
      have ev : v = V.bl true := q
      rw [ev] at r'
      cases (show u = Value.bool true from r')
      refine ⟨rfl, OldK.of_keep ?_, os, bare⟩
      intro c u e
      cases q : H c with
      | none => exact un.keep c u e q (fun z => nomatch z) (fun z => nomatch z)
      | some y =>
        cases only c with
        | inl z =>
          rw [q] at z
          cases z
        | inr z =>
          obtain ⟨ob, xs, z⟩ := z
          have e1 := (hok c _ z).1
          have e2 := (hok' c _ (un.frzs c ob _ z)).1
          rw [e] at e1
          cases e1
          exact e2
theorem lawG {CX : CXT} {k : Nat} {fa : Addr} {fd : FuncData} {x : Str} {sp : Sp} {vs : List Value} {ns : List Int} (KX : K.In s.heap) (g : s.heap.Ns mainGlobals mg) (b : s.heap.Ns builtinsNs mb)
    (bb : ∀ x : Str, x ≠ "__name__" → mb x = bootBuiltins x) (lim : s.heap.NoLimit) (hg : s.gens = #[]) (ha : s.heap.get? a = some { cls := .type "list", data := .seq vs.toArray }) (hi : IntsAre vs ns) (hl : ns.length ≤ sizeLine)
    (gu : callerA.guards = some []) (hr : Room k callerA) (F : ∀ base : Heap, K.In base → base.Ns mainGlobals mg → FnG P w K mg base CX k fa fd [x] sp) (bnd : ∀ (s : Shared) (u : Value), BindsTo s fd ⟨[u], []⟩ [(x, u)])
    (hs : ∀ H : Hp, Only H → SqL K H a (ns.map V.int) → sp [.ref a] H (fun v _ => v = .bl true) fun _ _ _ => False) (hCX : ∀ H e s', CX [] H s (fun _ _ _ => False) e s' → False) :
    codeAny (model P w) callerA (.call (.ref fa) ⟨[.ref a], []⟩) (fun r s' => r = .ok (.ret (.bool true)) ∧ OldK s.heap s'.heap ∧ s'.os = s.os ∧ AllBare s'.gens) s := by
  have rv := vals_ints hi
  have nd : ∀ es n, ({ cls := .type "list", data := .seq vs.toArray } : Obj).data ≠ .dict es n := fun es n z => nomatch z
  cases hk : K.lookup a with
  | some o =>
    have e := KX a o hk
    rw [ha] at e
    cases e
    have sq : SqL K (fun _ => none) a (ns.map V.int) := Or.inr ⟨_, vs.toArray, _, hk, rfl, rfl, rfl, (by rw [List.size_toArray, hi.length]; exact hl), (by simpa using rv)⟩
    have on : Only (fun _ => none) := fun _ => Or.inl rfl
    exact lone_run (H := fun _ => none) (fun b z => absurd rfl z) ha nd KX (fun z => absurd rfl z) g b bb lim hg on (fun c u z => nomatch z) gu hr F bnd (hs _ on sq) (hCX _)
  | none =>
    have on : Only (upd (fun _ => none) a (.frz { cls := .type "list", data := .seq vs.toArray } (.lst (ns.map V.int)))) := fun c => by
      by_cases z : c = a
      · rw [z]
        exact Or.inr ⟨_, _, upd_same⟩
      · exact Or.inl (upd_ne z)
    refine lone_run (a := a) (fun c z => ?_) ha nd KX (fun _ => hk) g b bb lim hg on (fun c u z => ?_) gu hr F bnd (hs _ on (.inl (.inr ⟨_, upd_same⟩))) (hCX _)
    · by_cases y : c = a
      · exact y
      · exact (z (upd_ne y)).elim
    · by_cases y : c = a
      · rw [y, upd_same] at z
        cases z
        rw [y]
        exact ⟨ha, by rw [List.length_map]; exact hl, vs, _, rv, ha⟩
      · rw [upd_ne y] at z
        cases z
end
/-- the row's walk -/
theorem walkG {l : PySem.W.OpenLaw} {n k : Nat} {q : Program} {loose : List Str} {XP : (Str → Option Value) → Heap → Prop} {YP : World → Heap → Prop} {d : DefRec} {K : Params → PySem.W.Frag} {sp : PySem.W.Frag → Sp} {x : Str}
    (hn : l.most = some n) (hn2 : n ≤ sizeLine) (hdf : d.params.defaults = []) (gu : callerA.guards = some []) (hr : Room k callerA) (hY : ∀ (w : World) (h : Heap), YP w h → (K w.params).In h)
    (F : ∀ (w : World) (mg : Str → Option Value) (fa : Addr) (h : Heap), (K w.params).In h → h.Ns mainGlobals mg → mg d.name = some (.ref fa) →
      ∃ fd : FuncData, (∀ (s : Shared) (u : Value), BindsTo s fd ⟨[u], []⟩ [(x, u)]) ∧ ∀ base : Heap, (K w.params).In base → base.Ns mainGlobals mg → FnG l.prog w (K w.params) mg base CX0 k fa fd [x] (sp (K w.params)))
    (hs : ∀ (K : PySem.W.Frag) (H : Hp) (a : Addr) (ns : List Int), ns.length ≤ n → Only H → SqL K H a (ns.map V.int) → sp K [.ref a] H (fun v _ => v = .bl true) fun _ _ _ => False) :
    PySem.W.WalkO q loose XP YP l.row.toRowW d [] (fun f vs => PySem.call f vs) := by
  refine Att.attach_call hn hdf ?_
  intro w s0 s1 mg mb fa o pm cd doc a vs ns G Y ho hd hcd hmg hobj hints hlen hg
  have KX := hY w s1.heap Y
  obtain ⟨fd, bnd, FF⟩ := F w mg fa s1.heap KX G.T.g hmg
  exact lawG KX G.T.g G.T.b G.T.builtins G.T.nolimit hg hobj hints (Nat.le_trans hlen hn2) gu hr FF bnd (fun H on sq => hs (K w.params) H a ns hlen on sq) (fun _ _ _ z => z)
end Rw
set_option Elab.async false
set_option linter.all false
set_option maxRecDepth 100000
set_option maxHeartbeats 4000000
namespace Rw
open PySem PySem.Spec PyProof.Rows L2
/-- how a dict's key reads -/
def keyD : Key → PyData
  | .inl i => .int i
  | .inr x => .str x
mutual
/-- what v is, as data: lists and tuples that are tracked, dicts with keys that are ints or texts -/
inductive Any (H : Hp) : V → PyData → Prop
  | non : Any H .non .none
  | bl (b : Bool) : Any H (.bl b) (.bool b)
  | int (i : Int) : Any H (.int i) (.int i)
  | str (x : Str) : Any H (.str x) (.str x)
  | lst {a : Addr} {xs : List V} {ds : List PyData} : H a = some (.lst xs) → AnyL H xs ds → Any H (.ref a) (.list ds)
  | tup {a : Addr} {xs : List V} {ds : List PyData} : H a = some (.tup xs) → AnyL H xs ds → Any H (.ref a) (.tuple ds)
  | dct {a : Addr} {kvs : List (Key × V)} {ds : List (PyData × PyData)} : H a = some (.dK kvs) → AnyK H kvs ds → Any H (.ref a) (.dict ds)
inductive AnyL (H : Hp) : List V → List PyData → Prop
  | nil : AnyL H [] []
  | cons {v : V} {vs : List V} {d : PyData} {ds : List PyData} : Any H v d → AnyL H vs ds → AnyL H (v :: vs) (d :: ds)
inductive AnyK (H : Hp) : List (Key × V) → List (PyData × PyData) → Prop
  | nil : AnyK H [] []
  | cons {k : Key} {v : V} {vs : List (Key × V)} {d : PyData} {ds : List (PyData × PyData)} : Any H v d → AnyK H vs ds → AnyK H ((k, v) :: vs) ((keyD k, d) :: ds)
end
section
variable {prog : Program} {w : World} {h : Heap}
/-- u lies as the data d in h, and is shown by repr -/
def Shows (prog : Program) (w : World) (h : Heap) (u : Value) (d : PyData) : Prop := ∃ as, Reads h u d as ∧ ∃ bs, ReadAtMost h d.depth bs ∧ ReprK prog w bs h d.depth u d.shown
def ShowsL (prog : Program) (w : World) (h : Heap) (us : List Value) (ds : List PyData) : Prop := ∃ as, ReadsAll h us ds as ∧ ∃ bs, ReadAtMost h (PyData.depthAll ds) bs ∧ ReprAllK prog w bs h (PyData.depthAll ds) us (PyData.shownAll ds)
theorem shows_flat {u : Value} {d : PyData} (r : Reads h u d []) (k : ReprIs prog w u d.shown) : Shows prog w h u d := ⟨[], r, [], fun _ z => (nomatch z), ReprK.of_is k [] h d.depth⟩
theorem showsL_nil : ShowsL prog w h [] [] := ⟨[], .nil, [], fun _ z => (nomatch z), by simp only [PyData.shownAll]; exact .nil⟩
theorem showsL_cons {u : Value} {d : PyData} {us : List Value} {ds : List PyData} (x : Shows prog w h u d) (y : ShowsL prog w h us ds) : ShowsL prog w h (u :: us) (d :: ds) := by
  obtain ⟨a1, r1, b1, m1, k1⟩ := x
  obtain ⟨a2, r2, b2, m2, k2⟩ := y
  have e : PyData.depthAll (d :: ds) = max d.depth (PyData.depthAll ds) := by simp only [PyData.depthAll]
  have l1 : d.depth ≤ max d.depth (PyData.depthAll ds) := Nat.le_max_left _ _
  have l2 : PyData.depthAll ds ≤ max d.depth (PyData.depthAll ds) := Nat.le_max_right _ _
  refine ⟨a1 ++ a2, .cons r1 r2, b1 ++ b2, ?_, ?_⟩
  · rw [e]
    exact ReadAtMost.append (m1.mono l1) (m2.mono l2)
  · rw [e]
    simp only [PyData.shownAll]
    exact .cons (ReprK.level_le (ReprK.more k1 fun b z => List.mem_append_left b2 z) l1) (ReprAllK.more_le (fun b z => List.mem_append_right b1 z) l2 k2)
/-- the parts of a list -/
structure ListAt (h : Heap) (a : Addr) (us : List Value) (o : Obj) (n : Nat) : Prop where
  get : h.get? a = some o
  cls : o.cls = .type "list"
  dat : o.data = .seq us.toArray n
structure TupleAt (h : Heap) (a : Addr) (us : List Value) (o : Obj) (n : Nat) : Prop where
  get : h.get? a = some o
  cls : o.cls = .type "tuple"
  dat : o.data = .seq us.toArray n
structure DictAt' (h : Heap) (a : Addr) (es : Array DictEntry) (o : Obj) (n : Nat) : Prop where
  get : h.get? a = some o
  cls : o.cls = .type "dict"
  dat : o.data = .dict es n
  off : (a == sysModules) = false
theorem list_reads {a : Addr} {us : List Value} {o : Obj} {n : Nat} {ds : List PyData} {as : List Addr} (L : ListAt h a us o n) (r : ReadsAll h us ds as) : Reads h (.ref a) (.list ds) (a :: as) := .list L.get L.cls L.dat r
theorem tuple_reads {a : Addr} {us : List Value} {o : Obj} {n : Nat} {ds : List PyData} {as : List Addr} (L : TupleAt h a us o n) (r : ReadsAll h us ds as) : Reads h (.ref a) (.tuple ds) as := .tuple L.get L.cls L.dat r
theorem off_of {a : Addr} {d : PyData} {as bs : List Addr} {m : Nat} (r : Reads h (.ref a) d as) (e : d.depth = m + 1) (k : ReadAtMost h m bs) : a ∉ bs := not_mem_of_deeper r (by omega) k
theorem shows_list {a : Addr} {us : List Value} {o : Obj} {n : Nat} {ds : List PyData} (L : ListAt h a us o n) (x : ShowsL prog w h us ds) : Shows prog w h (.ref a) (.list ds) := by
  obtain ⟨as, r, bs, m, k⟩ := x
  have R := list_reads L r
  have dp : (PyData.list ds).depth = PyData.depthAll ds + 1 := by simp only [PyData.depth]
  refine ⟨_, R, a :: bs, ReadAtMost.cons R (by omega) m, ?_⟩
  rw [dp]
  simp only [PyData.shown]
  cases us with
  | nil =>
    cases r
    simp only [PyData.shownAll, listText_nil]
    exact ReprK.listEmpty L.get L.cls L.dat
  | cons u us => exact ReprK.list L.get L.cls L.dat (off_of R dp m) (by simpa using k.length_eq) (fun i y e => k.item i y (by simpa using e))
theorem shows_tuple {a : Addr} {us : List Value} {o : Obj} {n : Nat} {ds : List PyData} (L : TupleAt h a us o n) (x : ShowsL prog w h us ds) : Shows prog w h (.ref a) (.tuple ds) := by
  obtain ⟨as, r, bs, m, k⟩ := x
  have R := tuple_reads L r
  have dp : (PyData.tuple ds).depth = PyData.depthAll ds + 1 := by simp only [PyData.depth]
  refine ⟨_, R, a :: bs, ReadAtMost.cons R (by omega) m, ?_⟩
  rw [dp]
  simp only [PyData.shown]
  exact ReprK.tuple L.get L.cls L.dat (off_of R dp m) k
theorem shows_dict {a : Addr} {es : Array DictEntry} {o : Obj} {n : Nat} {kvs : List (PyData × PyData)} (L : DictAt' h a es o n) (x : ShowsL prog w h (es.toList.map (·.key)) (kvs.map (·.1))) (y : ShowsL prog w h (es.toList.map (·.val)) (kvs.map (·.2))) :
    (∃ as, Reads h (.ref a) (.dict kvs) as) ∧ (∃ bs, ReadAtMost h (PyData.depthKv kvs) bs ∧ a ∉ bs ∧ ReprEntriesK prog w bs h (PyData.depthKv kvs) es.toList (PyData.shownKv kvs)) := by
  obtain ⟨a1, r1, b1, m1, k1⟩ := x
  obtain ⟨a2, r2, b2, m2, k2⟩ := y
  have R : Reads h (.ref a) (.dict kvs) (a :: a1 ++ a2) := .dict L.get L.cls L.dat r1 r2
  have dp : (PyData.dict kvs).depth = PyData.depthKv kvs + 1 := by simp only [PyData.depth]
  have m : ReadAtMost h (PyData.depthKv kvs) (b1 ++ b2) := ReadAtMost.append (m1.mono (PyData.depthAll_keys_le kvs)) (m2.mono (PyData.depthAll_vals_le kvs))
  refine ⟨⟨_, R⟩, b1 ++ b2, m, off_of R dp m, ?_⟩
  rw [PyData.shownKv_eq]
  have j1 := ReprAllK.more_le (fun b z => List.mem_append_left b2 z) (PyData.depthAll_keys_le kvs) k1
  have j2 := ReprAllK.more_le (fun b z => List.mem_append_right b1 z) (PyData.depthAll_vals_le kvs) k2
  exact ReprEntriesK.of_two es.toList _ _ j1 j2
theorem shows_dict' {a : Addr} {es : Array DictEntry} {o : Obj} {n : Nat} {kvs : List (PyData × PyData)} (L : DictAt' h a es o n) (x : ShowsL prog w h (es.toList.map (·.key)) (kvs.map (·.1))) (y : ShowsL prog w h (es.toList.map (·.val)) (kvs.map (·.2))) :
    Shows prog w h (.ref a) (.dict kvs) := by
  obtain ⟨⟨as, R⟩, bs, m, na, k⟩ := shows_dict L x y
  have dp : (PyData.dict kvs).depth = PyData.depthKv kvs + 1 := by simp only [PyData.depth]
  refine ⟨as, R, a :: bs, ReadAtMost.cons R (by omega) m, ?_⟩
  rw [dp]
  simp only [PyData.shown]
  exact ReprK.dict L.get L.cls L.dat L.off na k
end
section
variable {X : Cx} {pins : List (Addr × Obj)} {σ : L2.St} {H : Hp} {s : Shared}
theorem key_shows {P : Program} {w : World} {h : Heap} (k : Key) (v : Value) (hk : (mixKind P w).is k v = true) (hs : (keyD k).showable = true) (hz : (keyD k).shown.length ≤ sizeLine) : Shows P w h v (keyD k) := by
  rcases keyIs_shape hk with ⟨i, t, e1, e2⟩ | ⟨x, t, e1, e2⟩
  · subst e1 e2
    refine shows_flat (.int i t) ?_
    simp only [keyD, PyData.shown]
    exact ReprIs.int t (by simpa [keyD, PyData.showable] using hs)
  · subst e1 e2
    refine shows_flat (.str x t) ?_
    simp only [keyD, PyData.shown]
    exact ReprIs.str x t (by simpa only [keyD, PyData.shown] using hz)
theorem lst_at (I : Inv X pins σ H s) {a : Addr} {xs : List V} (e : H a = some (.lst xs)) : ∃ us o n, ListAt s.heap a us o n ∧ Vals xs us := by
  obtain ⟨_, its, n, rv, g⟩ := (show ObjOk X.prog X.w H s.heap a (.lst xs) from I.hok a _ e)
  exact ⟨its, _, n, ⟨g, rfl, rfl⟩, rv⟩
theorem tup_at (I : Inv X pins σ H s) {a : Addr} {xs : List V} (e : H a = some (.tup xs)) : ∃ us o n, TupleAt s.heap a us o n ∧ Vals xs us := by
  obtain ⟨_, its, rv, o, g, c, n, dt⟩ := (show ObjOk X.prog X.w H s.heap a (.tup xs) from I.hok a _ e)
  exact ⟨its, o, n, ⟨g, c, dt⟩, rv⟩
theorem dct_at (I : Inv X pins σ H s) {a : Addr} {kvs : List (Key × V)} (e : H a = some (.dK kvs)) : ∃ vs es o n, DictAt' s.heap a es o n ∧ KV kvs vs ∧ Pairs (mixKind X.prog X.w) es.toList vs := by
  obtain ⟨_, off, vs, rel, o, es, n, g, c, dt, _, p, _⟩ := (show ObjOk X.prog X.w H s.heap a (.dK kvs) from I.hok a _ e)
  exact ⟨vs, es, o, n, ⟨g, c.1, dt, off⟩, rel, p⟩
mutual
theorem any_shows (I : Inv X pins σ H s) : ∀ (d : PyData) (v : V) (u : Value), Any H v d → RelV v u → d.showable = true → d.shown.length ≤ sizeLine → Shows X.prog X.w s.heap u d
  | .none, v, u, h, r, _, _ => by
    cases h
    cases (show u = Value.none from r)
    exact shows_flat .none (by simp only [PyData.shown]; exact ReprIs.none)
  | .bool b, v, u, h, r, _, _ => by
    cases h
    cases (show u = Value.bool b from r)
    exact shows_flat (.bool b) (by simp only [PyData.shown]; exact ReprIs.bool b)
  | .int i, v, u, h, r, sh, _ => by
    cases h
    obtain ⟨t, e⟩ := (show ∃ t, u = Value.int i t from r)
    rw [e]
    exact shows_flat (.int i t) (by simp only [PyData.shown]; exact ReprIs.int t (by simpa [PyData.showable] using sh))
  | .str x, v, u, h, r, _, sz => by
    cases h
    obtain ⟨t, e⟩ := (show ∃ t, u = Value.str x t from r)
    rw [e]
    exact shows_flat (.str x t) (by simp only [PyData.shown]; exact ReprIs.str x t (by simpa only [PyData.shown] using sz))
  | .list ds, v, u, h, r, sh, sz => by
    cases h with
    | lst ea ha =>
      rename_i a xs
      cases (show u = Value.ref a from r)
      obtain ⟨us, o, n, L, rv⟩ := lst_at I ea
      have z : (listText (PyData.shownAll ds)).length ≤ sizeLine := by simpa only [PyData.shown] using sz
      exact shows_list L (any_showsL I ds xs us ha rv (by simpa [PyData.showable] using sh) fun t ht => Nat.le_trans (listText_mem_le ht) z)
  | .tuple ds, v, u, h, r, sh, sz => by
    cases h with
    | tup ea ha =>
      rename_i a xs
      cases (show u = Value.ref a from r)
      obtain ⟨us, o, n, L, rv⟩ := tup_at I ea
      have z : (tupleText (PyData.shownAll ds)).length ≤ sizeLine := by simpa only [PyData.shown] using sz
      exact shows_tuple L (any_showsL I ds xs us ha rv (by simpa [PyData.showable] using sh) fun t ht => Nat.le_trans (tupleText_mem_le ht) z)
  | .dict ds, v, u, h, r, sh, sz => by
    cases h with
    | dct ea ha =>
      rename_i a kvs
      cases (show u = Value.ref a from r)
      obtain ⟨vs, es, o, n, L, rel, p⟩ := dct_at I ea
      have z : (dictText (PyData.shownKv ds)).length ≤ sizeLine := by simpa only [PyData.shown] using sz
      obtain ⟨x, y⟩ := any_showsK I ds kvs vs es.toList ha rel p (by simpa [PyData.showable] using sh) fun t ht => Nat.le_trans (dictText_mem_le ht) z
      exact shows_dict' L x y
theorem any_showsL (I : Inv X pins σ H s) : ∀ (ds : List PyData) (vs : List V) (us : List Value), AnyL H vs ds → Vals vs us → PyData.showableAll ds = true → (∀ t ∈ PyData.shownAll ds, t.length ≤ sizeLine) → ShowsL X.prog X.w s.heap us ds
  | [], vs, us, h, r, _, _ => by
    cases h
    cases r
    exact showsL_nil
  | d :: ds, vs, us, h, r, sh, sz => by
    have sh' : d.showable = true ∧ PyData.showableAll ds = true := by simpa [PyData.showableAll] using sh
    simp only [PyData.shownAll] at sz
    cases h with
    | cons h1 h2 =>
      cases r with
      | cons r1 r2 => exact showsL_cons (any_shows I d _ _ h1 r1 sh'.1 (sz _ List.mem_cons_self)) (any_showsL I ds _ _ h2 r2 sh'.2 fun t ht => sz t (List.mem_cons_of_mem _ ht))
theorem any_showsK (I : Inv X pins σ H s) : ∀ (ds : List (PyData × PyData)) (kvs : List (Key × V)) (us : List (Key × Value)) (es : List DictEntry), AnyK H kvs ds → KV kvs us → Pairs (mixKind X.prog X.w) es us → PyData.showableKv ds = true →
    (∀ t ∈ PyData.shownKv ds, t.length ≤ sizeLine) → ShowsL X.prog X.w s.heap (es.map (·.key)) (ds.map (·.1)) ∧ ShowsL X.prog X.w s.heap (es.map (·.val)) (ds.map (·.2))
  | [], vs, us, es, h, r, p, _, _ => by
    cases h
    cases r
    cases p
    exact ⟨showsL_nil, showsL_nil⟩
  | (kd, d) :: ds, vs, us, es, h, r, p, sh, sz => by
    have sh' : (kd.showable = true ∧ d.showable = true) ∧ PyData.showableKv ds = true := by simpa [PyData.showableKv] using sh
    simp only [PyData.shownKv] at sz
    have top := sz _ List.mem_cons_self
    rw [strLen_append, strLen_append] at top
    cases h with
    | cons h1 h2 =>
      cases r with
      | cons r1 r2 =>
        rename_i k v vs' q us'
        obtain ⟨kq, uq⟩ := q
        obtain ⟨ek, r1⟩ := r1
        cases (show k = kq from ek)
        cases p with
        | cons hk hv hp =>
          obtain ⟨x, y⟩ := any_showsK I ds _ _ _ h2 r2 hp sh'.2 fun t ht => sz t (List.mem_cons_of_mem _ ht)
          refine ⟨showsL_cons (key_shows k _ hk sh'.1.1 (by omega)) x, ?_⟩
          have e := any_shows I d _ _ h1 r1 sh'.1.2 (by omega)
          rw [← hv] at e
          exact showsL_cons e y
end
/-- repr of data that lies at an address -/
def rRepr : List V → Hp → VK → Prop := fun xs H Q => ∃ (a : Addr) (d : PyData), xs = [.ref a] ∧ Any H (.ref a) d ∧ d.showable = true ∧ d.depth ≤ 60 ∧ d.shown.length ≤ sizeLine ∧ Q (.str d.shown) H
theorem call_repr (gu : X.A.guards = some []) (hu : X.A.units + 64 < cLine) : CallR X (.builtin "repr") rRepr := by
  intro pins s σ H xs us Q I r h
  obtain ⟨a, d, e, an, sh, dp, sz, q⟩ := h
  subst e
  obtain ⟨u, e, ru⟩ := vals1 r
  subst e
  cases (show u = Value.ref a from ru)
  have fin : ∀ h' u tk, (∀ b o, s.heap.get? b = some o → h'.get? b = some o) → EP X pins σ Q (.str d.shown u) { s with heap := h', toks := tk } := fun h' t tk keep => ⟨V.str d.shown, H, Inv.kept I keep, ⟨t, rfl⟩, q⟩
  have gu1 : X.A.in1.guards = some [] := gu
  have un1 : X.A.in1.units = X.A.units + 1 := rfl
  cases an with
  | lst ea ha =>
    rename_i xs ds
    obtain ⟨us, o, n, L, rv⟩ := lst_at I ea
    have z : (listText (PyData.shownAll ds)).length ≤ sizeLine := by simpa only [PyData.shown] using sz
    have D : (PyData.list ds).depth = PyData.depthAll ds + 1 := by simp only [PyData.depth]
    obtain ⟨as, rd, bs, m, k⟩ := any_showsL I ds xs us ha rv (by simpa [PyData.showable] using sh) fun t ht => Nat.le_trans (listText_mem_le ht) z
    have ty : s.TypeIs (.ref a) "list" := ⟨o, L.get, L.cls⟩
    refine call_repr_slot (by omega) ty F.slot_list_repr.toG ?_
    simp only [PyData.shown] at fin
    cases us with
    | nil =>
      cases rd
      simp only [PyData.shownAll, listText_nil] at fin
      exact call_list_repr_empty ty L.get L.dat ⟨_, _, rfl, fin s.heap _ _ fun _ _ z => z⟩
    | cons u us => exact call_list_reprK L.get L.cls L.dat (off_of (list_reads L rd) D m) (by simpa using k.length_eq) (fun i y e => k.item i y (by simpa using e)) gu1 (fun b _ => Clear.nil b) (by omega) (fun _ _ z => z) (fun h' t tk keep => ⟨_, _, rfl, fin h' t tk keep⟩) z
  | tup ea ha =>
    rename_i xs ds
    obtain ⟨us, o, n, L, rv⟩ := tup_at I ea
    have z : (tupleText (PyData.shownAll ds)).length ≤ sizeLine := by simpa only [PyData.shown] using sz
    have D : (PyData.tuple ds).depth = PyData.depthAll ds + 1 := by simp only [PyData.depth]
    obtain ⟨as, rd, bs, m, k⟩ := any_showsL I ds xs us ha rv (by simpa [PyData.showable] using sh) fun t ht => Nat.le_trans (tupleText_mem_le ht) z
    refine call_repr_slot (by omega) ⟨o, L.get, L.cls⟩ F.slot_tuple_repr ?_
    simp only [PyData.shown] at fin
    exact call_tuple_reprK L.get L.cls L.dat (off_of (tuple_reads L rd) D m) k gu1 (fun b _ => Clear.nil b) (by omega) (fun _ _ z => z) (fun h' t tk keep => ⟨_, _, rfl, fin h' t tk keep⟩) z
  | dct ea ha =>
    rename_i kvs ds
    obtain ⟨vs, es, o, n, L, rel, p⟩ := dct_at I ea
    have z : (dictText (PyData.shownKv ds)).length ≤ sizeLine := by simpa only [PyData.shown] using sz
    have D : (PyData.dict ds).depth = PyData.depthKv ds + 1 := by simp only [PyData.depth]
    obtain ⟨x, y⟩ := any_showsK I ds kvs vs es.toList ha rel p (by simpa [PyData.showable] using sh) fun t ht => Nat.le_trans (dictText_mem_le ht) z
    obtain ⟨_, bs, m, na, k⟩ := shows_dict L x y
    refine call_repr_slot (by omega) ⟨o, L.get, L.cls⟩ F.slot_dict_repr ?_
    simp only [PyData.shown] at fin
    exact call_dict_reprK L.get L.cls L.dat L.off na k gu1 (fun b _ => Clear.nil b) (by omega) (fun _ _ z => z) (fun h' t tk keep => ⟨_, _, rfl, fin h' t tk keep⟩) z
end
end Rw
set_option Elab.async false
set_option linter.all false
set_option maxRecDepth 100000
set_option maxHeartbeats 4000000
namespace Rw
open PySem PySem.Spec PyProof.Rows L2
/-- a clause: its class, the slot of its name, its suite -/
structure Cl where
  c : Value
  slot : Option Nat
  ts : Addr → Value → Option Addr → TS
/-- the suite with the error at a, its name bound ahead of it and gone behind it -/
def Cl.run (q : Cl) (a : Addr) (cls : Value) (d : Option Addr) : TS := fun D σ H => match q.slot with
  | none => q.ts a cls d D σ H
  | some i => q.ts a cls d { nx := fun τ J => D.nx (τ.set i none) J, rt := D.rt, bk := fun τ J => D.bk (τ.set i none) J, ct := fun τ J => D.ct (τ.set i none) J } (σ.set i (some (.ref a))) H
/-- what the clauses wish of an error -/
def wCls (K : PySem.W.Frag) (Wo : WX) (D : Ends) : List Cl → WX
  | [] => Wo
  | q :: r => fun cls d σ H => ∃ b, PySem.W.exmOne K cls q.c = some b ∧ (b = true → ∀ a, H a = none → q.run a cls d D σ H) ∧ (b = false → wCls K Wo D r cls d σ H)
def SuiteOk (X : Cx) (sts : List Stmt) (ts : Addr → Value → Option Addr → TS) : Prop :=
  ∀ (a : Addr) (oe : Obj) (cls : Value) (d : Option Addr) (pn : List (Addr × Obj)), Zc cls d oe → (∃ vs, oe.data = .fields vs) → PSs (X.suite a ((a, oe) :: pn)) sts (ts a cls d)
inductive ClsOk (X : Cx) : List ExceptHandler → List Cl → Prop
  | nil : ClsOk X [] []
  | anon {x : Str} {c : Value} {ts : Addr → Value → Option Addr → TS} {st : Stmt} {sts : List Stmt} {np hp : Pos} {hs : List ExceptHandler} {l : List Cl} (hc : Names X x c) (ok : SuiteOk X (st :: sts) ts) (r : ClsOk X hs l) :
      ClsOk X (.ExceptHandler (some (.Name x np)) none (st :: sts) hp :: hs) (⟨c, none, ts⟩ :: l)
  | as {x n : Str} {i : Nat} {c : Value} {ts : Addr → Value → Option Addr → TS} {st : Stmt} {sts : List Stmt} {np hp : Pos} {hs : List ExceptHandler} {l : List Cl} (hi : X.N[i]? = some n) (hl : X.env.kindOf n = some .local) (hc : Names X x c)
      (ok : SuiteOk X (st :: sts) ts) (r : ClsOk X hs l) : ClsOk X (.ExceptHandler (some (.Name x np)) (some n) (st :: sts) hp :: hs) (⟨c, some i, ts⟩ :: l)
section
variable {X : Cx}
/-- what stands when an error has landed in this frame -/
structure Down (X : Cx) (B : Heap) (pins : List (Addr × Obj)) (σ : L2.St) (H : Hp) (a : Addr) (cls : Value) (d : Option Addr) (sI s : Shared) : Prop where
  inv : Inv X pins σ H sI
  nb : ∀ b o, sI.heap.get? b = some o → b ∉ frs X.stack → B.get? b = some o
  os : s.os = sI.os
  ag : AllBare s.gens
  free : H a = none
  up : sI.heap.UpToSlots s.heap
  fly : HandSPX.FlyingZ B (X.env :: X.outer) a (Zc cls d) s.heap
theorem Down.goes {B : Heap} {pins : List (Addr × Obj)} {σ : L2.St} {H : Hp} {a : Addr} {cls : Value} {d : Option Addr} {sI s : Shared} (W : Down X B pins σ H a cls d sI s) : Inv X pins σ H s :=
  Inv.landed W.inv W.nb W.fly.1 W.up W.os W.ag
theorem Down.more {B : Heap} {pins : List (Addr × Obj)} {σ : L2.St} {H : Hp} {a : Addr} {cls : Value} {d : Option Addr} {sI s : Shared} {h : Heap} (W : Down X B pins σ H a cls d sI s)
    (fl : HandSPX.FlyingZ B (X.env :: X.outer) a (Zc cls d) h) (u : s.heap.UpToSlots h) : Down X B pins σ H a cls d sI { s with heap := h } :=
  ⟨W.inv, W.nb, W.os, W.ag, W.free, Heap.UpToSlots.trans W.up u, fl⟩
/-- the error's own object: none of the frames -/
theorem Down.off {B : Heap} {pins : List (Addr × Obj)} {σ : L2.St} {H : Hp} {a : Addr} {cls : Value} {d : Option Addr} {sI s : Shared} (W : Down X B pins σ H a cls d sI s) (hf : X.env.frame = some X.env.locals) :
    a ≠ X.env.locals ∧ a ∉ X.fs := by
  obtain ⟨oe, vs, he, _, hd⟩ := W.fly.there
  have no : a ∉ frs (X.env :: X.outer) := fun hm => by
    obtain ⟨_, o, e, nf⟩ := Heap.FunFrames.mem W.fly.2.2.1 hm
    rw [he] at e
    cases e
    exact nf vs hd
  constructor
  · intro z
    exact no (List.mem_filterMap.mpr ⟨X.env, List.mem_cons_self, hf.trans (congrArg some z.symm)⟩)
  · intro hm
    obtain ⟨e, he, q⟩ := List.mem_filterMap.mp hm
    exact no (List.mem_filterMap.mpr ⟨e, List.mem_cons_of_mem X.env he, q⟩)
/-- in the suite -/
theorem Down.suite {B : Heap} {pins : List (Addr × Obj)} {σ : L2.St} {H : Hp} {a : Addr} {cls : Value} {d : Option Addr} {sI s : Shared} (W : Down X B pins σ H a cls d sI s) (hf : X.env.frame = some X.env.locals) :
    ∃ oe : Obj, s.heap.get? a = some oe ∧ Zc cls d oe ∧ (∃ vs, oe.data = .fields vs) ∧ Inv (X.suite a ((a, oe) :: (X.pn ++ pins))) [] σ H s := by
  obtain ⟨oe, vs, he, hz, hd⟩ := W.fly.there
  obtain ⟨n1, n2⟩ := W.off hf
  exact ⟨oe, he, hz, ⟨vs, hd⟩, Inv.suite W.goes he hd W.free n1 n2⟩
/-- the class of a clause is looked up, and asked -/
theorem Down.asks {B : Heap} {pins : List (Addr × Obj)} {σ : L2.St} {H : Hp} {a : Addr} {cls c : Value} {d : Option Addr} {sI s : Shared} {x : Str} {np : Pos} {b : Bool} {E : Value → Shared → Prop} {Q : Bool → Shared → Prop}
    (W : Down X B pins σ H a cls d sI s) (hf : X.env.frame = some X.env.locals) (hc : Names X x c) (hb : PySem.W.exmOne X.K cls c = some b) (q : Q b s) :
    wpAny (model X.prog X.w) (X.A.mark (some (.ref a))) (eval (.Name x np) X.env) (fun v s' => v = c ∧ s' = s) E s := by
  obtain ⟨oe, he, hz, _, S⟩ := W.suite hf
  obtain ⟨hg, hdbg, hm⟩ := hc
  rcases hm with hm | ⟨hm, hv, hn⟩
  · exact ld_glob (X := X.suite a ((a, oe) :: (X.pn ++ pins))) S hg hm ⟨rfl, rfl⟩ hdbg
  · exact ld_blt (X := X.suite a ((a, oe) :: (X.pn ++ pins))) S hg hm hv ⟨rfl, rfl⟩ hn hdbg
/-- the clauses, one after the other -/
theorem Down.clauses {B : Heap} {pins : List (Addr × Obj)} {σ : L2.St} {H : Hp} {a : Addr} {cls : Value} {d : Option Addr} {sI : Shared} {Wo : WX} {D : Ends} (hs : X.stack = X.env :: X.outer) (hf : X.env.frame = some X.env.locals) (hN : X.N.Nodup) (tk : Takes X Wo) :
    ∀ {hds : List ExceptHandler} {l : List Cl}, ClsOk X hds l → ∀ {s : Shared}, Down X B pins σ H a cls d sI s → wCls X.K Wo D l cls d σ H → wpAny (model X.prog X.w) X.A (handleBy (.ref a) X.env hds) (SP X pins D) X.xe s := by
  intro hds l hk
  induction hk with
  | nil =>
    intro s W wish
    refine wpAny_handleBy_nil ?_
    obtain ⟨_, _, _, oe, vs, T, oT, ts, he, hz, hd, h1, hr⟩ := id W.fly
    have nT : ¬ ((Value.ref T == Value.none) = true) := by simp
    unfold PySem.passOn
    refine wpAny_bind (wpAny_field he hd h1 ?_)
    rw [if_neg nT]
    have out : wpAny (model X.prog X.w) X.A (setFlight (.ref a) X.env.frame) (fun _ s4 => wpAny (model X.prog X.w) X.A (throw (.ref a) : Sem Flow) (SP X pins D) X.xe s4) X.xe s := by
      rw [hf]
      refine HandSPX.setFlight_upZ W.fly ?_
      intro h4 hh4 up4
      refine wpAny_throw (tk (.ref a) _ ⟨a, B, sI, pins, σ, H, cls, d, rfl, W.inv, W.nb, W.up.trans up4, ?_, W.free, W.os, W.ag, wish⟩)
      rw [hs]
      exact Or.inr (Or.inr hh4)
    first
      | exact wpAny_bind (wpAny_pure (wpAny_bind out))
      | exact wpAny_bind out
  | @anon x c ts st sts np hp hs' l' hc ok r ih =>
    intro s W wish
    obtain ⟨b, hb, yes, no⟩ := wish
    refine wpAny_handleBy_cons (codeAny_handlers_test ?_) (fun q => nomatch q)
    refine wpAny_mono (W.asks (E := fun _ _ => False) (Q := fun _ _ => True) hf hc hb True.intro) ?_ (fun _ _ z => z.elim)
    rintro v s' ⟨rfl, rfl⟩
    obtain ⟨oe, he, hz, hd, S⟩ := W.suite hf
    have LT : PySem.W.Looks (model X.prog X.w) s'.heap (typeOf (.ref a)) cls := fun A Q E s2 k q => wpAny_typeOf_ref (k a oe he) (by rw [hz.1]; exact q)
    refine (PySem.W.exm_one (M := model X.prog X.w) S.kIn LT hb).here ?_
    cases b with
    | false => exact ih W (no rfl)
    | true =>
      refine codeAny_handlers_suite (HandSPX.lands_againZ W.fly ?_)
      intro h4 fl4 up4
      obtain ⟨oe4, he4, hz4, hd4, S4⟩ := (W.more fl4 up4).suite hf
      refine wpAny_mono (PSs.run (ok a oe4 cls d (X.pn ++ pins) hz4 hd4) [] _ σ H D S4 (yes rfl a W.free)) ?_ (fun _ _ z => z.elim)
      intro fl s6 hsp
      have ok0 := W.inv.ok
      cases fl with
      | ret u =>
        obtain ⟨v6, σ6, H6, S6, r6, q6⟩ := hsp
        exact ⟨v6, σ6, H6, Inv.unsuite S6 ok0, r6, q6⟩
      | next =>
        obtain ⟨σ6, H6, S6, q6⟩ := hsp
        exact ⟨σ6, H6, Inv.unsuite S6 ok0, q6⟩
      | brk =>
        obtain ⟨σ6, H6, S6, q6⟩ := hsp
        exact ⟨σ6, H6, Inv.unsuite S6 ok0, q6⟩
      | cont =>
        obtain ⟨σ6, H6, S6, q6⟩ := hsp
        exact ⟨σ6, H6, Inv.unsuite S6 ok0, q6⟩
  | @as x n i c ts st sts np hp hs' l' hi hl hc ok r ih =>
    intro s W wish
    obtain ⟨b, hb, yes, no⟩ := wish
    refine wpAny_handleBy_cons (codeAny_handlers_test ?_) (fun q => nomatch q)
    refine wpAny_mono (W.asks (E := fun _ _ => False) (Q := fun _ _ => True) hf hc hb True.intro) ?_ (fun _ _ z => z.elim)
    rintro v s' ⟨rfl, rfl⟩
    obtain ⟨oe, he, hz, hd, S⟩ := W.suite hf
    have LT : PySem.W.Looks (model X.prog X.w) s'.heap (typeOf (.ref a)) cls := fun A Q E s2 k q => wpAny_typeOf_ref (k a oe he) (by rw [hz.1]; exact q)
    refine (PySem.W.exm_one (M := model X.prog X.w) S.kIn LT hb).here ?_
    cases b with
    | false => exact ih W (no rfl)
    | true =>
      refine codeAny_handlers_suite_as (HandSPX.lands_againZ W.fly ?_)
      intro h4 fl4 up4
      obtain ⟨oe4, he4, hz4, hd4, S4⟩ := (W.more fl4 up4).suite hf
      have ok0 := W.inv.ok
      refine store_ok (X := X.suite a ((a, oe4) :: (X.pn ++ pins))) (v := .ref a) S4 hN hi (Or.inl hl) rfl ?_ (Or.inr hl)
      intro s5 S5
      refine wpAny_mono (PSs.run (ok a oe4 cls d (X.pn ++ pins) hz4 hd4) [] s5 _ H _ S5 (yes rfl a W.free)) ?_ (fun _ _ z => z.elim)
      intro fl s6 hsp
      have gone : ∀ {τ : L2.St} {J : Hp} {Q : Shared → Prop}, Inv (X.suite a ((a, oe4) :: (X.pn ++ pins))) [] τ J s6 → (∀ s7, Inv X pins (τ.set i none) J s7 → Q s7) →
          wpAny (model X.prog X.w) X.A (do bindName X.env n .none; unbindBehindTheSuite X.env n hp) (fun _ s7 => Q s7) X.xe s6 := by
        intro τ J Q S6 hq
        exact gone_ok (Inv.unsuite S6 ok0) hN hi hl hq
      cases fl with
      | ret u =>
        obtain ⟨v6, σ6, H6, S6, r6, q6⟩ := hsp
        exact gone S6 (fun s7 J7 => ⟨v6, _, H6, J7, r6, q6⟩)
      | next =>
        obtain ⟨σ6, H6, S6, q6⟩ := hsp
        exact gone S6 (fun s7 J7 => ⟨_, H6, J7, q6⟩)
      | brk =>
        obtain ⟨σ6, H6, S6, q6⟩ := hsp
        exact gone S6 (fun s7 J7 => ⟨_, H6, J7, q6⟩)
      | cont =>
        obtain ⟨σ6, H6, S6, q6⟩ := hsp
        exact gone S6 (fun s7 J7 => ⟨_, H6, J7, q6⟩)
/-- try: body / except ..: .. / except ..: .. -/
theorem ps_tries {body : List Stmt} {h0 : ExceptHandler} {hds : List ExceptHandler} {l : List Cl} {pos : Pos} {tb : WX → TS} {Wo : WX} (hs : X.stack = X.env :: X.outer) (hf : X.env.frame = some X.env.locals) (hN : X.N.Nodup) (tk : Takes X Wo)
    (hb : ∀ (W : WX) (pn : List (Addr × Obj)) (xe : Value → Shared → Prop), Takes (X.tr pn xe) W → PassesOwn (model X.prog X.w) X.A X.env xe → PSs (X.tr pn xe) body (tb W)) (hh : ClsOk X (h0 :: hds) l) :
    PS X (.Try body (h0 :: hds) [] [] pos) (fun D σ H => tb (wCls X.K Wo D l) D σ H) := by
  constructor
  intro pins s σ H D I h
  have ok0 := I.ok
  have fr : X.A.frames = some (X.env :: X.outer) := (Cx.Ok.frames ok0).trans (congrArg some hs)
  refine wpAny_Try_except ?_
  have land : ∀ (u : Value) (s' : Shared), XE (X.tr (X.pn ++ pins) (fun e s₁ => wpAny (model X.prog X.w) X.A (noteFrame e X.env) (fun _ s₂ => wpAny (model X.prog X.w) X.A (setFlight e none) (fun _ s₃ =>
      wpAny (model X.prog X.w) X.A (handleBy e X.env (h0 :: hds)) (SP X pins D) X.xe s₃) X.xe s₂) X.xe s₁)) (wCls X.K Wo D l) u s' →
      wpAny (model X.prog X.w) X.A (noteFrame u X.env) (fun _ s₂ => wpAny (model X.prog X.w) X.A (setFlight u none) (fun _ s₃ => wpAny (model X.prog X.w) X.A (handleBy u X.env (h0 :: hds)) (SP X pins D) X.xe s₃) X.xe s₂) X.xe s' := by
    intro u s' xx
    obtain ⟨a, B, sI, pins', τ, J, cls, d, eu, I', nb, up, sky, na, os, ag, wish⟩ := xx
    subst eu
    have sky2 : Sky B (X.env :: X.outer) a (Zc cls d) X.env.locals s'.heap := hs ▸ sky
    refine Sky.land Zc.steady fr hf sky2 ?_
    intro h3 fl3 up3
    exact Down.clauses hs hf hN tk hh ⟨Inv.ofTry I' ok0, nb, os, ag, na, up.trans up3, fl3⟩ wish
  refine wpAny_mono (PSs.run (hb (wCls X.K Wo D l) (X.pn ++ pins) _ land PassesOwn.looking) [] s σ H D (Inv.toTry I _) h) ?_ (fun e s1 he => he)
  intro fl s1 hsp
  cases fl with
  | ret u =>
    obtain ⟨v, τ, J, I', r, q⟩ := hsp
    exact ⟨v, τ, J, Inv.ofTry I' ok0, r, q⟩
  | next =>
    obtain ⟨τ, J, I', q⟩ := hsp
    exact wpAny_execs_nil ⟨τ, J, Inv.ofTry I' ok0, q⟩
  | brk =>
    obtain ⟨τ, J, I', q⟩ := hsp
    exact ⟨τ, J, Inv.ofTry I' ok0, q⟩
  | cont =>
    obtain ⟨τ, J, I', q⟩ := hsp
    exact ⟨τ, J, Inv.ofTry I' ok0, q⟩
end
end Rw
set_option Elab.async false
set_option linter.all false
set_option maxRecDepth 100000
set_option maxHeartbeats 4000000
namespace Rw
open PySem PySem.Spec PyProof.Rows L2
/-- x names a def that keeps sp when it is called with all but the values dvs -/
structure Own (P : Program) (w : World) (K : PySem.W.Frag) (mg : Str → Option Value) (base : Heap) (CX : CXT) (k : Nat) (x : Str) (ps : List Str) (dvs : List V) (sp : Sp) : Prop where
  has : ∃ (f : Addr) (fd : FuncData) (ds : List Value), mg x = some (.ref f) ∧ PySem.W.keepIn K (.ref f) = true ∧ FnOk P w K mg base CX k f fd ps sp ∧ Binds K fd ps ds ∧ Vals dvs ds
structure OwnG (P : Program) (w : World) (K : PySem.W.Frag) (mg : Str → Option Value) (base : Heap) (CX : CXT) (k : Nat) (x : Str) (ps : List Str) (dvs : List V) (sp : Sp) : Prop where
  has : ∃ (f : Addr) (fd : FuncData) (ds : List Value), mg x = some (.ref f) ∧ PySem.W.keepIn K (.ref f) = true ∧ FnG P w K mg base CX k f fd ps sp ∧ Binds K fd ps ds ∧ Vals dvs ds
/-- where a def of the text stands behind the top -/
structure Df (K : PySem.W.Frag) (mg : Str → Option Value) (x : Str) (st : Stmt) (ps : List Str) : Prop where
  has : ∃ (f : Addr) (fd : FuncData), mg x = some (.ref f) ∧ Fun K x x st f fd ∧ Binds K fd ps []
section
variable {P : Program} {w : World} {K : PySem.W.Frag} {mg : Str → Option Value} {base : Heap} {CX : CXT} {k : Nat} {x : Str} {ps : List Str} {dvs : List V} {sp : Sp} {st : Stmt}
theorem Df.own (D : Df K mg x st ps) (h : ∀ (f : Addr) (fd : FuncData), Fun K x x st f fd → FnOk P w K mg base CX k f fd ps sp) : Own P w K mg base CX k x ps [] sp := by
  obtain ⟨f, fd, g, F, b⟩ := D.has
  exact ⟨f, fd, [], g, F.kp, h f fd F, b, .nil⟩
theorem Df.ownG (D : Df K mg x st ps) (h : ∀ (f : Addr) (fd : FuncData), Fun K x x st f fd → FnG P w K mg base CX k f fd ps sp) : OwnG P w K mg base CX k x ps [] sp := by
  obtain ⟨f, fd, g, F, b⟩ := D.has
  exact ⟨f, fd, [], g, F.kp, h f fd F, b, .nil⟩
end
section
variable {X : Cx} {CX : CXT} {k : Nat} {ps : List Str} {sp : Sp} {dvs : List V} {E : XK} {x : Str} {p pos : Pos} {e : Expr} {es : List Expr} {t : TA}
theorem pe_own (F : Own X.prog X.w X.K X.mg X.base CX k x ps dvs sp) (hr : Room k X.A) (hx : Passes CX X E) (ha : PA X (e :: es) t) (hg : Gl X x := by rfl) (hdb : (x == ("__debug__" : Str)) = false := by decide)
    (he : starEach (e :: es) X.env = (false, eval e X.env) :: starEach es X.env := by rfl) (hpl : (backTo pos (starEach es X.env)).any (·.1) = false := by rfl) : PE X (.Call (.Name x p) (e :: es) [] pos) (tCall sp dvs E t) := by
  obtain ⟨f, fd, ds, hm, hk, G, b, v⟩ := F.has
  exact pe_call G hr hg hm hk b v hx ha hdb he hpl
theorem pe_ownG (F : OwnG X.prog X.w X.K X.mg X.base CX k x ps dvs sp) (gu : X.A.guards = some []) (hr : Room k X.A) (hx : Passes CX X E) (ha : PA X (e :: es) t) (hg : Gl X x := by rfl) (hdb : (x == ("__debug__" : Str)) = false := by decide)
    (he : starEach (e :: es) X.env = (false, eval e X.env) :: starEach es X.env := by rfl) (hpl : (backTo pos (starEach es X.env)).any (·.1) = false := by rfl) : PE X (.Call (.Name x p) (e :: es) [] pos) (tCall sp dvs E t) := by
  obtain ⟨f, fd, ds, hm, hk, G, b, v⟩ := F.has
  exact pe_callG G gu hr hg hm hk b v hx ha hdb he hpl
/-- such a call in a try's body: what is raised is wished for at the slots -/
def tOwnS (sp : Sp) (dvs : List V) (W : WX) (t : TA) : TE := fun σ H Q => t σ H fun vs H1 => sp (vs ++ dvs) H1 Q (fun cls d H' => W cls d σ H')
theorem pe_ownS {W : WX} (F : Own X.prog X.w X.K X.mg X.base CX k x ps dvs sp) (hr : Room k X.A) (hx : ∀ σ, PassesAt CX X σ (fun cls d H' => W cls d σ H')) (ha : PA X (e :: es) t) (hg : Gl X x := by rfl) (hdb : (x == ("__debug__" : Str)) = false := by decide)
    (he : starEach (e :: es) X.env = (false, eval e X.env) :: starEach es X.env := by rfl) (hpl : (backTo pos (starEach es X.env)).any (·.1) = false := by rfl) : PE X (.Call (.Name x p) (e :: es) [] pos) (tOwnS sp dvs W t) := by
  obtain ⟨f, fd, ds, hm, hk, G, b, v⟩ := F.has
  constructor
  intro pins s σ H Q I h
  refine wpAny_Call_Name_kw (ld_glob I hg hm ?_ hdb)
  refine PySem.W.callWith_K (h₀ := X.base) I.ok.mod.kin hk ?_ he hpl
  refine thn (PA.run ha pos pins s σ H _ I h) ?_
  intro us s1 hh
  obtain ⟨vs, H1, I1, r, q⟩ := hh
  refine ⟨I1.kIn, ?_⟩
  have r2 : Vals (vs ++ dvs) (us ++ ds) := Vals.append r v
  have cnt : (us ++ ds).length = ps.length := (r2.length).symm.trans (G.len _ _ _ _ q)
  refine wpAny_call (codeAny_mono (G.run X.A X.stack s1 H1 ⟨us, []⟩ (us ++ ds) (vs ++ dvs) Q _ hr I1.env0 (b s1 us I1.kIn cnt) r2 q) ?_)
  intro res s2 hq
  cases res with
  | error er => exact hx σ pins H1 s1 er s2 I1 hq
  | ok fl =>
    cases fl with
    | ret u => exact Inv.after I1 hq
    | next => exact hq.elim
    | brk => exact hq.elim
    | cont => exact hq.elim
end
/-- x names such a class, at C -/
structure Err (K : PySem.W.Frag) (mg : Str → Option Value) (x : Str) (C : Addr) : Prop where
  g : mg x = some (.ref C)
  ox : OexC K C
  xf : XfC K C
  no : PySem.W.findIn K (.ref C) "value" = some none
  ini : ∃ (f : Addr) (q : Str) (st : Stmt) (fd : FuncData), PySem.W.findIn K (.ref C) "__init__" = some (some (.ref f)) ∧ PySem.W.typeIn K (.ref f) = some (.type "function") ∧ Fun K "__init__" q st f fd ∧ Binds K fd ["self", "value"] [] ∧
    FnScope ["self", "value"] ["self", "value"] (defScope st) ∧
    (∀ X : Cx, X.N = (["self", "value"] : List Str) → X.env.scope = defScope st → ∃ t : TS, PSs X (defBody st) t ∧ (∀ D σ H, tOst X.K "value" (tVar 0) (tVar 1) D σ H → t D σ H))
/-- an error of the class at C with the value v is let out, all else as it was -/
def Thrown (C : Addr) (v : V) (H : Hp) (E : XK) : Prop := ∀ (d : Addr) (H' : Hp), Same H H' → H d = none → H' d = some (.xd [(("value" : Str), v)]) → E (.ref C) (some d) H'
def spIni (K : PySem.W.Frag) (C : Addr) : Sp := fun vs H Q _ => ∃ (a : Addr) (v : V), vs = [.ref a, v] ∧ H a = some (exo a C none) ∧ ∀ dx, H dx = none → dx ≠ a → Q .non (upd (upd H dx (exd dx [(("value" : Str), v)])) a (exo a C (some dx)))
section
variable {P : Program} {w : World} {K : PySem.W.Frag} {mg : Str → Option Value} {base : Heap}
theorem Err.init {x : Str} {C : Addr} (T : Err K mg x C) : ∃ (f : Addr) (fd : FuncData), PySem.W.findIn K (.ref C) "__init__" = some (some (.ref f)) ∧ PySem.W.typeIn K (.ref f) = some (.type "function") ∧ Binds K fd ["self", "value"] [] ∧
    FnOk P w K mg base CX0 1 f fd ["self", "value"] (spIni K C) := by
  obtain ⟨f, q, st, fd, h1, h2, F, b, S, dv⟩ := T.ini
  refine ⟨f, fd, h1, h2, b, F.ok S (fun vs H Q E h => ?_) (fun cdv A outer s H vs Q E hr h => ?_)⟩
  · obtain ⟨a, v, e, _⟩ := h
    rw [e]
    rfl
  · obtain ⟨a, v, e, ea, k⟩ := h
    subst e
    obtain ⟨t, d, go⟩ := dv (cxOf CX0 P w K mg base ["self", "value"] q (defScope st) f cdv A outer s H E).nox rfl rfl
    refine ⟨t, d, go _ _ _ ?_⟩
    exact ⟨v, rfl, .ref a, rfl, a, C, rfl, T.ox, T.no, Or.inl ⟨ea, k⟩⟩
end
section
variable {X : Cx} {x : Str} {C : Addr} {e : Expr} {te : TE} {p pos pos2 : Pos} {W : WX}
/-- raise x(e) -/
def tThrow (K : PySem.W.Frag) (C : Addr) (W : WX) (te : TE) : TS := fun _ σ H => tMkO C (spIni K C) [] (tCons te tNil) σ H fun cls d H' => W cls d σ H'
theorem ps_throw (T : Err X.K X.mg x C) (hc : X.calm = true) (hr : Room 2 X.A) (tk : Takes X W) (he : PE X e te) (hg : Gl X x := by rfl) (hdb : (x == ("__debug__" : Str)) = false := by decide)
    (hs : starEach (e :: []) X.env = (false, eval e X.env) :: starEach [] X.env := by rfl) (hpl : (backTo pos (starEach [] X.env)).any (·.1) = false := by rfl) :
    PS X (.Raise (some (.Call (.Name x p) [e] [] pos)) none pos2) (tThrow X.K C W te) := by
  obtain ⟨f, fd, h1, h2, b, F⟩ := T.init (P := X.prog) (w := X.w) (base := X.base)
  exact ps_raise (pos := pos2) hc tk (pmk_oex (x := x) (p := p) (pos := pos) (dvs := []) (ds := []) T.ox h1 h2 F hr b .nil pass0 hg T.g (pa_cons he pa_nil hs) hdb hs hpl)
/-- what the reading of a raise asks, from Thrown -/
theorem thrown_go {K : PySem.W.Frag} {H : Hp} {E : XK} {v : V} (h : Thrown C v H E) : [v].length ≤ 1000 ∧ ∀ a, H a = none → spIni K C (.ref a :: ([v] ++ [])) (upd H a (exo a C none))
    (fun u H2 => u = .non ∧ ∃ (d : Addr) (fs : List (Str × V)), H2 a = some (exo a C (some d)) ∧ H2 d = some (exd d fs) ∧ H d = none ∧ E (.ref C) (some d) (upd (del H2 a) d (.xd fs))) (fun _ _ _ => False) := by
  refine ⟨by show 1 ≤ 1000; decide, fun a ha => ⟨a, v, rfl, upd_same, fun dx hd ne => ⟨rfl, dx, _, upd_same, by rw [upd_ne ne, upd_same], ?_, ?_⟩⟩⟩
  · rw [upd_ne ne] at hd
    exact hd
  · rw [upd_ne ne] at hd
    refine h dx _ (fun b o e => ?_) hd upd_same
    rw [upd_ne (ne_of_none e hd), del_ne (ne_of_none e ha), upd_ne (ne_of_none e ha), upd_ne (ne_of_none e hd), upd_ne (ne_of_none e ha)]
    exact e
end
end Rw
set_option Elab.async false
set_option linter.all false
set_option maxRecDepth 100000
set_option maxHeartbeats 4000000
namespace Rw
open PySem PySem.Spec PyProof.Rows L2
def kindS : PyData → String
  | .none => "NoneType" | .bool _ => "bool" | .int _ => "int" | .str _ => "str" | .list _ => "list" | .tuple _ => "tuple" | .dict _ => "dict"
def intish : PyData → Bool
  | .int _ => true | .bool _ => true | _ => false
def boolish : PyData → Bool
  | .bool _ => true | _ => false
def isIntD : PyData → Bool
  | .int _ => true | _ => false
section
variable {K : PySem.W.Frag} {H H' : Hp} {v : V} {d : PyData}
theorem any_ty (h : Any H v d) : TyX K H v (.type (kindS d)) := by
  cases h with
  | non => exact .base .non
  | bl b => exact .base (.bl b)
  | int i => exact .base (.int i)
  | str x => exact .base (.str x)
  | lst e _ => exact .base (.lst e)
  | tup e _ => exact .base (.tup e)
  | dct e _ => exact .base (.dK e)
theorem kit_int (d : PyData) : PySem.W.kitOne K (.type (kindS d)) (.type "int") = some (intish d) := by
  cases d with
  | none => exact kit_ty (show kitB "NoneType" "int" = some false by decide +kernel)
  | bool b => exact kit_ty (show kitB "bool" "int" = some true by decide +kernel)
  | int i => exact kit_ty (show kitB "int" "int" = some true by decide +kernel)
  | str x => exact kit_ty (show kitB "str" "int" = some false by decide +kernel)
  | list xs => exact kit_ty (show kitB "list" "int" = some false by decide +kernel)
  | tuple xs => exact kit_ty (show kitB "tuple" "int" = some false by decide +kernel)
  | dict kvs => exact kit_ty (show kitB "dict" "int" = some false by decide +kernel)
theorem kit_bool (d : PyData) : PySem.W.kitOne K (.type (kindS d)) (.type "bool") = some (boolish d) := by
  cases d with
  | none => exact kit_ty (show kitB "NoneType" "bool" = some false by decide +kernel)
  | bool b => exact kit_ty (show kitB "bool" "bool" = some true by decide +kernel)
  | int i => exact kit_ty (show kitB "int" "bool" = some false by decide +kernel)
  | str x => exact kit_ty (show kitB "str" "bool" = some false by decide +kernel)
  | list xs => exact kit_ty (show kitB "list" "bool" = some false by decide +kernel)
  | tuple xs => exact kit_ty (show kitB "tuple" "bool" = some false by decide +kernel)
  | dict kvs => exact kit_ty (show kitB "dict" "bool" = some false by decide +kernel)
theorem int_of (h : Any H v d) (e : isIntD d = true) : ∃ n, d = .int n ∧ v = .int n := by
  cases h with
  | int i => exact ⟨i, rfl, rfl⟩
  | _ => cases e
mutual
theorem any_keep (k : Same H H') : ∀ (d : PyData) (v : V), Any H v d → Any H' v d
  | .none, _, h => by
    cases h
    exact .non
  | .bool b, _, h => by
    cases h
    exact .bl b
  | .int i, _, h => by
    cases h
    exact .int i
  | .str x, _, h => by
    cases h
    exact .str x
  | .list ds, _, h => by
    cases h with
    | lst e a => exact .lst (k _ _ e) (any_keepL k ds _ a)
  | .tuple ds, _, h => by
    cases h with
    | tup e a => exact .tup (k _ _ e) (any_keepL k ds _ a)
  | .dict ds, _, h => by
    cases h with
    | dct e a => exact .dct (k _ _ e) (any_keepK k ds _ a)
theorem any_keepL (k : Same H H') : ∀ (ds : List PyData) (vs : List V), AnyL H vs ds → AnyL H' vs ds
  | [], _, h => by
    cases h
    exact .nil
  | d :: ds, _, h => by
    cases h with
    | cons a b => exact .cons (any_keep k d _ a) (any_keepL k ds _ b)
theorem any_keepK (k : Same H H') : ∀ (ds : List (PyData × PyData)) (vs : List (Key × V)), AnyK H vs ds → AnyK H' vs ds
  | [], _, h => by
    cases h
    exact .nil
  | (_, d) :: ds, _, h => by
    cases h with
    | cons a b => exact .cons (any_keep k d _ a) (any_keepK k ds _ b)
end
theorem Any.keep (h : Any H v d) (k : Same H H') : Any H' v d := any_keep k d v h
end
/-- what was tracked but at p is as it was -/
def Grow (p : Addr) (H H' : Hp) : Prop := ∀ b o, b ≠ p → H b = some o → H' b = some o
theorem Grow.refl {p : Addr} {H : Hp} : Grow p H H := fun _ _ _ e => e
theorem Grow.trans {p : Addr} {H H1 H2 : Hp} (a : Grow p H H1) (b : Grow p H1 H2) : Grow p H H2 := fun c o n e => b c o n (a c o n e)
theorem Grow.of {p : Addr} {H H' : Hp} (a : Same H H') : Grow p H H' := fun c o _ e => a c o e
theorem Grow.put {p : Addr} {H : Hp} {o : HO} : Grow p H (upd H p o) := fun c u n e => by
  rw [upd_ne n]
  exact e
theorem Grow.del {p : Addr} {H H' : Hp} (a : Grow p H H') : Same (del H p) (del H' p) := fun c o e => by
  by_cases z : c = p
  · rw [z, del_same] at e
    cases e
  · rw [del_ne z] at e
    rw [del_ne z]
    exact a c o z e
theorem same_del {p : Addr} {H : Hp} : Same (del H p) H := fun c o e => by
  by_cases z : c = p
  · rw [z, del_same] at e
    cases e
  · rw [del_ne z] at e
    exact e
theorem same_new {p : Addr} {H : Hp} {o : HO} (h : H p = none) : Same H (upd H p o) := fun c u e => by
  rw [upd_ne (ne_of_none e h)]
  exact e
theorem del_new {p q : Addr} {H : Hp} {o : HO} (h : H q = none) : Same (del H p) (del (upd H q o) p) := Grow.del (Grow.of (same_new h))
def primesL : List Int := [2, 3, 5, 7, 11, 13]
def isPr : PyData → Bool
  | .int n => decide (n ∈ primesL)
  | _ => false
theorem prime_cases {p : Int} (h : p ∈ primesL) : p = 2 ∨ p = 3 ∨ p = 5 ∨ p = 7 ∨ p = 11 ∨ p = 13 := by
  simpa [primesL] using h
theorem prime_pos {p : Int} (h : p ∈ primesL) : 2 ≤ p ∧ p ≤ 13 := by
  rcases prime_cases h with e | e | e | e | e | e <;> omega
/-- a number that is no multiple of the prime has an inverse -/
theorem has_inverse {p n : Int} (h : p ∈ primesL) (hn : n % p ≠ 0) : ∃ j : Nat, ((j : Int) + 1) < p ∧ ((1 + (j : Int)) * n) % p = 1 := by
  have key : ∀ (p : Int) (r : Int), p ∈ primesL → 0 ≤ r → r < p → r ≠ 0 → ∃ j : Nat, ((j : Int) + 1) < p ∧ ((1 + (j : Int)) * r) % p = 1 := by
    intro p r hp h0 h1 h2
    have c : ∀ p ∈ [2, 3, 5, 7, 11, 13], ∀ r ∈ List.range p, r ≠ 0 → ∃ j ∈ List.range 12, j + 1 < p ∧ ((1 + j) * r) % p = 1 := by decide +kernel
    obtain ⟨j, _, a, b⟩ := c p.toNat (by rcases prime_cases hp with e | e | e | e | e | e <;> subst e <;> decide) r.toNat (List.mem_range.mpr (by omega)) (by omega)
    refine ⟨j, by omega, ?_⟩
    have e1 : ((p.toNat : Nat) : Int) = p := Int.toNat_of_nonneg (by omega)
    have e2 : ((r.toNat : Nat) : Int) = r := Int.toNat_of_nonneg h0
    have b2 : ((((1 + j) * r.toNat % p.toNat : Nat)) : Int) = ((1 : Nat) : Int) := by rw [b]
    rw [Int.natCast_emod, Int.natCast_mul, e1, e2, Int.natCast_add] at b2
    exact b2
  have hp := prime_pos h
  obtain ⟨j, a, b⟩ := key p (n % p) h (Int.emod_nonneg n (by omega)) (Int.emod_lt_of_pos n (by omega)) hn
  refine ⟨j, a, ?_⟩
  rw [Int.mul_emod, Int.emod_emod_of_dvd n (Int.dvd_refl p), ← Int.mul_emod] at b
  exact b
theorem fmod_pos {a b : Int} (h : 0 < b) : a.fmod b = a % b := Int.fmod_eq_emod_of_nonneg a (by omega)
end Rw
set_option Elab.async false
set_option linter.all false
set_option maxRecDepth 100000
set_option maxHeartbeats 4000000
namespace Rw
open PySem PySem.Spec PyProof.Rows L2
/-- a def of the text stands at f under the name x -/
def DefAt (K : PySem.W.Frag) (x qual : Str) (st : Stmt) (f : Addr) : Prop :=
  ∃ (oc : Value) (od : Option Addr) (kV dc pm : Value) (an : Option Addr) (cd ct : Value) (sl : Array (Option Value)), K.lookup f = some ⟨oc, od, .func (PySem.W.fnOf x qual (defArgs st) (defBody st) (defScope st) .none kV dc pm an cd ct), sl⟩ ∧
    PySem.W.codeIn K cd qual = true ∧ PySem.W.keepIn K (.ref f) = true
def DefHere (K : PySem.W.Frag) (x : Str) (st : Stmt) : Prop := ∃ f : Addr, PySem.W.nsIn K mainGlobals x = some (some (.ref f)) ∧ DefAt K x x st f
/-- a def with defaults -/
def DflHere (K : PySem.W.Frag) (x : Str) (st : Stmt) (ds : List Value) : Prop :=
  ∃ (f T : Addr) (oc : Value) (od : Option Addr) (kV dc pm : Value) (an : Option Addr) (cd ct : Value) (sl : Array (Option Value)) (tc : Value) (td : Option Addr) (n : Nat) (ts : Array (Option Value)), PySem.W.nsIn K mainGlobals x = some (some (.ref f)) ∧
    K.lookup f = some ⟨oc, od, .func (PySem.W.fnOf x x (defArgs st) (defBody st) (defScope st) (.ref T) kV dc pm an cd ct), sl⟩ ∧ PySem.W.codeIn K cd x = true ∧ PySem.W.keepIn K (.ref f) = true ∧
    K.lookup T = some ⟨tc, td, .seq ds.toArray n, ts⟩
/-- an own error class x below the class at R, its __init__ is st -/
def ErrHere (K : PySem.W.Frag) (x q : Str) (st : Stmt) (R C : Addr) : Prop :=
  ∃ (f N : Addr) (nm qn : Str) (bs : List Value) (sn : List Str) (sub : List Value) (ab : Bool) (col : Option Bool) (dd : Option Addr) (m0 m1 m2 m3 m5 : Option Value), PySem.W.nsIn K mainGlobals x = some (some (.ref C)) ∧
    K.lookup C = some (excClassObj nm qn C N bs [.ref R, .type "ValueError", .type "Exception", .type "BaseException", .type "object"] true sn sub ab col dd m0 m1 m2 m3 m5 "ValueError.__new__") ∧
    PySem.W.findIn K (.ref C) "__setattr__" = some (some (.builtin "object.__setattr__")) ∧ PySem.W.findIn K (.ref C) "__getattribute__" = some (some (.builtin "BaseException.__getattribute__")) ∧ PySem.W.findIn K (.ref C) "__getattr__" = some none ∧
    PySem.W.findIn K (.ref C) "value" = some none ∧ PySem.W.findIn K (.ref C) "__init__" = some (some (.ref f)) ∧ PySem.W.typeIn K (.ref f) = some (.type "function") ∧ DefAt K "__init__" q st f ∧
    PySem.W.keepIn K (.ref C) = true ∧ PySem.W.subIn K (.ref C) (.type "BaseException") = some true ∧ PySem.W.typeIn K (.ref C) = some (.type "type") ∧ PySem.W.hasDictIn K C = true
section
variable {K : PySem.W.Frag} {mg : Str → Option Value} {h : Heap}
theorem DefHere.df {x : Str} {st : Stmt} {ps : List Str} (D : DefHere K x st) (X : K.In h) (G : h.Ns mainGlobals mg)
    (b : ∀ (kV doc pm : Value) (an : Option Addr) (cdv ct : Value) (us : List Value), us.length = ps.length → bindArgs (PySem.W.fnOf x x (defArgs st) (defBody st) (defScope st) .none kV doc pm an cdv ct) ⟨us, []⟩ = pure (ps.zip us)) : Df K mg x st ps := by
  obtain ⟨f, g, oc, od, kV, dc, pm, an, cd, ct, sl, l, c, k⟩ := D
  have F := fun_mk (st := st) l c k
  exact ⟨f, _, PySem.W.mg_of X G g, F, F.binds b⟩
theorem exm_of {A C : Addr} {b : Bool} (h1 : PySem.W.subIn K (.ref C) (.type "BaseException") = some true) (h2 : PySem.W.isClsIn K C = true) (h3 : PySem.W.typeIn K (.ref C) = some (.type "type")) (h4 : PySem.W.subIn K (.ref A) (.ref C) = some b) :
    PySem.W.exmOne K (.ref A) (.ref C) = some b := by
  have e1 : (PySem.W.subIn K (.ref C) (.type "BaseException") == some true) = true := by
    rw [h1] <;> rfl
  have h2' : (PySem.W.clsIn K C).isSome = true := h2
  have e2 : ((PySem.W.clsIn K C).isSome && PySem.W.typeIn K (.ref C) == some (.type "type")) = true := by
    rw [h2', h3] <;> rfl
  unfold PySem.W.exmOne
  rw [if_pos e1]
  show (if ((PySem.W.clsIn K C).isSome && PySem.W.typeIn K (.ref C) == some (.type "type")) = true then PySem.W.subIn K (.ref A) (.ref C) else none) = some b
  rw [if_pos e2]
  exact h4
/-- the body of __init__(self, value): self.value = value -/
def IsIni (st : Stmt) : Prop := ∃ p1 p2 p3 p4 : Pos, defBody st = [.Assign [.Attribute (.Name "self" p1) "value" p2] (.Name "value" p3) p4] ∧ (defScope st).names.lookup ("self" : Str) = some NameKind.local ∧ (defScope st).names.lookup ("value" : Str) = some NameKind.local
theorem ini_walk {st : Stmt} (I : IsIni st) (X : Cx) (hN : X.N = (["self", "value"] : List Str)) (hS : X.env.scope = defScope st) : ∃ t : TS, PSs X (defBody st) t ∧ (∀ D σ H, tOst X.K "value" (tVar 0) (tVar 1) D σ H → t D σ H) := by
  obtain ⟨p1, p2, p3, p4, e, l1, l2⟩ := I
  rw [e]
  refine ⟨_, pss_one (ps_ost (pe_var (i := 0) (by rw [hN]; rfl) (.inl (by rw [hS]; exact l1))) (pe_var (i := 1) (by rw [hN]; rfl) (.inl (by rw [hS]; exact l2)))), fun D σ H z => z⟩
theorem ErrHere.err {x q : Str} {st : Stmt} {R C : Addr} (E : ErrHere K x q st R C) (X : K.In h) (G : h.Ns mainGlobals mg) (S : FnScope ["self", "value"] ["self", "value"] (defScope st)) (I : IsIni st)
    (b : ∀ (kV doc pm : Value) (an : Option Addr) (cdv ct : Value) (us : List Value), us.length = 2 → bindArgs (PySem.W.fnOf "__init__" q (defArgs st) (defBody st) (defScope st) .none kV doc pm an cdv ct) ⟨us, []⟩ = pure ((["self", "value"] : List Str).zip us)) : Err K mg x C := by
  obtain ⟨f, N, nm, qn, bs, sn, sub, ab, col, dd, m0, m1, m2, m3, m5, g, l, sa, ga, gg, no, ini, ty, ⟨oc, od, kV, dc, pm, an, cd, ct, sl, lf, cf, kf⟩, kc, ex, tc, hd⟩ := E
  have F := fun_mk (x := "__init__") (qual := q) (st := st) lf cf kf
  exact {
    g := PySem.W.mg_of X G g
    ox := ⟨⟨nm, qn, N, bs, _, sn, sub, ab, col, dd, m0, m1, m2, m3, m5, l, rfl⟩, sa, ex, tc, kc⟩
    xf := ⟨ga, gg, ex, hd⟩
    no := no
    ini := ⟨f, q, st, _, ini, ty, F, F.binds b, S, ini_walk I⟩ }
/-- a tuple of ints of the text -/
def IntsHere (K : PySem.W.Frag) (x : Str) (a : Addr) (us : List Value) : Prop := ∃ (dd : Option Addr) (n : Nat) (sl : Array (Option Value)), PySem.W.nsIn K mainGlobals x = some (some (.ref a)) ∧ K.lookup a = some ⟨.type "tuple", dd, .seq us.toArray n, sl⟩
theorem DefHere.of {x : Str} {st : Stmt} {f : Addr} {oc : Value} {od : Option Addr} {kV dc pm : Value} {an : Option Addr} {cd ct : Value} {sl : Array (Option Value)} (g : PySem.W.nsIn K mainGlobals x = some (some (.ref f)))
    (l : K.lookup f = some ⟨oc, od, .func (PySem.W.fnOf x x (defArgs st) (defBody st) (defScope st) .none kV dc pm an cd ct), sl⟩) (c : PySem.W.codeIn K cd x = true) (k : PySem.W.keepIn K (.ref f) = true) : DefHere K x st :=
  ⟨f, g, oc, od, kV, dc, pm, an, cd, ct, sl, l, c, k⟩
theorem DflHere.of {x : Str} {st : Stmt} {ds : List Value} {f T : Addr} {oc : Value} {od : Option Addr} {kV dc pm : Value} {an : Option Addr} {cd ct : Value} {sl : Array (Option Value)} {tc : Value} {td : Option Addr} {n : Nat} {ts : Array (Option Value)}
    (g : PySem.W.nsIn K mainGlobals x = some (some (.ref f))) (l : K.lookup f = some ⟨oc, od, .func (PySem.W.fnOf x x (defArgs st) (defBody st) (defScope st) (.ref T) kV dc pm an cd ct), sl⟩) (c : PySem.W.codeIn K cd x = true) (k : PySem.W.keepIn K (.ref f) = true)
    (t : K.lookup T = some ⟨tc, td, .seq ds.toArray n, ts⟩) : DflHere K x st ds := ⟨f, T, oc, od, kV, dc, pm, an, cd, ct, sl, tc, td, n, ts, g, l, c, k, t⟩
theorem ErrHere.of {x q : Str} {st : Stmt} {R C f N : Addr} {nm qn : Str} {bs : List Value} {sn : List Str} {sub : List Value} {ab : Bool} {col : Option Bool} {dd : Option Addr} {m0 m1 m2 m3 m5 : Option Value}
    {oc : Value} {od : Option Addr} {kV dc pm : Value} {an : Option Addr} {cd ct : Value} {sl : Array (Option Value)} (g : PySem.W.nsIn K mainGlobals x = some (some (.ref C)))
    (xl : K.lookup C = some (excClassObj nm qn C N bs [.ref R, .type "ValueError", .type "Exception", .type "BaseException", .type "object"] true sn sub ab col dd m0 m1 m2 m3 m5 "ValueError.__new__"))
    (sa : PySem.W.findIn K (.ref C) "__setattr__" = some (some (.builtin "object.__setattr__"))) (ga : PySem.W.findIn K (.ref C) "__getattribute__" = some (some (.builtin "BaseException.__getattribute__"))) (gg : PySem.W.findIn K (.ref C) "__getattr__" = some none)
    (no : PySem.W.findIn K (.ref C) "value" = some none) (ini : PySem.W.findIn K (.ref C) "__init__" = some (some (.ref f))) (ty : PySem.W.typeIn K (.ref f) = some (.type "function"))
    (l : K.lookup f = some ⟨oc, od, .func (PySem.W.fnOf "__init__" q (defArgs st) (defBody st) (defScope st) .none kV dc pm an cd ct), sl⟩) (c : PySem.W.codeIn K cd q = true) (k : PySem.W.keepIn K (.ref f) = true)
    (kc : PySem.W.keepIn K (.ref C) = true) (ex : PySem.W.subIn K (.ref C) (.type "BaseException") = some true) (tc : PySem.W.typeIn K (.ref C) = some (.type "type")) (hd : PySem.W.hasDictIn K C = true) : ErrHere K x q st R C :=
  ⟨f, N, nm, qn, bs, sn, sub, ab, col, dd, m0, m1, m2, m3, m5, g, xl, sa, ga, gg, no, ini, ty, ⟨oc, od, kV, dc, pm, an, cd, ct, sl, l, c, k⟩, kc, ex, tc, hd⟩
theorem IntsHere.of {x : Str} {a : Addr} {us : List Value} {dd : Option Addr} {n : Nat} {sl : Array (Option Value)} (g : PySem.W.nsIn K mainGlobals x = some (some (.ref a))) (l : K.lookup a = some ⟨.type "tuple", dd, .seq us.toArray n, sl⟩) : IntsHere K x a us := ⟨dd, n, sl, g, l⟩
end
end Rw
set_option Elab.async false
set_option linter.all false
set_option maxRecDepth 100000
set_option maxHeartbeats 4000000
namespace Rw
open PySem PySem.Spec PyProof.Rows L2
/-- a list (true) or a tuple (false) -/
def SqB (K : PySem.W.Frag) (H : Hp) : Bool → Addr → List V → Prop
  | true, a, xs => SqL K H a xs
  | false, a, xs => SqT K H a xs
def itB (h : Heap) : Bool → Addr → Addr → Nat → Prop
  | true, it, l, i => h.IsListIter it l i
  | false, it, l, i => h.IsTupleIter it l i
def sqB (h : Heap) : Bool → Addr → Array Value → Prop
  | true, l, xs => h.IsList l xs
  | false, l, xs => h.IsTuple l xs
def nmB : Bool → String
  | true => "list_iterator"
  | false => "tuple_iterator"
section
variable {X : Cx} {pins : List (Addr × Obj)} {σ : L2.St} {H : Hp} {s : Shared} {h h' : Heap} {k : Bool} {a it : Addr} {i : Nat} {xs ys : List V}
theorem sqB_inv (I : Inv X pins σ H s) (q : SqB X.K H k a xs) : ∃ its : List Value, Vals xs its ∧ sqB s.heap k a its.toArray ∧ a < s.heap.objs.size := by
  cases k with
  | true =>
    obtain ⟨its, r, p, _⟩ := I.list q
    exact ⟨its, r, p.isList, p.lt⟩
  | false =>
    obtain ⟨its, r, p, _⟩ := I.tuple q
    obtain ⟨o, ho, _⟩ := id p
    exact ⟨its, r, p, Heap.lt_size ho⟩
theorem sqB_inj (I : Inv X pins σ H s) (q : SqB X.K H k a xs) (q' : SqB X.K H k a ys) : xs = ys := by
  cases k with
  | true => exact I.list_inj q q'
  | false => exact I.tuple_inj q q'
theorem itB_obj (t : itB h k it a i) : ∃ o, h.get? it = some o ∧ ∀ v, o.data ≠ .cell v := by
  cases k with
  | true =>
    obtain ⟨o, e, _, d⟩ := t
    exact ⟨o, e, fun v q => by rw [d] at q; cases q⟩
  | false =>
    obtain ⟨o, e, _, d⟩ := t
    exact ⟨o, e, fun v q => by rw [d] at q; cases q⟩
theorem itB_at (t : itB h k it a i) (e : ∀ o, h.get? it = some o → h'.get? it = some o) : itB h' k it a i := by
  cases k with
  | true => exact Heap.IsListIter.at t e
  | false => exact Heap.IsTupleIter.at t e
theorem drawsB {prog : Program} {w : World} {A : Around} (hh : A.handled = none) (k : Bool) (it l : Addr) (hne : l ≠ it) (items : Array Value) :
    Draws prog w A it [it, l] items.size (fun i v => items[i]? = some v) (fun i h => itB h k it l i ∧ sqB h k l items) := by
  cases k with
  | true => exact Draws.list hh it l hne items
  | false => exact Draws.tuple hh it l hne items
end
theorem itB_new {h : Heap} {k : Bool} {it l : Addr} (e : h.get? it = some { cls := .type (nmB k), data := .fields #[.ref l, .int 0 0] }) : itB h k it l 0 := by
  cases k with
  | true => exact ⟨_, e, rfl, rfl⟩
  | false => exact ⟨_, e, rfl, rfl⟩
end Rw
set_option Elab.async false
set_option linter.all false
set_option maxRecDepth 100000
set_option maxHeartbeats 4000000
namespace Rw
open PySem PySem.Spec PyProof.Rows L2
def isSeqD : PyData → Bool
  | .list _ => true | .tuple _ => true | _ => false
def itemsD : PyData → List PyData
  | .list ds => ds | .tuple ds => ds | _ => []
def isVecD (n : Int) (d : PyData) : Bool := isSeqD d && (decide (((itemsD d).length : Int) = n) && (itemsD d).all isIntD)
def isMatD (h w : Int) (d : PyData) : Bool := isSeqD d && (decide (((itemsD d).length : Int) = h) && (itemsD d).all (isVecD w))
/-- not too long, the ints not too great -/
structure Fit1 (d : PyData) : Prop where
  len : (itemsD d).length ≤ 1000
  sm : ∀ n, PyData.int n ∈ itemsD d → n.natAbs.log2 < 400
structure Fit (d : PyData) : Prop where
  top : Fit1 d
  sub : ∀ e, e ∈ itemsD d → Fit1 e
section
variable {K : PySem.W.Frag} {H H' : Hp} {v : V} {d : PyData} {xs : List V} {ds : List PyData}
theorem kit_seq (d : PyData) : PySem.W.kitAny K (.type (kindS d)) [.type "list", .type "tuple"] = some (isSeqD d) := by
  have z : PySem.W.kitAny K (.type (kindS d)) [] = some false := rfl
  have l0 : ∀ a, kitB a "list" = some false → kitB a "tuple" = some false → PySem.W.kitAny K (.type a) [.type "list", .type "tuple"] = some false := fun a p q =>
    kitAny_cons (b := false) (kit_ty p) (fun _ => kitAny_cons (b := false) (kit_ty q) (fun _ => z) (fun e => by cases e)) (fun e => by cases e)
  cases d with
  | none => exact l0 "NoneType" (by decide +kernel) (by decide +kernel)
  | bool b => exact l0 "bool" (by decide +kernel) (by decide +kernel)
  | int b => exact l0 "int" (by decide +kernel) (by decide +kernel)
  | str b => exact l0 "str" (by decide +kernel) (by decide +kernel)
  | dict b => exact l0 "dict" (by decide +kernel) (by decide +kernel)
  | list b => exact kitAny_cons (b := true) (kit_ty (show kitB "list" "list" = some true by decide +kernel)) (fun e => by cases e) (fun _ => rfl)
  | tuple b => exact kitAny_cons (b := false) (kit_ty (show kitB "tuple" "list" = some false by decide +kernel)) (fun _ => kitAny_cons (b := true) (kit_ty (show kitB "tuple" "tuple" = some true by decide +kernel)) (fun e => by cases e) (fun _ => rfl)) (fun e => by cases e)
theorem anyL_len : ∀ {xs : List V} {ds : List PyData}, AnyL H xs ds → xs.length = ds.length
  | _, _, .nil => rfl
  | _, _, .cons _ b => congrArg (· + 1) (anyL_len b)
theorem anyL_at : ∀ {xs : List V} {ds : List PyData} {i : Nat} {x : V}, AnyL H xs ds → xs[i]? = some x → ∃ d, ds[i]? = some d ∧ Any H x d
  | _, _, i, x, .nil, h => by simp at h
  | _, _, 0, x, .cons a _, h => by
    cases h
    exact ⟨_, rfl, a⟩
  | _, _, i + 1, x, .cons _ b, h => by
    obtain ⟨d, h1, h2⟩ := anyL_at (i := i) b (by simpa using h)
    exact ⟨d, by simpa using h1, h2⟩
theorem anyL_of : ∀ {xs : List V} {ds : List PyData} {i : Nat} {d : PyData}, AnyL H xs ds → ds[i]? = some d → ∃ x, xs[i]? = some x ∧ Any H x d
  | _, _, i, x, .nil, h => by simp at h
  | _, _, 0, x, .cons a _, h => by
    cases h
    exact ⟨_, rfl, a⟩
  | _, _, i + 1, x, .cons _ b, h => by
    obtain ⟨d, h1, h2⟩ := anyL_of (i := i) b (by simpa using h)
    exact ⟨d, by simpa using h1, h2⟩
theorem anyL_keep (k : Same H H') (h : AnyL H xs ds) : AnyL H' xs ds := any_keepL k ds xs h
theorem anyL_snoc : ∀ {xs : List V} {ds : List PyData} {x : V} {d : PyData}, AnyL H xs ds → Any H x d → AnyL H (xs ++ [x]) (ds ++ [d])
  | _, _, _, _, .nil, b => .cons b .nil
  | _, _, _, _, .cons a r, b => .cons a (anyL_snoc r b)
theorem anyL_ints : ∀ {ns : List Int} {xs : List V}, AnyL H xs (ns.map .int) → xs = ns.map V.int
  | [], _, h => by
    cases h
    rfl
  | n :: ns, _, h => by
    cases h with
    | cons a b =>
      cases a
      rw [anyL_ints b] <;> rfl
theorem anyL_bools : ∀ {ns : List Bool} {xs : List V}, AnyL H xs (ns.map .bool) → xs = ns.map V.bl
  | [], _, h => by
    cases h
    rfl
  | n :: ns, _, h => by
    cases h with
    | cons a b =>
      cases a
      rw [anyL_bools b] <;> rfl
theorem anyL_flags {g : PyData → Bool} {ds : List PyData} {xs : List V} (h : AnyL H xs (ds.map fun d => PyData.bool (g d))) : xs = (ds.map g).map V.bl := by
  refine anyL_bools (H := H) ?_
  rw [List.map_map]
  exact h
theorem ints_anyL : ∀ (ns : List Int), AnyL H (ns.map V.int) (ns.map .int)
  | [] => .nil
  | n :: ns => .cons (.int n) (ints_anyL ns)
/-- data that is a list or a tuple, with its items -/
theorem seq_of (h : Any H v d) (e : isSeqD d = true) : ∃ (k : Bool) (a : Addr) (xs : List V), v = .ref a ∧ (∀ {H' : Hp}, Same H H' → ∀ K, SqB K H' k a xs) ∧ AnyL H xs (itemsD d) := by
  cases h with
  | lst ea ha => exact ⟨true, _, _, rfl, fun k K => SqL.of (k _ _ ea), ha⟩
  | tup ea ha => exact ⟨false, _, _, rfl, fun k K => SqT.of (k _ _ ea), ha⟩
  | _ => cases e
theorem SqB.or {k : Bool} {a : Addr} (h : SqB K H k a xs) : SqL K H a xs ∨ SqT K H a xs := by
  cases k with
  | true => exact .inl h
  | false => exact .inr h
theorem vec_ints : ∀ {ds : List PyData}, ds.all isIntD = true → ∃ ns : List Int, ds = ns.map .int
  | [], _ => ⟨[], rfl⟩
  | d :: ds, h => by
    simp only [List.all_cons, Bool.and_eq_true] at h
    obtain ⟨ns, e⟩ := vec_ints h.2
    cases d with
    | int n => exact ⟨n :: ns, by rw [e] <;> rfl⟩
    | _ => cases h.1
end
def ItS (K : PySem.W.Frag) : Bool → Addr → It
  | true, a => Itl K a
  | false, a => Itt K a
def iSeq (K : PySem.W.Frag) (tl : TE) : TI := fun σ H R => tl σ H fun x H1 => ∃ a k xs, x = .ref a ∧ SqB K H1 k a xs ∧ R (ItS K k a) H1
theorem pi_seq {X : Cx} {tg l : Expr} {tl : TE} (hl : PE X l tl) : PI X tg l (iSeq X.K tl) := by
  refine ⟨fun pins s σ H R I h => ?_⟩
  refine thn (hl.run pins s σ H _ I h) fun v s1 ⟨x, H1, I1, r1, q1⟩ => ?_
  obtain ⟨a, k, xs, e, hq, q⟩ := q1
  subst e
  cases r1
  cases k with
  | true =>
    obtain ⟨its, rv, p, hz⟩ := I1.list hq
    refine wpAny_pyIter_list p.isList ?_
    refine ⟨s1.heap.objs.size, [s1.heap.objs.size], _, _, H1, rfl, I1.kept (t' := s1.toks) fun b o e => Heap.get?_push_of_some _ e, turn_list a _, ⟨_, Heap.get?_push_size _ rfl, rfl, rfl⟩, fun b hb => ?_, q⟩
    have e : b = s1.heap.objs.size := by simpa using hb
    subst e
    exact I1.fpOk (Nat.le_refl _) (I1.hok.fresh (Nat.le_refl _))
  | false =>
    obtain ⟨its, rv, p, hz⟩ := I1.tuple hq
    refine wpAny_pyIter_tuple (show s1.heap.IsTuple a its.toArray from p) ?_
    refine ⟨s1.heap.objs.size, [s1.heap.objs.size], _, _, H1, rfl, I1.kept (t' := s1.toks) fun b o e => Heap.get?_push_of_some _ e, turn_tuple a _, ⟨_, Heap.get?_push_size _ rfl, rfl, rfl⟩, fun b hb => ?_, q⟩
    have e : b = s1.heap.objs.size := by simpa using hb
    subst e
    exact I1.fpOk (Nat.le_refl _) (I1.hok.fresh (Nat.le_refl _))
section
variable {K : PySem.W.Frag} {k : Bool} {a : Addr} {xs : List V}
theorem walk_seq : Walk (ItS K k a) xs.length (fun H => SqB K H k a xs) (fun i H x H' => H' = H ∧ xs[i]? = some x) := by
  cases k with
  | true => exact walk_list
  | false => exact walk_tup
theorem walk_rng {n : Nat} : Walk (Itr 0 n) n (fun _ => True) (fun i H x H' => H' = H ∧ x = .int (i : Int)) :=
  walk_range.mono (fun _ z => z) fun i H x H' _ _ y => ⟨y.1, by
    have e := y.2
    simpa using e⟩
end
theorem del_upd {H : Hp} {D : Addr} {o : HO} : del (upd H D o) D = del H D := by
  funext c
  by_cases e : c = D
  · rw [e, del_same, del_same]
  · rw [del_ne e, del_ne e, upd_ne e]
/-- new data of each turn, nothing else changed -/
theorem lc_same {J : It} {n : Nat} {G : Hp → Prop} {P : Nat → V → Prop} (w : Walk J n G (fun i H x H' => H' = H ∧ P i x)) {j : Nat} {σ : L2.St} {vs : List Nat} {te : TE} {H1 : Hp} {D : Addr} {Q : Hp → Prop} (hn : n ≤ 1000) (hD : H1 D = none) (hG : ∀ H, Same H1 H → G H) (f : Nat → PyData)
    (hs : ∀ i x H, i < n → P i x → Same H1 H → (∃ o, H D = some o) → wipe ((wipe σ vs).set j (some x)) vs = wipe σ vs ∧ ∀ k : VK, (∀ y H', Same H H' → Any (del H' D) y (f i) → k y H') → te ((wipe σ vs).set j (some x)) H k)
    (hq : ∀ H acc, Same H1 H → H D = some (.lst acc) → AnyL (del H D) acc ((List.range n).map f) → Q H) :
    ∃ W : Nat → Nat → Hp → Prop, (∃ m, W 0 m (upd H1 D (.lst []))) ∧ ∀ i m H, W i m H →
      (J.stop i H ∧ Q H) ∨ (J.go i H ∧ ∃ Nx : Hp → Prop, (∀ H', Nx H' → ∃ m', m' < m ∧ W (i + 1) m' H') ∧ ∀ x H', J.yld i H x H' → gName j x (wipe σ vs) H' fun σ2 H2 => wipe σ2 vs = wipe σ vs ∧ tYes σ2 H2 fun b H3 =>
        if b = true then te σ2 H3 fun y H4 => ∃ acc, H4 D = some (.lst acc) ∧ acc.length < sizeLine ∧ Nx (upd H4 D (.lst (acc ++ [y]))) else Nx H3) := by
  refine lc_it w (Qd := Q) (Pv := fun i H => Same H1 H ∧ ∃ acc, H D = some (.lst acc) ∧ acc.length = i ∧ AnyL (del H D) acc ((List.range i).map f)) ⟨same_new hD, [], upd_same, rfl, .nil⟩ (fun i H _ h => hG H h.1) ?_ ?_
  · rintro i x H H' hi ⟨s1, acc, ha, hl, an⟩ ⟨rfl, hp⟩
    obtain ⟨e1, e2⟩ := hs i x H' hi hp s1 ⟨_, ha⟩
    refine ⟨e1, ?_⟩
    show te _ _ _
    refine e2 _ fun y H4 s2 hy => ?_
    refine ⟨acc, s2 _ _ ha, Nat.lt_of_lt_of_le (by omega : acc.length < 1000) (by decide), ?_, acc ++ [y], upd_same, by rw [List.length_append, hl] <;> rfl, ?_⟩
    · intro b o e
      have ne : b ≠ D := ne_of_none e hD
      rw [upd_ne ne]
      exact s2 _ _ (s1 _ _ e)
    · rw [del_upd, List.range_succ, List.map_append]
      exact anyL_snoc (anyL_keep (Grow.del (Grow.of s2)) an) hy
  · rintro H ⟨s1, acc, ha, hl, an⟩
    exact hq H acc s1 ha an
theorem map_get {α β : Type} (g : α → β) (dd : α) : ∀ l : List α, (List.range l.length).map (fun i => g (l[i]?.getD dd)) = l.map g := by
  intro l
  apply List.ext_getElem
  · simp
  · intro i h1 h2
    simp at h1 h2
    simp [h1]
end Rw
set_option Elab.async false
set_option linter.all false
set_option maxRecDepth 100000
set_option maxHeartbeats 4000000
namespace Rw
open PySem PySem.Spec PyProof.Rows L2
set_option maxHeartbeats 1000000 in
theorem meets_enum_new1 {v : Value} {o : Obj} {H : Heap → Prop} (B : Begins v o H) :
    Meets (Builtin.«enumerate.__new__» ⟨[.type "enumerate", v], []⟩) (fun _ R s => H s.heap ∧
      R (.ok (.ret (.ref (s.heap.push o).objs.size))) { s with heap := (s.heap.push o).push { cls := .type "enumerate", data := .fields #[.none, .bool false, .ref s.heap.objs.size, rawInt 0, .none, .none] } }) :=
  .of_wp fun prog w A R s h => by
    obtain ⟨hp, g, d, tk, os⟩ := s; obtain ⟨h1, h⟩ := h
    have hsub := sub_enumerate
    have q1 : ∀ {A' : Around} {E : Value → Shared → Prop} {Q : Value → Shared → Prop}, Q (.ref hp.objs.size) ⟨hp.push o, g, d, tk, os⟩ → wpAny (model prog w) A' (pyIter v) Q E ⟨hp, g, d, tk, os⟩ :=
      fun q => B.iter prog w _ _ ⟨hp, g, d, tk, os⟩ _ h1 q
    wp_walk using q1
    refine wpAny_stack_any fun st => wpAny_pure ?_
    split
    · rename_i c _ _ _ _ _
      cases (c == Value.type "enumerate")
      · wp_walk using q1
        exact ⟨_, rfl, h⟩
      · wp_walk using q1
        exact ⟨_, rfl, h⟩
    · wp_walk using q1
      exact ⟨_, rfl, h⟩
section
variable {prog : Program} {w : World} {A : Around} {E : Value → Shared → Prop} {s : Shared}
theorem call_enum1 {v : Value} {o : Obj} {H : Heap → Prop} {Q : Value → Shared → Prop} (B : Begins v o H) (h1 : H s.heap)
    (h : ∀ h', IsEnum h' (s.heap.objs.size + 1) s.heap.objs.size 0 .none → h'.get? s.heap.objs.size = some o → h'.objs.size = s.heap.objs.size + 2 →
      (∀ b o, s.heap.get? b = some o → h'.get? b = some o) → Q (.ref (s.heap.objs.size + 1)) { s with heap := h' }) :
    wpAny (model prog w) A (call (.type "enumerate") [v]) Q E s := by
  refine callType_new F.called_enumerate (by decide) (F.typeCall_enumerate_1 _) (F.newCall_enumerate_1 _) (fun obj => F.args_object_init_2 obj _) F.entry_enumerate_new
    (meets_enum_new1 B) ⟨h1, ?_⟩
  have hz : (s.heap.push o).objs.size = s.heap.objs.size + 1 := Heap.size_push ..
  show _ ∧ _
  rw [hz]
  have he : IsEnum ((s.heap.push o).push { cls := .type "enumerate", data := .fields #[.none, .bool false, .ref s.heap.objs.size, rawInt 0, .none, .none] }) (s.heap.objs.size + 1) s.heap.objs.size 0 .none := by
    have := Heap.get?_push_size (s.heap.push o) (o := { cls := .type "enumerate", data := .fields #[.none, .bool false, .ref s.heap.objs.size, rawInt 0, .none, .none] }) rfl
    rw [hz] at this; exact this
  refine ⟨⟨_, he, rfl⟩, h _ he (Heap.get?_push_of_some _ (Heap.get?_push_size _ B.free)) (by rw [Heap.size_push, hz]) fun b o x => Heap.get?_push_of_some _ (Heap.get?_push_of_some _ x)⟩
end
def itObjB (k : Bool) (a : Addr) : Obj := { cls := .type (nmB k), data := .fields #[.ref a, .int 0 0] }
theorem begins_B (k : Bool) (a : Addr) (items : Array Value) : Begins (.ref a) (itObjB k a) fun h => sqB h k a items := by
  cases k with
  | true => exact begins_list a items
  | false => exact begins_tuple a items
/-- the list or tuple at a as it stands at each turn, each item in a new pair -/
def ItEB (K : PySem.W.Frag) (k : Bool) (a : Addr) : It :=
  ⟨fun i H => ∃ (xs : List V) (x : V), SqB K H k a xs ∧ xs[i]? = some x, fun i H v H' => ∃ T x, v = .ref T ∧ H T = none ∧ H' = upd H T (.tup [.int (i : Nat), x]) ∧ ∀ xs, SqB K H k a xs → xs[i]? = some x, fun i H => ∃ xs : List V, SqB K H k a xs ∧ xs.length = i⟩
theorem turn_enumB {P : Program} {w : World} {K : PySem.W.Frag} {k : Bool} {elts : List Expr} {kk : Nat} {tpos : Pos} (a e it : Addr) :
    Turn P w K (.Tuple elts kk tpos) (ItEB K k a) [e, it] e (fun i h => (∃ old, IsEnum h e it ((i : Nat) : Int) old) ∧ itB h k it a i ∧ e ≠ it ∧ a ≠ it ∧ e ≠ a) where
  mem := by simp
  obj := fun i h st b hb => by
    obtain ⟨⟨old, he⟩, hi, _⟩ := st
    have e' : b = e ∨ b = it := by simpa using hb
    rcases e' with z | z
    · rw [z]; exact ⟨_, he, fun v q => nomatch q⟩
    · rw [z]; exact itB_obj hi
  keep := fun i h h' st k => let ⟨⟨old, he⟩, hi, hne⟩ := st; ⟨⟨old, k e (by simp) _ he⟩, itB_at hi fun o q => k it (by simp) o q, hne⟩
  item := by
    intro X hP hw hK hc i pins s σ H E I hf st hg
    subst hP hw hK
    obtain ⟨⟨old, he⟩, hit, hne, hna, hea⟩ := st
    obtain ⟨xs, x, hq, hx⟩ := hg
    obtain ⟨its, rv, p, _⟩ := sqB_inv I hq
    obtain ⟨u, hu, ru⟩ := rv.get hx
    have hel : e < s.heap.objs.size := Heap.lt_size he
    have hil : it < s.heap.objs.size := by obtain ⟨_, q, _⟩ := itB_obj hit; exact Heap.lt_size q
    have hd : X.A.in1.handled = none := I.ok.hd hc
    have g1 : i < its.toArray.size := by
      have := (List.getElem?_eq_some_iff.mp hu).1
      simpa using this
    have hef : e ∉ [it, a] := by simp; exact ⟨hne, hea⟩
    refine wpAny_pyNext_enum_itemD (drawsB hd k it a hna its.toArray) he ⟨hit, p⟩ g1 hne hef fun x1 h' tk e1 ho hs' hT hsz hk => ?_
    have hx1 : x1 = u := by
      have q : its[i]? = some x1 := by simpa using e1
      rw [hu] at q
      exact (Option.some.inj q).symm
    subst hx1
    refine ⟨_, rfl, wpAny_letOwnedTupleGo_enum (s := { s with heap := h', toks := tk + 1 }) ho fun h'' he' sb => ?_⟩
    have hT2 : h''.get? s.heap.objs.size = some { cls := .type "tuple", data := .seq #[.int i tk, x1] } := (sb.2 _ (Nat.ne_of_gt hel)).trans hT
    have new : ObjOk X.prog X.w (upd H s.heap.objs.size (.tup [.int (i : Nat), x])) h'' s.heap.objs.size (.tup [.int (i : Nat), x]) :=
      ⟨by show 2 ≤ sizeLine; decide, [.int i tk, x1], .cons ⟨_, rfl⟩ (.cons ru .nil), ⟨_, hT2, rfl, _, rfl⟩⟩
    have I1 : Inv X pins σ (upd H s.heap.objs.size (.tup [.int (i : Nat), x])) { s with heap := h'', toks := tk + 1 } :=
      I.turnedNew (t' := tk + 1) (ch := [e, it]) (fun b ob hb q => (sb.2 b (fun z => hb (by simp [z]))).trans (hk b ob (fun z => hb (by simp [z])) (fun z => hb (by simp [z])) q)) hf (Nat.le_refl _) new
    refine ⟨.ref s.heap.objs.size, _, I1, rfl, ⟨_, x, rfl, I.hok.fresh (Nat.le_refl _), rfl, fun ys hy => by rw [sqB_inj I hy hq]; exact hx⟩, ⟨⟨x1, ?_⟩, itB_at hs'.1 fun o q => (sb.2 it (Ne.symm hne)).trans q, hne, hna, hea⟩, fun b hb => ?_⟩
    · have e1 : ((i + 1 : Nat) : Int) = (i : Int) + 1 := by omega
      rw [e1]; exact he'
    · have hb' : b < s.heap.objs.size := by
        have e' : b = e ∨ b = it := by simpa using hb
        rcases e' with z | z
        · rw [z]; exact hel
        · rw [z]; exact hil
      rw [upd_ne (Nat.ne_of_lt hb')]
      exact (hf b hb).1
  done := by
    intro X hP hw hK hc i pins s σ H E I hf st hg
    subst hP hw hK
    obtain ⟨⟨old, he⟩, hit, hne, hna, hea⟩ := st
    obtain ⟨xs, hq, hx⟩ := hg
    obtain ⟨its, rv, p, _⟩ := sqB_inv I hq
    obtain ⟨f0, f1, f2, f3, f4, f5⟩ := hf it (by simp)
    have hl := rv.length
    have hd : X.A.in1.handled = none := I.ok.hd hc
    have z1 : its.toArray.size = its.length := by simp
    have e1 : its.toArray.size = i := by omega
    refine wpAny_pyNext_enum_endD (drawsB hd k it a hna its.toArray) he (by rw [e1]; exact ⟨hit, p⟩) fun h' eb => ⟨rfl, I.turned (t' := s.toks) (fun b o hb q => eb b o hb q) f0 f1 f3 f4 f5⟩
  self := fun A i s Q E st h => let ⟨⟨_, he⟩, _⟩ := st; wpAny_pyIter_enum he h
def iEnumB (K : PySem.W.Frag) (ta : TA) : TI := fun σ H R => ta σ H fun vs H1 => ∃ a k xs, vs = [.ref a] ∧ SqB K H1 k a xs ∧ R (ItEB K k a) H1
theorem pi_enumB {X : Cx} {e : Expr} {ta : TA} {p pos tpos : Pos} {elts : List Expr} {kk : Nat} (hg : Gl X "enumerate") (hm : X.mg "enumerate" = none) (ha : PA X [e] ta) (hs : starEach [e] X.env = [(false, eval e X.env)] := by rfl) :
    PI X (.Tuple elts kk tpos) (.Call (.Name "enumerate" p) [e] [] pos) (iEnumB X.K ta) := by
  refine ⟨fun pins s σ H R I h => ?_⟩
  refine Call_ (ld_blt I hg hm boot_enumerate (PyProof.Rows.callWith_type1 (thn (ha.run pos pins s σ H _ I h) fun us s1 ⟨vs, H1, I1, r1, q1⟩ => ?_) hs rfl))
  obtain ⟨a, k, xs, ex, hq, q⟩ := q1
  subst ex
  cases r1 with
  | cons r rr =>
    cases rr
    cases r
    obtain ⟨its, rv, p', la⟩ := sqB_inv I1 hq
    refine call_enum1 (begins_B k a its.toArray) p' fun h' he hit hsz hk => wpAny_pyIter_enum he ?_
    have I2 : Inv X pins σ H1 { s1 with heap := h' } := I1.kept (t' := s1.toks) hk
    refine ⟨s1.heap.objs.size + 1, [s1.heap.objs.size + 1, s1.heap.objs.size], _, _, H1, rfl, I2, turn_enumB a (s1.heap.objs.size + 1) s1.heap.objs.size, ⟨⟨.none, he⟩, itB_new hit, Nat.succ_ne_self _, Nat.ne_of_lt la, fun z => Nat.lt_irrefl a (Nat.lt_of_lt_of_le la (Nat.le_trans (Nat.le_succ _) (Nat.le_of_eq z)))⟩, fun b hb => ?_, q⟩
    have e' : b = s1.heap.objs.size + 1 ∨ b = s1.heap.objs.size := by simpa using hb
    have hle : s1.heap.objs.size ≤ b := by
      rcases e' with z | z
      · rw [z]; exact Nat.le_add_right _ _
      · rw [z]; exact Nat.le_refl _
    exact I1.fpOk hle (I1.hok.fresh hle)
theorem walk_enumB {K : PySem.W.Frag} {k : Bool} {a : Addr} {xs : List V} : Walk (ItEB K k a) xs.length (fun H => SqB K H k a xs) (YPair (fun i => some (.int (i : Nat))) (fun i => xs[i]?)) := by
  refine ⟨fun i _ hi q => ⟨xs, xs[i], q, by simp [hi]⟩, fun _ q => ⟨xs, q, rfl⟩, fun i H v H' _ q y => ?_⟩
  obtain ⟨T, x, h1, h2, h3, h4⟩ := y
  exact ⟨T, .int (i : Nat), x, h1, h2, h3, rfl, h4 xs q⟩
end Rw
set_option Elab.async false
set_option linter.all false
set_option maxRecDepth 100000
set_option maxHeartbeats 4000000
namespace Rw
open PySem PySem.Spec PyProof.Rows L2
inductive IntTab : List DictEntry → List (Int × Value) → Prop
  | nil : IntTab [] []
  | cons {e : DictEntry} {es : List DictEntry} {i : Int} {t : Tok} {v : Value} {kvs : List (Int × Value)} : e.key = .int i t → e.hash = hashInt i → e.val = v → IntTab es kvs → IntTab (e :: es) ((i, v) :: kvs)
inductive TxtTab (P : Params) : List DictEntry → List (Str × Value) → Prop
  | nil : TxtTab P [] []
  | cons {e : DictEntry} {es : List DictEntry} {x : Str} {t : Tok} {v : Value} {kvs : List (Str × Value)} : e.key = .str x t → e.hash = PyData.keyHash P x → e.val = v → TxtTab P es kvs → TxtTab P (e :: es) ((x, v) :: kvs)
def lookI (kvs : List (Int × Value)) (i : Int) : Option Value := (kvs.find? fun q => q.1 == i).map (·.2)
def lookS (kvs : List (Str × Value)) (x : Str) : Option Value := (kvs.find? fun q => q.1 == x).map (·.2)
theorem IntTab.find {es : List DictEntry} {kvs : List (Int × Value)} (T : IntTab es kvs) (i : Int) : findBy Value.isInt es.toArray i = lookI kvs i := by
  unfold findBy lookI
  rw [List.find?_toArray]
  induction T with
  | nil => rfl
  | cons k h v r ih =>
    rename_i e es j t u kvs
    rw [List.find?_cons, List.find?_cons]
    have e1 : Value.isInt i e.key = (j == i) := by rw [k] <;> rfl
    rw [e1]
    cases j == i with
    | true => simp [v]
    | false => exact ih
theorem TxtTab.find {P : Params} {es : List DictEntry} {kvs : List (Str × Value)} (T : TxtTab P es kvs) (x : Str) : findBy Value.isStrOf es.toArray x = lookS kvs x := by
  unfold findBy lookS
  rw [List.find?_toArray]
  induction T with
  | nil => rfl
  | cons k h v r ih =>
    rename_i e es y t u kvs
    rw [List.find?_cons, List.find?_cons]
    have e1 : Value.isStrOf x e.key = (y == x) := by rw [k] <;> rfl
    rw [e1]
    cases y == x with
    | true => simp [v]
    | false => exact ih
theorem IntTab.keys {es : List DictEntry} {kvs : List (Int × Value)} (T : IntTab es kvs) : ∀ e ∈ es, ∃ i t, e.key = .int i t ∧ e.hash = hashInt i := by
  induction T with
  | nil => intro e h; cases h
  | cons k h v r ih =>
    intro e he
    rcases List.mem_cons.mp he with z | z
    · rw [z]; exact ⟨_, _, k, h⟩
    · exact ih e z
theorem TxtTab.keys {P : Params} {es : List DictEntry} {kvs : List (Str × Value)} (T : TxtTab P es kvs) : ∀ e ∈ es, ∃ x t, e.key = .str x t ∧ e.hash = PyData.keyHash P x := by
  induction T with
  | nil => intro e h; cases h
  | cons k h v r ih =>
    intro e he
    rcases List.mem_cons.mp he with z | z
    · rw [z]; exact ⟨_, _, k, h⟩
    · exact ih e z
/-- at d: a written dict with int keys -/
structure TabI (K : PySem.W.Frag) (d : Addr) (kvs : List (Int × Value)) : Prop where
  at_ : ∃ (l : List DictEntry) (n : Nat), K.lookup d = some ⟨.type "dict", none, .dict l.toArray n, #[]⟩ ∧ IntTab l kvs
  low : (d == sysModules) = false
structure TabS (K : PySem.W.Frag) (w : World) (d : Addr) (kvs : List (Str × Value)) : Prop where
  at_ : ∃ (l : List DictEntry) (n : Nat), K.lookup d = some ⟨.type "dict", none, .dict l.toArray n, #[]⟩ ∧ TxtTab w.params l kvs
  low : (d == sysModules) = false
section
variable {X : Cx} {d : Addr} {pins : List (Addr × Obj)} {σ : L2.St} {H : Hp} {s : Shared}
theorem tabI_map {kvs : List (Int × Value)} (T : TabI X.K d kvs) (I : Inv X pins σ H s) : s.heap.MapOf (PySem.intKind X.prog X.w) d (lookI kvs) := by
  obtain ⟨l, n, hl, t⟩ := T.at_
  refine ⟨_, l.toArray, n, I.kIn _ _ hl, ⟨rfl, rfl, rfl⟩, rfl, fun e he => ?_, fun k => t.find k⟩
  obtain ⟨i, tk, e1, e2⟩ := t.keys e (by simpa using he)
  exact ⟨i, by rw [e1]; exact PySem.intKind_is X.prog X.w i tk, e2⟩
theorem tabS_map {kvs : List (Str × Value)} (T : TabS X.K X.w d kvs) (I : Inv X pins σ H s) : s.heap.MapOf (PySem.strKind X.prog X.w) d (lookS kvs) := by
  obtain ⟨l, n, hl, t⟩ := T.at_
  refine ⟨_, l.toArray, n, I.kIn _ _ hl, ⟨rfl, rfl, rfl⟩, rfl, fun e he => ?_, fun k => t.find k⟩
  obtain ⟨i, tk, e1, e2⟩ := t.keys e (by simpa using he)
  exact ⟨i, by rw [e1]; exact PySem.strKind_is X.prog X.w i tk, e2⟩
theorem op_in_ti {kvs : List (Int × Value)} (T : TabI X.K d kvs) : OpR X (compareOp .In) (fun x y H Q => ∃ i, x = .int i ∧ y = .ref d ∧ Q (.bl (lookI kvs i).isSome) H) := by
  intro pins s σ H x y v u Q I rx ry h
  obtain ⟨i, rfl, rfl, q⟩ := h
  obtain ⟨t, rfl⟩ := rx
  cases ry
  exact wpAny_in_of (PySem.intKind_is X.prog X.w i t) T.low (tabI_map T I) ⟨.bl _, H, I.tok _, rfl, q⟩
theorem op_in_ts {kvs : List (Str × Value)} (T : TabS X.K X.w d kvs) : OpR X (compareOp .In) (fun x y H Q => ∃ z, x = .str z ∧ y = .ref d ∧ Q (.bl (lookS kvs z).isSome) H) := by
  intro pins s σ H x y v u Q I rx ry h
  obtain ⟨z, rfl, rfl, q⟩ := h
  obtain ⟨t, rfl⟩ := rx
  cases ry
  exact wpAny_in_of (PySem.strKind_is X.prog X.w z t) T.low (tabS_map T I) ⟨.bl _, H, I.tok _, rfl, q⟩
end
theorem prime_tab {us : List Value} {v1 v2 v3 v4 v5 v6 : Value} (i : Int) : (lookI [(2, v1), (3, v2), (5, v3), (7, v4), (11, v5), (13, v6)] i).isSome = decide (i ∈ primesL) := by
  unfold lookI primesL
  by_cases h : i ∈ ([2, 3, 5, 7, 11, 13] : List Int)
  · rw [decide_eq_true h]
    simp only [List.mem_cons, List.not_mem_nil, or_false] at h
    rcases h with e | e | e | e | e | e <;> subst e <;> rfl
  · rw [decide_eq_false h]
    simp only [List.mem_cons, List.not_mem_nil, or_false, not_or] at h
    obtain ⟨a, b, c, d, e, f⟩ := h
    have z : ∀ j : Int, ¬ i = j → (j == i) = false := fun j q => by simp; exact fun y => q y.symm
    simp [List.find?, z 2 a, z 3 b, z 5 c, z 7 d, z 11 e, z 13 f]
def isArr (c : Nat) : Bool := c == 62 || c == 60
theorem arr_tab {v1 v2 : Value} (c : Nat) : (lookS [(">", v1), ("<", v2)] ⟨#[c]⟩).isSome = isArr c := by
  unfold lookS isArr
  by_cases h1 : c = 62
  · subst h1; rfl
  · by_cases h2 : c = 60
    · subst h2; rfl
    · have z1 : ((">" : Str) == (⟨#[c]⟩ : Str)) = false := by
        refine beq_eq_false_iff_ne.mpr fun e => h1 ?_
        have := congrArg (fun x : Str => x.cps[0]?) e
        exact (Option.some.inj this).symm
      have z2 : (("<" : Str) == (⟨#[c]⟩ : Str)) = false := by
        refine beq_eq_false_iff_ne.mpr fun e => h2 ?_
        have := congrArg (fun x : Str => x.cps[0]?) e
        exact (Option.some.inj this).symm
      simp [List.find?, z1, z2, h1, h2]
end Rw
set_option Elab.async false
set_option linter.all false
set_option maxRecDepth 100000
set_option maxHeartbeats 4000000
namespace Rw
open PySem PySem.Spec PyProof.Rows L2
/-- any int of the script, or a number of the law's own -/
def spCellR (K : PySem.W.Frag) : Sp := fun vs H Q _ => ∃ (a : Addr) (ns : List Int) (j : Nat), vs = [.ref a, .int (j : Int)] ∧ SqL K H a (ns.map V.int) ∧ j < 1000 ∧ ∀ z : Int, Q (.int z) H
/-- at p a box that was drawn from at most n times -/
def Bx (H : Hp) (p : Addr) (n : Nat) : Prop := ∃ a b c : Int, H p = some (.lst [.int a, .int b, .int c]) ∧ 0 ≤ a ∧ 0 ≤ b ∧ b < 2147483629 ∧ 0 ≤ c ∧ c ≤ (n : Int)
theorem Bx.more {H : Hp} {p : Addr} {n m : Nat} (h : Bx H p n) (l : n ≤ m) : Bx H p m := by
  obtain ⟨a, b, c, h1, h2, h3, h4, h5, h6⟩ := h
  exact ⟨a, b, c, h1, h2, h3, h4, h5, by omega⟩
theorem Bx.keep {H H' : Hp} {p : Addr} {n : Nat} (h : Bx H p n) (k : Same H H') : Bx H' p n := by
  obtain ⟨a, b, c, h1, r⟩ := h
  exact ⟨a, b, c, k _ _ h1, r⟩
theorem Bx.ne {H : Hp} {p q : Addr} {n : Nat} (h : Bx H p n) (hq : H q = none) : p ≠ q := by
  obtain ⟨a, b, c, h1, _⟩ := h
  exact ne_of_none h1 hq
def spBoxR : Sp := fun vs H Q _ => ∃ z : Int, vs = [.int z] ∧ ∀ p H', H p = none → Same H H' → Bx H' p 0 → Q (.ref p) H'
def spTakeR : Sp := fun vs H Q _ => ∃ (p : Addr) (m : Int) (n : Nat), vs = [.ref p, .int m] ∧ 0 < m ∧ m < 2 ^ 200 ∧ Bx H p n ∧ n ≤ 1000000 ∧ ∀ r H', 0 ≤ r → r < m → Grow p H H' → Bx H' p (n + 1) → Q (.int r) H'
theorem fdiv_nonneg' {a m : Int} (h : 0 ≤ a) (hm : 0 < m) : 0 ≤ a / m := Int.ediv_nonneg h (by omega)
theorem AnyL.get {H : Hp} : ∀ {vs : List V} {ds : List PyData}, AnyL H vs ds → ∀ i, i < ds.length → ∃ v d, vs[i]? = some v ∧ d ∈ ds ∧ Any H v d
  | _, _, .nil, i, h => absurd h (Nat.not_lt_zero i)
  | _, _, .cons a _, 0, _ => ⟨_, _, rfl, List.mem_cons_self, a⟩
  | _, _, .cons _ b, i + 1, h => by
    obtain ⟨v, d, h1, h2, h3⟩ := AnyL.get b i (Nat.lt_of_succ_lt_succ h)
    exact ⟨v, d, h1, List.mem_cons_of_mem _ h2, h3⟩
/-- what is new in H' -/
def nw (H H' : Hp) : Hp := fun a => if H a = none then H' a else none
theorem nw_grow {H H1 H2 : Hp} {p : Addr} {o : HO} (hp : H p = some o) (k : Grow p H1 H2) : Same (nw H H1) (nw H H2) := fun b u e => by
  have e' : (if H b = none then H1 b else none) = some u := e
  show (if H b = none then H2 b else none) = some u
  by_cases z : H b = none
  · rw [if_pos z] at e' ⊢
    exact k _ _ (fun y => by rw [y, hp] at z; cases z) e'
  · rw [if_neg z] at e'
    cases e'
end Rw
set_option Elab.async false
set_option linter.all false
set_option maxRecDepth 100000
set_option maxHeartbeats 4000000
namespace Rw
open PySem PySem.Spec PyProof.Rows L2
def intN : PyData → Int
  | .int n => n | _ => 0
def isPatD : PyData → Bool
  | .str x => decide (x.length ≤ 6) && x.cps.toList.all isArr
  | _ => false
def aboveD (n : Int) : PyData → Bool
  | .int l => decide (l ≤ n)
  | _ => true
def belowD (n : Int) : PyData → Bool
  | .int l => decide (n ≤ l)
  | _ => true
def inB : PyData → PyData → PyData → Bool
  | .int n, l, h => aboveD n l && belowD n h
  | _, _, _ => false
def isSzD (d : PyData) : Bool := inB d (.int 0) (.int 6)
def sizesOk (k : Nat) (d : PyData) : Bool := isSeqD d && (decide ((itemsD d).length = k + 1) && (itemsD d).all isSzD)
def mapsOk (k : Nat) (d : PyData) : Bool := isSeqD d && decide ((itemsD d).length = k)
def atD (d : PyData) (i : Nat) : PyData := (itemsD d)[i]?.getD .none
def isR (x : Str) (i : Nat) : Bool := x.cps.toList[i]? == some 62
def stA (x : Str) (i : Nat) : Nat := if isR x i then i else i + 1
def goA (x : Str) (i : Nat) : Nat := if isR x i then i + 1 else i
def szL (d : PyData) (i : Nat) : Int := intN (atD d i)
def matOk (x : Str) (ds dm : PyData) (i : Nat) : Bool := isMatD (szL ds (stA x i)) (szL ds (goA x i)) (atD dm i)
def badAt (x : Str) (ds dm : PyData) : Option Nat := (List.range x.length).find? fun i => !matOk x ds dm i
/-- the items modulo p -/
def modD (p : Int) : PyData → PyData
  | .int n => .int (n.fmod p) | d => d
def rowsM (p : Int) (m : PyData) : List PyData := (itemsD m).map fun r => .tuple ((itemsD r).map (modD p))
structure FitM (d : PyData) : Prop where
  len : (itemsD d).length ≤ 1000
  sub : ∀ e, e ∈ itemsD d → Fit e
/-- a row: an instance of the class at C -/
def RowAt (C : Addr) (H : Hp) (a : Addr) (x : Str) (p : Int) (ss : List PyData) (mm : List (List PyData)) : Prop :=
  ∃ dx ts tm, H a = some (.ins C dx [("_pattern", .str x), ("_prime", .int p), ("_sizes", .ref ts), ("_maps", .ref tm)]) ∧ Any H (.ref ts) (.tuple ss) ∧ Any H (.ref tm) (.tuple (mm.map .tuple))
theorem RowAt.keep {C a : Addr} {H H' : Hp} {x : Str} {p : Int} {ss : List PyData} {mm : List (List PyData)} (r : RowAt C H a x p ss mm) (k : Same H H') : RowAt C H' a x p ss mm := by
  obtain ⟨dx, ts, tm, h1, h2, h3⟩ := r
  exact ⟨dx, ts, tm, k _ _ h1, h2.keep k, h3.keep k⟩
def spNum : Sp := fun vs H Q _ => ∃ v d, vs = [v] ∧ Any H v d ∧ Q (.bl (isIntD d)) H
def spInt : Sp := fun vs H Q _ => ∃ v l h d dl dh, vs = [v, l, h] ∧ Any H v d ∧ Any H l dl ∧ Any H h dh ∧ Q (.bl (inB d dl dh)) H
def spPrime : Sp := fun vs H Q _ => ∃ v d, vs = [v] ∧ Any H v d ∧ Q (.bl (isPr d)) H
def spCheck (CP : Addr) : Sp := fun vs H Q E => ∃ v d, vs = [v] ∧ Any H v d ∧ (isPr d = true → Q .non H) ∧ (isPr d = false → Thrown CP v H E)
def spList : Sp := fun vs H Q _ => ∃ v d, vs = [v] ∧ Any H v d ∧ ∀ H', Same H H' → Q (.bl (isSeqD d)) H'
def spVec : Sp := fun vs H Q _ => ∃ v d n, vs = [v, .int n] ∧ Any H v d ∧ (itemsD d).length ≤ 1000 ∧ ∀ H', Same H H' → Q (.bl (isVecD n d)) H'
def spMat : Sp := fun vs H Q _ => ∃ v d h w, vs = [v, .int h, .int w] ∧ Any H v d ∧ Fit d ∧ ∀ H', Same H H' → Q (.bl (isMatD h w d)) H'
theorem seq_flag {v : V} {H : Hp} {d : PyData} (h : Any H v d) : (isSeqD d = true ∧ ∃ (k : Bool) (a : Addr) (xs : List V), v = .ref a ∧ (∀ {H' : Hp}, Same H H' → ∀ K, SqB K H' k a xs) ∧ AnyL H xs (itemsD d)) ∨ isSeqD d = false := by
  cases e : isSeqD d with
  | true => exact .inl ⟨rfl, seq_of h e⟩
  | false => exact .inr rfl
theorem Thrown.mono {C : Addr} {v : V} {H H1 : Hp} {E : XK} (h : Thrown C v H E) (k : Same H H1) : Thrown C v H1 E := fun d H' s hd hx => h d H' (k.trans s) (k.free hd) hx
/-- texts that are asked are no longer than a line -/
def Short (d : PyData) : Prop := ∀ x, d = .str x → x.length ≤ 1000
def spPat : Sp := fun vs H Q _ => ∃ v d, vs = [v] ∧ Any H v d ∧ Short d ∧ ∀ H', Same H H' → Q (.bl (isPatD d)) H'
def spCPat (CT : Addr) : Sp := fun vs H Q E => ∃ v d, vs = [v] ∧ Any H v d ∧ Short d ∧ (isPatD d = true → ∀ H', Same H H' → Q .non H') ∧ (isPatD d = false → Thrown CT v H E)
def spCSz (CZ : Addr) : Sp := fun vs H Q E => ∃ x v d, vs = [.str x, v] ∧ x.length ≤ 6 ∧ Any H v d ∧ (itemsD d).length ≤ 1000 ∧ (sizesOk x.length d = true → ∀ H', Same H H' → Q .non H') ∧ (sizesOk x.length d = false → Thrown CZ v H E)
def spWay : Sp := fun vs H Q _ => ∃ (x : Str) (i : Nat), vs = [.str x, .int (i : Int)] ∧ i < x.length ∧ x.length ≤ 6 ∧ ∀ t H', H t = none → Same H H' → H' t = some (.tup [.int (stA x i : Nat), .int (goA x i : Nat)]) → Q (.ref t) H'
def spCMaps (CA CM : Addr) : Sp := fun vs H Q E => ∃ x va vm ds dm, vs = [.str x, va, vm] ∧ x.length ≤ 6 ∧ Any H va ds ∧ sizesOk x.length ds = true ∧ Any H vm dm ∧ FitM dm ∧
  (mapsOk x.length dm = false → Thrown CA vm H E) ∧ (mapsOk x.length dm = true → (∀ i v H1, badAt x ds dm = some i → Same H H1 → Any H1 v (atD dm i) → Thrown CM v H1 E) ∧ (badAt x ds dm = none → ∀ H', Same H H' → Q .non H'))
/-- what Row(pattern, prime, sizes, maps) asks and tells -/
structure RowIn (H : Hp) (vp vq va vm : V) (dp dq ds dm : PyData) : Prop where
  ap : Any H vp dp
  aq : Any H vq dq
  as : Any H va ds
  am : Any H vm dm
  sp : Short dp
  ls : (itemsD ds).length ≤ 1000
  fm : FitM dm
structure RowErr (CT CP CZ CA CM : Addr) (H : Hp) (E : XK) (vp vq va vm : V) (dp dq ds dm : PyData) : Prop where
  pat : isPatD dp = false → Thrown CT vp H E
  pri : isPatD dp = true → isPr dq = false → Thrown CP vq H E
  siz : ∀ x, dp = .str x → isPatD dp = true → isPr dq = true → sizesOk x.length ds = false → Thrown CZ va H E
  map : ∀ x, dp = .str x → isPatD dp = true → isPr dq = true → sizesOk x.length ds = true → mapsOk x.length dm = false → Thrown CA vm H E
  mat : ∀ x i v H1, dp = .str x → isPatD dp = true → isPr dq = true → sizesOk x.length ds = true → mapsOk x.length dm = true → badAt x ds dm = some i → Same H H1 → Any H1 v (atD dm i) → Thrown CM v H1 E
def rowGood (x : Str) (p : Int) (ds dm : PyData) : Bool := isPatD (.str x) && (isPr (.int p) && (sizesOk x.length ds && (mapsOk x.length dm && (badAt x ds dm).isNone)))
def spIniR (C CT CP CZ CA CM : Addr) : Sp := fun vs H Q E => ∃ a dx vp vq va vm dp dq ds dm, vs = [.ref a, vp, vq, va, vm] ∧ H a = some (.ins C dx []) ∧ RowIn H vp vq va vm dp dq ds dm ∧ RowErr CT CP CZ CA CM H E vp vq va vm dp dq ds dm ∧
  ∀ x p H', dp = .str x → dq = .int p → rowGood x p ds dm = true → Grow a H H' → RowAt C H' a x p (itemsD ds) ((itemsD dm).map (rowsM p)) → Q .non H'
/-- the same of the call Row(..) -/
def tRowMk (C CT CP CZ CA CM : Addr) (H : Hp) (vs : List V) (Q : VK) (E : XK) : Prop := ∃ vp vq va vm dp dq ds dm, vs = [vp, vq, va, vm] ∧ RowIn H vp vq va vm dp dq ds dm ∧ RowErr CT CP CZ CA CM H E vp vq va vm dp dq ds dm ∧
  ∀ x p a H', dp = .str x → dq = .int p → rowGood x p ds dm = true → H a = none → Same H H' → RowAt C H' a x p (itemsD ds) ((itemsD dm).map (rowsM p)) → Q (.ref a) H'
theorem row_make {C CT CP CZ CA CM : Addr} {H : Hp} {vs : List V} {Q : VK} {E : XK} (h : tRowMk C CT CP CZ CA CM H vs Q E) : ∀ x dx, H x = none → H dx = none → dx ≠ x →
    spIniR C CT CP CZ CA CM (.ref x :: (vs ++ [])) (upd (upd H dx (.own x)) x (.ins C dx [])) (fun v H2 => v = .non ∧ Q (.ref x) H2) E := by
  obtain ⟨vp, vq, va, vm, dp, dq, ds, dm, rfl, i, e, q⟩ := h
  intro x dx hx hd ne
  have k1 : Same H (upd H dx (.own x)) := same_new hd
  have h2 : (upd H dx (.own x)) x = none := by rw [upd_ne ne.symm]; exact hx
  have k : Same H (upd (upd H dx (.own x)) x (.ins C dx [])) := k1.trans (same_new h2)
  refine ⟨x, dx, vp, vq, va, vm, dp, dq, ds, dm, rfl, upd_same, ⟨i.ap.keep k, i.aq.keep k, i.as.keep k, i.am.keep k, i.sp, i.ls, i.fm⟩, ⟨fun z => (e.pat z).mono k, fun z y => (e.pri z y).mono k, fun a b c d f => (e.siz a b c d f).mono k, fun a b c d f g => (e.map a b c d f g).mono k, fun y j v H1 h1 h2 h3 h4 h5 h6 h7 h8 => e.mat y j v H1 h1 h2 h3 h4 h5 h6 (k.trans h7) h8⟩, ?_⟩
  · intro y p H' e1 e2 g gr ra
    refine ⟨rfl, q y p x H' e1 e2 g hx (fun b o eb => ?_) ra⟩
    have nb : b ≠ x := ne_of_none eb hx
    exact gr b o nb (k _ _ eb)
end Rw
set_option Elab.async false
set_option linter.all false
set_option maxRecDepth 100000
set_option maxHeartbeats 4000000
namespace K41
open PySem PySem.Spec PyProof.Rows L2 Rw
def top (i : Nat) : Stmt := PySem.Challenge.pw_maprows_k41_whole_tables_or_a_bar_that_c.main.body.getD i (.Pass ⟨0, 0, 0, 0⟩)
abbrev sNum : Stmt := top 16
abbrev sInt : Stmt := top 17
abbrev sPrime : Stmt := top 18
abbrev sCheck : Stmt := top 19
abbrev sList : Stmt := top 20
abbrev sVec : Stmt := top 21
abbrev sMat : Stmt := top 22
abbrev sPat : Stmt := top 26
abbrev sCPat : Stmt := top 27
abbrev sCSz : Stmt := top 30
abbrev sWay : Stmt := top 35
theorem scNum : FnScope ["value"] ["value"] (defScope sNum) := ⟨rfl, rfl, rfl, by decide +kernel, rfl, by decide +kernel, by decide +kernel⟩
theorem scInt : FnScope ["value", "low", "high"] ["value", "low", "high"] (defScope sInt) := ⟨rfl, rfl, rfl, by decide +kernel, rfl, by decide +kernel, by decide +kernel⟩
theorem scPrime : FnScope ["value"] ["value"] (defScope sPrime) := ⟨rfl, rfl, rfl, by decide +kernel, rfl, by decide +kernel, by decide +kernel⟩
theorem scCheck : FnScope ["prime"] ["prime"] (defScope sCheck) := ⟨rfl, rfl, rfl, by decide +kernel, rfl, by decide +kernel, by decide +kernel⟩
theorem scList : FnScope ["value"] ["value"] (defScope sList) := ⟨rfl, rfl, rfl, by decide +kernel, rfl, by decide +kernel, by decide +kernel⟩
theorem scVec : FnScope ["value", "length", "item"] ["value", "length"] (defScope sVec) := ⟨rfl, rfl, rfl, by decide +kernel, rfl, by decide +kernel, by decide +kernel⟩
theorem scMat : FnScope ["value", "height", "width", "row"] ["value", "height", "width"] (defScope sMat) := ⟨rfl, rfl, rfl, by decide +kernel, rfl, by decide +kernel, by decide +kernel⟩
theorem scPat : FnScope ["value", "arrow"] ["value"] (defScope sPat) := ⟨rfl, rfl, rfl, by decide +kernel, rfl, by decide +kernel, by decide +kernel⟩
theorem scCPat : FnScope ["pattern"] ["pattern"] (defScope sCPat) := ⟨rfl, rfl, rfl, by decide +kernel, rfl, by decide +kernel, by decide +kernel⟩
theorem scCSz : FnScope ["pattern", "sizes", "size"] ["pattern", "sizes"] (defScope sCSz) := ⟨rfl, rfl, rfl, by decide +kernel, rfl, by decide +kernel, by decide +kernel⟩
theorem scWay : FnScope ["pattern", "index"] ["pattern", "index"] (defScope sWay) := ⟨rfl, rfl, rfl, by decide +kernel, rfl, by decide +kernel, by decide +kernel⟩
/-- what the top has left for the program's defs -/
structure Txt (K : PySem.W.Frag) (w : World) (mg : Str → Option Value) (aI aT CP CT CZ CA CM CL : Addr) (kI : List (Int × Value)) (kT : List (Str × Value)) : Prop where
  isi : mg "isinstance" = none
  int : mg "int" = none
  bool : mg "bool" = none
  str : mg "str" = none
  list : mg "list" = none
  tuple : mg "tuple" = none
  len : mg "len" = none
  all : mg "all" = none
  range : mg "range" = none
  enum : mg "enumerate" = none
  gI : mg "INVERSES" = some (.ref aI)
  tI : TabI K aI kI
  hI : ∀ i, (lookI kI i).isSome = decide (i ∈ primesL)
  gT : mg "TURNED" = some (.ref aT)
  tT : TabS K w aT kT
  hT : ∀ c, (lookS kT ⟨#[c]⟩).isSome = isArr c
  gM : ∃ t, mg "MOST" = some (.int 6 t)
  eP : Err K mg "InvalidPrime" CP
  eT : Err K mg "InvalidPattern" CT
  eZ : Err K mg "InvalidSizes" CZ
  eA : Err K mg "InvalidMaps" CA
  eM : Err K mg "InvalidMatrix" CM
  eL : Err K mg "InvalidPlace" CL
section
variable {P : Program} {w : World} {K : PySem.W.Frag} {mg : Str → Option Value} {base : Heap} {aI aT CP CT CZ CA CM CL : Addr} {kI : List (Int × Value)} {kT : List (Str × Value)}
theorem okNum {f : Addr} {fd : FuncData} (F : Fun K "is_number" "is_number" sNum f fd) (T : Txt K w mg aI aT CP CT CZ CA CM CL kI kT) : FnOk P w K mg base CX0 1 f fd ["value"] spNum := by
  refine F.ok scNum (fun vs H Q E h => ?_) (fun cdv A outer s H vs Q E hr h => ?_)
  · obtain ⟨v, d, rfl, _⟩ := h
    rfl
  · obtain ⟨v, d, rfl, an, q⟩ := h
    refine ⟨_, (pss_one (ps_ret (pe_and (pe_callB call_isi (by rfl) T.isi (by decide +kernel) (pa_cons (pv 0) (pa_cons (pe_bltn (v := .ty "int") rfl T.int boot_int rfl) pa_nil))) (pe_one (pe_not (pe_callB call_isi (by rfl) T.isi (by decide +kernel) (pa_cons (pv 0) (pa_cons (pe_bltn (v := .ty "bool") rfl T.bool (by decide +kernel) rfl) pa_nil)))))))), ?_⟩
    refine ⟨v, rfl, v, .ty "int", _, _, _, rfl, .ty _, any_ty an, kit_int d, _, rfl, ?_⟩
    cases an with
    | bl b => exact iteT ⟨_, rfl, _, .ty "bool", _, _, _, rfl, .ty _, any_ty (.bl b), kit_bool (.bool b), _, rfl, q⟩
    | int i => exact iteT ⟨_, rfl, _, .ty "bool", _, _, _, rfl, .ty _, any_ty (.int i), kit_bool (.int i), _, rfl, q⟩
    | _ => exact iteF q
theorem okInt {f : Addr} {fd : FuncData} (F : FunD K "is_integer" "is_integer" (defArgs sInt) (defBody sInt) (defScope sInt) [.non, .non] [] f fd) (GN : Own P w K mg base CX0 1 "is_number" ["value"] [] spNum) :
    FnOk P w K mg base CX0 2 f fd ["value", "low", "high"] spInt := by
  refine F.ok scInt (fun vs H Q E h => ?_) (fun cdv A outer s H vs Q E hr h => ?_)
  · obtain ⟨v, l, h, d, dl, dh, rfl, _⟩ := h
    rfl
  · obtain ⟨v, l, h, d, dl, dh, rfl, an, al, ah, q⟩ := h
    refine ⟨_, (pss_cons (ps_if (pt_not (pt_val (pe_own GN hr pass0 (pa_cons (pv 0) pa_nil)))) (pss_one (ps_ret pe_bl)) pss_nil)
      (pss_cons (ps_if (PW.pt (pw_and (pt_val (pe_own GN hr pass0 (pa_cons (pv 1) pa_nil))) (pw_and1 (pt_cmpR op_lt (pv 0) (pv 1) (nomark _))))) (pss_one (ps_ret pe_bl)) pss_nil)
      (pss_one (ps_ret (pe_not (pe_and (pe_own GN hr pass0 (pa_cons (pv 2) pa_nil)) (pe_one (pe_cmpR op_gt (pv 0) (pv 2) (nomark _))))))))), ?_⟩
    refine ⟨_, rfl, _, d, rfl, an, _, rfl, ?_⟩
    cases ed : isIntD d with
    | false =>
      refine iteT ?_
      have e : inB d dl dh = false := by cases d <;> first | rfl | cases ed
      rw [e] at q
      exact q
    | true =>
      obtain ⟨n, rfl, rfl⟩ := int_of an ed
      refine iteF ⟨_, rfl, _, dl, rfl, al, _, rfl, ?_⟩
      have last : aboveD n dl = true → tRet (tNotV (tAndV (tCall spNum [] E0 (tCons (tVar 2) tNil)) (tOp (rI0 fun i j => .bl (decide (j < i))) (tVar 0) (tVar 2)))) { nx := fun _ H' => Q .non H', rt := Q } (start ["value", "low", "high"] [.int n, l, h]) H := by
        intro ea
        refine ⟨_, rfl, _, dh, rfl, ah, _, rfl, ?_⟩
        cases eh : isIntD dh with
        | false =>
          refine iteF ⟨_, rfl, ?_⟩
          have e : inB (.int n) dl dh = true := by
            show (aboveD n dl && belowD n dh) = true
            rw [ea]
            cases dh <;> first | rfl | cases eh
          rw [e] at q
          exact q
        | true =>
          obtain ⟨m, rfl, rfl⟩ := int_of ah eh
          refine iteT ⟨_, rfl, _, rfl, _, _, rfl, rfl, _, rfl, ?_⟩
          have e : inB (.int n) dl (.int m) = !decide (m < n) := by
            show (aboveD n dl && decide (n ≤ m)) = _
            rw [ea]
            by_cases z : m < n
            · rw [decide_eq_true z, decide_eq_false (by omega)] <;> rfl
            · rw [decide_eq_false z, decide_eq_true (by omega)] <;> rfl
          rw [e] at q
          exact q
      cases el : isIntD dl with
      | false =>
        refine iteF (iteF (last ?_))
        cases dl <;> first | rfl | cases el
      | true =>
        obtain ⟨m, rfl, rfl⟩ := int_of al el
        refine iteT ⟨_, rfl, _, rfl, _, _, rfl, rfl, _, rfl, ?_⟩
        refine ite2 (fun z => ?_) (fun z => last ?_)
        · have e : inB (.int n) (.int m) dh = false := by
            show (decide (m ≤ n) && belowD n dh) = false
            have z2 := of_decide_eq_true z
            rw [decide_eq_false (by omega)] <;> rfl
          rw [e] at q
          exact q
        · have z2 : ¬ n < m := fun y => z (decide_eq_true y)
          exact decide_eq_true (by omega)
theorem okPrime {f : Addr} {fd : FuncData} (F : Fun K "is_prime" "is_prime" sPrime f fd) (T : Txt K w mg aI aT CP CT CZ CA CM CL kI kT) (GN : Own P w K mg base CX0 1 "is_number" ["value"] [] spNum) : FnOk P w K mg base CX0 2 f fd ["value"] spPrime := by
  refine F.ok scPrime (fun vs H Q E h => ?_) (fun cdv A outer s H vs Q E hr h => ?_)
  · obtain ⟨v, d, rfl, _⟩ := h
    rfl
  · obtain ⟨v, d, rfl, an, q⟩ := h
    refine ⟨_, (pss_one (ps_ret (pe_and (pe_own GN hr pass0 (pa_cons (pv 0) pa_nil)) (pe_one (pe_cmpR (op_in_ti T.tI) (pv 0) (pe_glob (v := .ref aI) rfl T.gI rfl) (by rfl)))))), ?_⟩
    refine ⟨_, rfl, _, d, rfl, an, _, rfl, ?_⟩
    cases ed : isIntD d with
    | false =>
      refine iteF ?_
      have e : isPr d = false := by cases d <;> first | rfl | cases ed
      rw [e] at q
      exact q
    | true =>
      obtain ⟨n, rfl, rfl⟩ := int_of an ed
      refine iteT ⟨_, rfl, n, rfl, rfl, ?_⟩
      rw [T.hI]
      exact q
theorem okCheck {f : Addr} {fd : FuncData} (F : Fun K "check_prime" "check_prime" sCheck f fd) (T : Txt K w mg aI aT CP CT CZ CA CM CL kI kT) (GP : Own P w K mg base CX0 2 "is_prime" ["value"] [] spPrime) : FnOk P w K mg base (L2.CX P w) 4 f fd ["prime"] (spCheck CP) := by
  refine F.okX scCheck (fun vs H Q E h => ?_) (fun cdv A outer s H vs Q E hr h => ?_)
  · obtain ⟨v, d, rfl, _⟩ := h
    rfl
  · obtain ⟨v, d, rfl, an, qt, qf⟩ := h
    refine ⟨_, (pss_one (ps_if (pt_not (pt_val (pe_own GP (hr.mono (by decide)) pass0 (pa_cons (pv 0) pa_nil)))) (pss_one (ps_throw T.eP rfl (hr.mono (by decide)) (takes_of rfl rfl rfl rfl) (pv 0))) pss_nil)), ?_⟩
    refine ⟨_, rfl, _, d, rfl, an, _, rfl, ?_⟩
    cases e : isPr d with
    | true => exact iteF (qt e)
    | false => exact iteT ⟨_, rfl, thrown_go (qf e)⟩
theorem okList {f : Addr} {fd : FuncData} (F : Fun K "is_list" "is_list" sList f fd) (T : Txt K w mg aI aT CP CT CZ CA CM CL kI kT) : FnOk P w K mg base CX0 1 f fd ["value"] spList := by
  refine F.ok scList (fun vs H Q E h => ?_) (fun cdv A outer s H vs Q E hr h => ?_)
  · obtain ⟨v, d, rfl, _⟩ := h
    rfl
  · obtain ⟨v, d, rfl, an, q⟩ := h
    refine ⟨_, (pss_one (ps_ret (pe_callB call_isiT (by rfl) T.isi (by decide +kernel) (pa_cons (pv 0) (pa_cons (pe_tup (pa_cons (pe_bltn (v := .ty "list") rfl T.list (by decide +kernel) rfl) (pa_cons (pe_bltn (v := .ty "tuple") rfl T.tuple (by decide +kernel) rfl) pa_nil))) pa_nil))))), ?_⟩
    refine ⟨v, rfl, (by show 2 ≤ sizeLine; decide), fun tp htp => ?_⟩
    exact ⟨v, tp, _, _, _, _, rfl, upd_same, .cons (.ty _) (.cons (.ty _) .nil), any_ty (an.keep (same_new htp)), kit_seq d, q _ (same_new htp)⟩
abbrev tIsi (K : PySem.W.Frag) : TE := tAndV (tCB (rIsi K) (tCons (tVar 2) (tCons (tC (V.ty "int")) tNil))) (tNotV (tCB (rIsi K) (tCons (tVar 2) (tCons (tC (V.ty "bool")) tNil))))
theorem okVec {f : Addr} {fd : FuncData} (F : Fun K "is_vector" "is_vector" sVec f fd) (T : Txt K w mg aI aT CP CT CZ CA CM CL kI kT) (GL : Own P w K mg base CX0 1 "is_list" ["value"] [] spList) : FnOk P w K mg base CX0 2 f fd ["value", "length"] spVec := by
  refine F.ok scVec (fun vs H Q E h => ?_) (fun cdv A outer s H vs Q E hr h => ?_)
  · obtain ⟨v, d, n, rfl, _⟩ := h
    rfl
  · obtain ⟨v, d, n, rfl, an, sz, q⟩ := h
    refine ⟨_, (pss_one (ps_ret (pe_and (pe_own GL hr pass0 (pa_cons (pv 0) pa_nil)) (pe_and (pe_cmpR op_eq (pe_callB call_len_seq (by rfl) T.len (by decide +kernel) (pa_cons (pv 0) pa_nil)) (pv 1) (nomark _)) (pe_one (pe_callB (cr_all rfl) (by rfl) T.all (by decide +kernel) (pa_cons (pe_lc (own := [("item", 2)]) (g := gName 2) (tt := tYes) (te := tIsi K) rfl scVec.nd (pi_seq (pv 0)) (blkOk_by (N := ["value", "length", "item"]) (sc := defScope sVec) (by decide +kernel)) (fun _ _ _ _ _ => (pg_name (i := 2) scVec.nd rfl (Or.inl rfl))) (fun _ _ _ _ _ => pts_nil)
      (fun _ _ _ _ _ => (pe_and (pe_callB call_isi (by rfl) T.isi (by decide +kernel) (pa_cons (pv 2) (pa_cons (pe_bltn (v := .ty "int") rfl T.int boot_int rfl) pa_nil))) (pe_one (pe_not (pe_callB call_isi (by rfl) T.isi (by decide +kernel) (pa_cons (pv 2) (pa_cons (pe_bltn (v := .ty "bool") rfl T.bool (by decide +kernel) rfl) pa_nil)))))))) pa_nil))))))), ?_⟩
    refine ⟨v, rfl, v, d, rfl, an, fun H1 k1 => ⟨_, rfl, ?_⟩⟩
    rcases seq_flag an with ⟨e, k, a, xs, rfl, hs, al⟩ | e
    · rw [e]
      have ln := anyL_len al
      refine iteT ⟨_, rfl, a, xs, rfl, (hs k1 K).or, _, rfl, rfl, _, rfl, ?_⟩
      have hv : isVecD n d = (decide (((itemsD d).length : Int) = n) && (itemsD d).all isIntD) := by
        unfold isVecD
        rw [e] <;> rfl
      rw [hv] at q
      refine ite2 (fun z => ?_) (fun z => ?_)
      · have z1 : V.int (xs.length : Int) = V.int n := of_decide_eq_true z
        have z2 : (((itemsD d).length : Nat) : Int) = n := by
          injection z1 with z3
          rw [← ln]
          exact z3
        rw [decide_eq_true z2] at q
        refine ⟨.ref a, rfl, a, k, xs, rfl, hs k1 K, fun D hD => ?_⟩
        refine lc_same walk_seq (by omega) hD (fun H' s' => hs (k1.trans s') K) (fun i => .bool (isIntD ((itemsD d)[i]?.getD .none))) ?_ ?_
        · refine fun i x H' hi hx s1 hd => ⟨rfl, fun k' hk => ?_⟩
          obtain ⟨dx, hdx, anx⟩ := anyL_at al hx
          have ax := anx.keep (k1.trans s1)
          have fin : ∀ b, b = isIntD dx → k' (.bl b) H' := fun b eb => by
            refine hk _ _ (fun _ _ z => z) ?_
            rw [hdx, eb]
            exact .bl _
          refine ⟨x, rfl, x, .ty "int", _, _, _, rfl, .ty _, any_ty ax, kit_int dx, _, rfl, ?_⟩
          cases ax with
          | bl b => exact iteT ⟨_, rfl, _, .ty "bool", _, _, _, rfl, .ty _, any_ty (.bl b), kit_bool (.bool b), _, rfl, fin _ rfl⟩
          | int i => exact iteT ⟨_, rfl, _, .ty "bool", _, _, _, rfl, .ty _, any_ty (.int i), kit_bool (.int i), _, rfl, fin _ rfl⟩
          | _ => exact iteF (fin _ rfl)
        · refine fun H' acc s1 ha hal => ?_
          rw [ln, map_get (fun d => PyData.bool (isIntD d)) .none] at hal
          have e2 := anyL_flags hal
          refine ⟨D, _, rfl, .inl (.inl (by rw [← e2]; exact ha)), ?_⟩
          have e3 : ((itemsD d).map isIntD).all id = (itemsD d).all isIntD := by simp
          rw [e3]
          exact q _ (k1.trans s1)
      · have z2 : ¬ (((itemsD d).length : Nat) : Int) = n := fun y => z (decide_eq_true (by rw [ln, y]))
        rw [decide_eq_false z2] at q
        exact q _ k1
    · rw [e]
      have hv : isVecD n d = false := by
        unfold isVecD
        rw [e] <;> rfl
      rw [hv] at q
      exact iteF (q _ k1)
theorem okMat {f : Addr} {fd : FuncData} (F : Fun K "is_matrix" "is_matrix" sMat f fd) (T : Txt K w mg aI aT CP CT CZ CA CM CL kI kT) (GL : Own P w K mg base CX0 1 "is_list" ["value"] [] spList) (GV : Own P w K mg base CX0 2 "is_vector" ["value", "length"] [] spVec) : FnOk P w K mg base CX0 3 f fd ["value", "height", "width"] spMat := by
  refine F.ok scMat (fun vs H Q E h => ?_) (fun cdv A outer s H vs Q E hr h => ?_)
  · obtain ⟨v, d, n, m, rfl, _⟩ := h
    rfl
  · obtain ⟨v, d, n, m, rfl, an, ft, q⟩ := h
    have sz := ft.top.len
    refine ⟨_, (pss_one (ps_ret (pe_and (pe_own GL (hr.mono (by decide)) pass0 (pa_cons (pv 0) pa_nil)) (pe_and (pe_cmpR op_eq (pe_callB call_len_seq (by rfl) T.len (by decide +kernel) (pa_cons (pv 0) pa_nil)) (pv 1) (nomark _)) (pe_one (pe_callB (cr_all rfl) (by rfl) T.all (by decide +kernel) (pa_cons (pe_lc (own := [("row", 3)]) (g := gName 3) (tt := tYes) rfl scMat.nd (pi_seq (pv 0)) (blkOk_by (N := ["value", "height", "width", "row"]) (sc := defScope sMat) (by decide +kernel)) (fun _ _ _ _ _ => (pg_name (i := 3) scMat.nd rfl (Or.inl rfl))) (fun _ _ _ _ _ => pts_nil) (fun _ _ _ _ _ => (pe_own GV (hr.mono (by decide)) pass0 (pa_cons (pv 3) (pa_cons (pv 2) pa_nil))))) pa_nil))))))), ?_⟩
    refine ⟨v, rfl, v, d, rfl, an, fun H1 k1 => ⟨_, rfl, ?_⟩⟩
    rcases seq_flag an with ⟨e, k, a, xs, rfl, hs, al⟩ | e
    · rw [e]
      have ln := anyL_len al
      refine iteT ⟨_, rfl, a, xs, rfl, (hs k1 K).or, _, rfl, rfl, _, rfl, ?_⟩
      have hv : isMatD n m d = (decide (((itemsD d).length : Int) = n) && (itemsD d).all (isVecD m)) := by
        unfold isMatD
        rw [e] <;> rfl
      rw [hv] at q
      refine ite2 (fun z => ?_) (fun z => ?_)
      · have z1 : V.int (xs.length : Int) = V.int n := of_decide_eq_true z
        have z2 : (((itemsD d).length : Nat) : Int) = n := by
          injection z1 with z3
          rw [← ln]
          exact z3
        rw [decide_eq_true z2] at q
        refine ⟨.ref a, rfl, a, k, xs, rfl, hs k1 K, fun D hD => ?_⟩
        refine lc_same walk_seq (by omega) hD (fun H' s' => hs (k1.trans s') K) (fun i => .bool (isVecD m ((itemsD d)[i]?.getD .none))) ?_ ?_
        · refine fun i x H' hi hx s1 hd => ⟨rfl, fun k' hk => ?_⟩
          obtain ⟨dx, hdx, anx⟩ := anyL_at al hx
          refine ⟨_, rfl, _, rfl, x, dx, m, rfl, anx.keep (k1.trans s1), (ft.sub dx (List.mem_of_getElem? hdx)).len, fun H4 s4 => ?_⟩
          refine hk _ _ s4 ?_
          rw [hdx]
          exact .bl _
        · refine fun H' acc s1 ha hal => ?_
          rw [ln, map_get (fun d => PyData.bool (isVecD m d)) .none] at hal
          have e2 := anyL_flags hal
          refine ⟨D, _, rfl, .inl (.inl (by rw [← e2]; exact ha)), ?_⟩
          have e3 : ((itemsD d).map (isVecD m)).all id = (itemsD d).all (isVecD m) := by simp
          rw [e3]
          exact q _ (k1.trans s1)
      · have z2 : ¬ (((itemsD d).length : Nat) : Int) = n := fun y => z (decide_eq_true (by rw [ln, y]))
        rw [decide_eq_false z2] at q
        exact q _ k1
    · rw [e]
      have hv : isMatD n m d = false := by
        unfold isMatD
        rw [e] <;> rfl
      rw [hv] at q
      exact iteF (q _ k1)
theorem kit_str (d : PyData) : PySem.W.kitOne K (.type (kindS d)) (.type "str") = some (match d with | .str _ => true | _ => false) := by
  cases d with
  | none => exact kit_ty (show kitB "NoneType" "str" = some false by decide +kernel)
  | bool b => exact kit_ty (show kitB "bool" "str" = some false by decide +kernel)
  | int i => exact kit_ty (show kitB "int" "str" = some false by decide +kernel)
  | str x => exact kit_ty (show kitB "str" "str" = some true by decide +kernel)
  | list xs => exact kit_ty (show kitB "list" "str" = some false by decide +kernel)
  | tuple xs => exact kit_ty (show kitB "tuple" "str" = some false by decide +kernel)
  | dict kvs => exact kit_ty (show kitB "dict" "str" = some false by decide +kernel)
theorem okPat {f : Addr} {fd : FuncData} (F : Fun K "is_pattern" "is_pattern" sPat f fd) (T : Txt K w mg aI aT CP CT CZ CA CM CL kI kT) : FnOk P w K mg base CX0 1 f fd ["value"] spPat := by
  refine F.ok scPat (fun vs H Q E h => ?_) (fun cdv A outer s H vs Q E hr h => ?_)
  · obtain ⟨v, d, rfl, _⟩ := h
    rfl
  · obtain ⟨v, d, rfl, an, sh, q⟩ := h
    obtain ⟨tM, gM⟩ := T.gM
    refine ⟨_, (pss_one (ps_ret (pe_and (pe_callB call_isi (by rfl) T.isi (by decide +kernel) (pa_cons (pv 0) (pa_cons (pe_bltn (v := .ty "str") rfl T.str (by decide +kernel) rfl) pa_nil))) (pe_and (pe_cmpR op_le (pe_callB call_len_str (by rfl) T.len (by decide +kernel) (pa_cons (pv 0) pa_nil)) (pe_glob (v := .int 6) rfl gM ⟨_, rfl⟩) (nomark _)) (pe_one (pe_callB (cr_all rfl) (by rfl) T.all (by decide +kernel) (pa_cons (pe_lc (own := [("arrow", 1)]) (g := gName 1) (tt := tYes) rfl scPat.nd (pi_str (pv 0)) (blkOk_by (N := ["value", "arrow"]) (sc := defScope sPat) (by decide +kernel)) (fun _ _ _ _ _ => (pg_name (i := 1) scPat.nd rfl (Or.inl rfl))) (fun _ _ _ _ _ => pts_nil) (fun _ _ _ _ _ => (pe_cmpR (op_in_ts T.tT) (pv 1) (pe_glob (v := .ref aT) rfl T.gT rfl) (by rfl)))) pa_nil))))))), ?_⟩
    refine ⟨v, rfl, v, .ty "str", _, _, _, rfl, .ty _, any_ty an, kit_str d, _, rfl, ?_⟩
    cases an with
    | str x =>
      have lx := sh x rfl
      refine iteT ⟨_, rfl, x, rfl, (Nat.le_trans lx (by decide)), _, _, rfl, rfl, _, rfl, ?_⟩
      refine ite2 (fun z => ?_) (fun z => ?_)
      · have z2 : x.length ≤ 6 := by
          have := of_decide_eq_true z
          omega
        have e1 : isPatD (.str x) = x.cps.toList.all isArr := by
          show (decide (x.length ≤ 6) && _) = _
          rw [decide_eq_true z2, Bool.true_and]
        refine ⟨_, rfl, x, rfl, fun D hD => ?_⟩
        refine lc_same walk_str (Nat.le_trans z2 (by decide)) hD (fun _ _ => trivial) (fun i => .bool (isArr (x.cps.toList[i]?.getD 0))) ?_ ?_
        · rintro i y H' hi ⟨c, hc, rfl⟩ s1 hd
          refine ⟨rfl, fun k' hk => ?_⟩
          refine ⟨_, rfl, _, rfl, rfl, hk _ _ (fun _ _ z => z) ?_⟩
          rw [T.hT, show x.cps.toList[i]? = some c by simpa using hc]
          exact .bl _
        · refine fun H' acc s1 ha hal => ?_
          have e4 : (List.range x.cps.size).map (fun i => PyData.bool (isArr (x.cps.toList[i]?.getD 0))) = (x.cps.toList.map isArr).map PyData.bool := by
            rw [show x.cps.size = x.cps.toList.length by simp, map_get (fun c => PyData.bool (isArr c)) 0, List.map_map] <;> rfl
          rw [e4] at hal
          have e2 := anyL_bools hal
          refine ⟨D, _, rfl, .inl (.inl (by rw [← e2]; exact ha)), ?_⟩
          have e3 : (x.cps.toList.map isArr).all id = x.cps.toList.all isArr := by simp
          rw [e3, ← e1]
          exact q _ s1
      · have e1 : isPatD (.str x) = false := by
          show (decide (x.length ≤ 6) && _) = _
          rw [decide_eq_false (fun y => z (decide_eq_true (by omega))), Bool.false_and]
        rw [e1] at q
        exact q _ (fun _ _ z => z)
    | _ => exact iteF (q _ (fun _ _ z => z))
theorem okCPat {f : Addr} {fd : FuncData} (F : Fun K "check_pattern" "check_pattern" sCPat f fd) (T : Txt K w mg aI aT CP CT CZ CA CM CL kI kT) (GP : Own P w K mg base CX0 1 "is_pattern" ["value"] [] spPat) : FnOk P w K mg base (L2.CX P w) 4 f fd ["pattern"] (spCPat CT) := by
  refine F.okX scCPat (fun vs H Q E h => ?_) (fun cdv A outer s H vs Q E hr h => ?_)
  · obtain ⟨v, d, rfl, _⟩ := h
    rfl
  · obtain ⟨v, d, rfl, an, sh, qt, qf⟩ := h
    refine ⟨_, (pss_one (ps_if (pt_not (pt_val (pe_own GP (hr.mono (by decide)) pass0 (pa_cons (pv 0) pa_nil)))) (pss_one (ps_throw T.eT rfl (hr.mono (by decide)) (takes_of rfl rfl rfl rfl) (pv 0))) pss_nil)), ?_⟩
    refine ⟨_, rfl, _, d, rfl, an, sh, fun H1 k1 => ⟨_, rfl, ?_⟩⟩
    cases e : isPatD d with
    | true => exact iteF (qt e _ k1)
    | false => exact iteT ⟨_, rfl, thrown_go ((qf e).mono k1)⟩
theorem okCSz {f : Addr} {fd : FuncData} (F : Fun K "check_sizes" "check_sizes" sCSz f fd) (T : Txt K w mg aI aT CP CT CZ CA CM CL kI kT) (GL : Own P w K mg base CX0 1 "is_list" ["value"] [] spList) (GI : Own P w K mg base CX0 2 "is_integer" ["value", "low", "high"] [] spInt) : FnOk P w K mg base (L2.CX P w) 4 f fd ["pattern", "sizes"] (spCSz CZ) := by
  refine F.okX scCSz (fun vs H Q E h => ?_) (fun cdv A outer s H vs Q E hr h => ?_)
  · obtain ⟨x, v, d, rfl, _⟩ := h
    rfl
  · obtain ⟨x, v, d, rfl, lx, an, sz, qt, qf⟩ := h
    obtain ⟨tM, gM⟩ := T.gM
    refine ⟨_, (pss_one (ps_if (pt_not (PW.pt (pw_and (pt_val (pe_own GL (hr.mono (by decide)) pass0 (pa_cons (pv 1) pa_nil))) (pw_and (pt_cmpR op_eq (pe_callB call_len_seq (by rfl) T.len (by decide +kernel) (pa_cons (pv 1) pa_nil)) (pe_op op_add (pe_callB call_len_str (by rfl) T.len (by decide +kernel) (pa_cons (pv 0) pa_nil)) pe_int) (nomark _)) (pw_and1 (pt_val (pe_callB (cr_all rfl) (by rfl) T.all (by decide +kernel) (pa_cons (pe_lc (own := [("size", 2)]) (g := gName 2) (tt := tYes) rfl scCSz.nd (pi_seq (pv 1)) (blkOk_by (N := ["pattern", "sizes", "size"]) (sc := defScope sCSz) (by decide +kernel)) (fun _ _ _ _ _ => (pg_name (i := 2) scCSz.nd rfl (Or.inl rfl))) (fun _ _ _ _ _ => pts_nil) (fun _ _ _ _ _ => (pe_own GI (hr.mono (by decide)) pass0 (pa_cons (pv 2) (pa_cons pe_int (pa_cons (pe_glob (v := .int 6) rfl gM ⟨_, rfl⟩) pa_nil)))))) pa_nil)))))))) (pss_one (ps_throw T.eZ rfl (hr.mono (by decide)) (takes_of rfl rfl rfl rfl) (pv 1))) pss_nil)), ?_⟩
    refine ⟨_, rfl, v, d, rfl, an, fun H1 k1 => ?_⟩
    rcases seq_flag an with ⟨e, k, a, xs, rfl, hs, al⟩ | e
    · rw [e]
      have ln := anyL_len al
      refine ⟨_, rfl, iteT ⟨_, rfl, a, xs, rfl, (hs k1 K).or, _, rfl, x, rfl, Nat.le_trans lx (by decide), _, _, rfl, rfl, rfl, _, rfl, ?_⟩⟩
      have hv : sizesOk x.length d = (decide ((itemsD d).length = x.length + 1) && (itemsD d).all isSzD) := by
        unfold sizesOk
        rw [e] <;> rfl
      rw [hv] at qt qf
      refine ite2 (fun z => ?_) (fun z => ?_)
      · have z1 : V.int (xs.length : Int) = V.int ((x.length : Int) + 1) := of_decide_eq_true z
        have z2 : (itemsD d).length = x.length + 1 := by
          injection z1 with z3
          omega
        rw [decide_eq_true z2, Bool.true_and] at qt qf
        refine ⟨.ref a, rfl, a, k, xs, rfl, hs k1 K, fun D hD => ?_⟩
        refine lc_same walk_seq (by omega) hD (fun H' s' => hs (k1.trans s') K) (fun i => .bool (isSzD ((itemsD d)[i]?.getD .none))) ?_ ?_
        · refine fun i y H' hi hx s1 hd => ⟨rfl, fun k' hk => ?_⟩
          obtain ⟨dx, hdx, anx⟩ := anyL_at al hx
          refine ⟨_, rfl, y, _, _, dx, .int 0, .int 6, rfl, anx.keep (k1.trans s1), .int _, .int _, hk _ _ (fun _ _ z => z) ?_⟩
          rw [hdx]
          exact .bl _
        · refine fun H' acc s1 ha hal => ?_
          rw [ln, map_get (fun d => PyData.bool (isSzD d)) .none] at hal
          have e2 := anyL_flags hal
          refine ⟨D, _, rfl, .inl (.inl (by rw [← e2]; exact ha)), _, rfl, ?_⟩
          have e3 : ((itemsD d).map isSzD).all id = (itemsD d).all isSzD := by simp
          rw [e3]
          cases ea : (itemsD d).all isSzD with
          | true => exact iteF (qt ea _ (k1.trans s1))
          | false => exact iteT ⟨_, rfl, thrown_go ((qf ea).mono (k1.trans s1))⟩
      · have z2 : ¬ (itemsD d).length = x.length + 1 := fun y => z (decide_eq_true (by rw [ln, y] <;> rfl))
        rw [decide_eq_false z2, Bool.false_and] at qf
        exact iteT ⟨_, rfl, thrown_go ((qf rfl).mono k1)⟩
    · rw [e]
      have hv : sizesOk x.length d = false := by
        unfold sizesOk
        rw [e] <;> rfl
      exact ⟨_, rfl, iteF (iteT ⟨_, rfl, thrown_go ((qf hv).mono k1)⟩)⟩
theorem okWay {f : Addr} {fd : FuncData} (F : Fun K "way" "way" sWay f fd) : FnOk P w K mg base CX0 1 f fd ["pattern", "index"] spWay := by
  refine F.ok scWay (fun vs H Q E h => ?_) (fun cdv A outer s H vs Q E hr h => ?_)
  · obtain ⟨x, i, rfl, _⟩ := h
    rfl
  · obtain ⟨x, i, rfl, hi, lx, q⟩ := h
    refine ⟨_, (pss_one (ps_ret (pe_ifExp (pt_cmpR op_eq (pe_ix ix_str (pv 0) (pv 1) (fun _ _ => rfl)) pe_str (nomark _)) (pe_tup (pa_cons (pv 1) (pa_cons (pe_op op_add (pv 1) pe_int) pa_nil))) (pe_tup (pa_cons (pe_op op_add (pv 1) pe_int) (pa_cons (pv 1) pa_nil)))))), ?_⟩
    have hi2 : i < x.cps.toList.length := by
      rw [Array.length_toList]
      exact hi
    refine ⟨_, rfl, _, rfl, x, _, x.cps.toList[i], rfl, rfl, Nat.le_trans lx (by decide), atI_nat (List.getElem?_eq_getElem hi2), rfl, _, rfl, ?_⟩
    have er : isR x i = (x.cps.toList[i] == 62) := by
      unfold isR
      rw [List.getElem?_eq_getElem hi2] <;> rfl
    refine ite2 (fun z => ?_) (fun z => ?_)
    · have z1 : V.str ⟨#[x.cps.toList[i]]⟩ = V.str ">" := of_decide_eq_true z
      have z2 : x.cps.toList[i] = 62 := by
        injection z1 with z3
        have := congrArg (fun y : Str => y.cps[0]?) z3
        exact Option.some.inj this
      have e2 : isR x i = true := by rw [er, z2] <;> rfl
      refine ⟨_, rfl, _, rfl, _, _, rfl, rfl, (by show 2 ≤ sizeLine; decide), fun t ht => q t _ ht (same_new ht) ?_⟩
      rw [upd_same]
      unfold stA goA
      rw [e2] <;> rfl
    · have z2 : ¬ x.cps.toList[i] = 62 := fun y => z (decide_eq_true (by rw [y] <;> rfl))
      have e2 : isR x i = false := by rw [er]; exact beq_eq_false_iff_ne.mpr z2
      refine ⟨_, rfl, _, _, rfl, rfl, _, rfl, (by show 2 ≤ sizeLine; decide), fun t ht => q t _ ht (same_new ht) ?_⟩
      rw [upd_same]
      unfold stA goA
      rw [e2] <;> rfl
end
end K41
set_option Elab.async false
set_option linter.all false
set_option maxRecDepth 100000
set_option maxHeartbeats 4000000
namespace Rw
open PySem PySem.Spec PyProof.Rows L2
theorem sizes_parts {k : Nat} {d : PyData} (h : sizesOk k d = true) : isSeqD d = true ∧ (itemsD d).length = k + 1 ∧ (itemsD d).all isSzD = true := by
  unfold sizesOk at h
  simp only [Bool.and_eq_true, decide_eq_true_eq] at h
  exact h
theorem maps_parts {k : Nat} {d : PyData} (h : mapsOk k d = true) : isSeqD d = true ∧ (itemsD d).length = k := by
  unfold mapsOk at h
  simp only [Bool.and_eq_true, decide_eq_true_eq] at h
  exact h
theorem sz_int {d : PyData} (h : isSzD d = true) : ∃ n, d = .int n ∧ 0 ≤ n ∧ n ≤ 6 := by
  cases d with
  | int n =>
    have h2 : (decide (0 ≤ n) && decide (n ≤ 6)) = true := h
    simp only [Bool.and_eq_true, decide_eq_true_eq] at h2
    exact ⟨n, rfl, h2⟩
  | _ => cases h
theorem stA_le (x : Str) (i : Nat) : stA x i ≤ i + 1 := by
  unfold stA
  split <;> omega
theorem goA_le (x : Str) (i : Nat) : goA x i ≤ i + 1 := by
  unfold goA
  split <;> omega
theorem atD_get {d : PyData} {i : Nat} {e : PyData} (h : (itemsD d)[i]? = some e) : atD d i = e := by
  unfold atD
  rw [h] <;> rfl
/-- an item of sizes, as a value -/
theorem sz_at {k : Nat} {ds : PyData} (h : sizesOk k ds = true) {xs : List V} {H : Hp} (al : AnyL H xs (itemsD ds)) {i : Nat} (hi : i ≤ k) : xs[i]? = some (.int (szL ds i)) ∧ 0 ≤ szL ds i ∧ szL ds i ≤ 6 := by
  obtain ⟨_, l, a⟩ := sizes_parts h
  have hi2 : i < (itemsD ds).length := by omega
  have e1 : (itemsD ds)[i]? = some (itemsD ds)[i] := List.getElem?_eq_getElem hi2
  obtain ⟨n, en, n0, n6⟩ := sz_int (List.all_eq_true.mp a _ (List.getElem_mem hi2))
  obtain ⟨v, hv, av⟩ := anyL_of al e1
  have es : szL ds i = n := by
    unfold szL
    rw [atD_get e1, en] <;> rfl
  rw [en] at av
  cases av
  rw [es]
  exact ⟨hv, n0, n6⟩
theorem bad_none {x : Str} {ds dm : PyData} (h : ∀ j, j < x.length → matOk x ds dm j = true) : badAt x ds dm = none := by
  unfold badAt
  rw [List.find?_eq_none]
  intro j hj
  rw [h j (List.mem_range.mp hj)]
  simp
theorem find_range (f : Nat → Bool) : ∀ (n i : Nat), i < n → f i = true → (∀ j, j < i → f j = false) → (List.range n).find? f = some i := by
  intro n
  induction n with
  | zero => intro i h; omega
  | succ n ih =>
    intro i h h1 h2
    rw [List.range_succ, List.find?_append]
    by_cases e : i < n
    · rw [ih i e h1 h2] <;> rfl
    · have e2 : i = n := by omega
      subst e2
      rw [List.find?_eq_none.mpr (fun j hj => by rw [h2 j (List.mem_range.mp hj)]; simp)]
      simp [h1]
theorem bad_some {x : Str} {ds dm : PyData} {i : Nat} (hi : i < x.length) (h : matOk x ds dm i = false) (h2 : ∀ j, j < i → matOk x ds dm j = true) : badAt x ds dm = some i := by
  unfold badAt
  exact find_range _ _ _ hi (by rw [h] <;> rfl) (fun j hj => by rw [h2 j hj] <;> rfl)
end Rw
set_option Elab.async false
set_option linter.all false
set_option maxRecDepth 100000
set_option maxHeartbeats 4000000
namespace K41
open PySem PySem.Spec PyProof.Rows L2 Rw
abbrev sCMaps : Stmt := top 38
abbrev NCMaps : List Str := ["pattern", "sizes", "maps", "index", "matrix", "start", "goal"]
theorem scCMaps : FnScope NCMaps ["pattern", "sizes", "maps"] (defScope sCMaps) := ⟨rfl, rfl, rfl, by decide +kernel, rfl, by decide +kernel, by decide +kernel⟩
section
variable {P : Program} {w : World} {K : PySem.W.Frag} {mg : Str → Option Value} {base : Heap} {aI aT CP CT CZ CA CM CL : Addr} {kI : List (Int × Value)} {kT : List (Str × Value)}
theorem okCMaps {f : Addr} {fd : FuncData} (F : Fun K "_check_maps" "_check_maps" sCMaps f fd) (T : Txt K w mg aI aT CP CT CZ CA CM CL kI kT) (GL : Own P w K mg base CX0 1 "is_list" ["value"] [] spList) (GW : Own P w K mg base CX0 1 "way" ["pattern", "index"] [] spWay)
    (GM : Own P w K mg base CX0 3 "is_matrix" ["value", "height", "width"] [] spMat) : FnOk P w K mg base (L2.CX P w) 5 f fd ["pattern", "sizes", "maps"] (spCMaps CA CM) := by
  refine F.okX scCMaps (fun vs H Q E h => ?_) (fun cdv A outer s H vs Q E hr h => ?_)
  · obtain ⟨x, va, vm, ds, dm, rfl, _⟩ := h
    rfl
  · obtain ⟨x, va, vm, ds, dm, rfl, lx, as, es, am, fm, xf, q⟩ := h
    refine ⟨_, (pss_cons (ps_if (pt_not (PW.pt (pw_and (pt_val (pe_own GL (hr.mono (by decide)) pass0 (pa_cons (pv 2) pa_nil))) (pw_and1 (pt_cmpR op_eq (pe_callB call_len_seq (by rfl) T.len (by decide +kernel) (pa_cons (pv 2) pa_nil)) (pe_callB call_len_str (by rfl) T.len (by decide +kernel) (pa_cons (pv 0) pa_nil)) (nomark _)))))) (pss_one (ps_throw T.eA rfl (hr.mono (by decide)) (takes_of rfl rfl rfl rfl) (pv 2))) pss_nil)
      (pss_one (ps_for (passes_of rfl) rfl (pi_enumB (by rfl) T.enum (pa_cons (pv 2) pa_nil)) (pg_tup rfl (pgs_cons (pg_name (i := 3) scCMaps.nd rfl (Or.inl rfl)) (pgs_cons (pg_name (i := 4) scCMaps.nd rfl (Or.inl rfl)) pgs_nil)))
        (pss_cons (ps_asg (pe_own GW (hr.mono (by decide)) pass0 (pa_cons (pv 0) (pa_cons (pv 3) pa_nil))) (pg_tup rfl (pgs_cons (pg_name (i := 5) scCMaps.nd rfl (Or.inl rfl)) (pgs_cons (pg_name (i := 6) scCMaps.nd rfl (Or.inl rfl)) pgs_nil))))
        (pss_one (ps_if (pt_not (pt_val (pe_own GM (hr.mono (by decide)) pass0 (pa_cons (pv 4) (pa_cons (pe_ix ix_seq (pv 1) (pv 5) (fun _ _ => rfl)) (pa_cons (pe_ix ix_seq (pv 1) (pv 6) (fun _ _ => rfl)) pa_nil)))))) (pss_one (ps_throw T.eM rfl (hr.mono (by decide)) (takes_of rfl rfl rfl rfl) (pv 4))) pss_nil)))))), ?_⟩
    refine ⟨_, rfl, vm, dm, rfl, am, fun H1 k1 => ?_⟩
    rcases seq_flag am with ⟨e, k, a, xs, rfl, hs, al⟩ | e
    · rw [e]
      have ln := anyL_len al
      have hv : mapsOk x.length dm = decide ((itemsD dm).length = x.length) := by
        unfold mapsOk
        rw [e] <;> rfl
      rw [hv] at xf q
      refine ⟨_, rfl, iteT ⟨_, rfl, a, xs, rfl, (hs k1 K).or, _, rfl, x, rfl, Nat.le_trans lx (by decide), rfl, _, rfl, ?_⟩⟩
      by_cases z2 : (itemsD dm).length = x.length
      · rw [decide_eq_true z2] at q
        obtain ⟨qb, qn⟩ := q rfl
        have z1 : decide (V.int (xs.length : Int) = V.int (x.length : Int)) = true := decide_eq_true (by rw [ln, z2])
        rw [z1]
        refine iteF ?_
        obtain ⟨ss, sl, sa⟩ := sizes_parts es
        obtain ⟨ks, b, ys, rfl, hss, als⟩ := seq_of as ss
        refine ⟨.ref a, rfl, a, k, xs, rfl, hs k1 K, ?_⟩
        refine for_it walk_enumB (fun i σ' H' => (∃ y3 y4 y5 y6, σ' = [some (.str x), some (.ref b), some (.ref a), y3, y4, y5, y6]) ∧ Same H1 H' ∧ ∀ j, j < i → matOk x ds dm j = true) ⟨⟨_, _, _, _, rfl⟩, fun _ _ z => z, fun j h => by omega⟩ (fun i σ' H' _ z => hs (k1.trans z.2.1) K) ?_ ?_
        · rintro i y σ' H2 H3 hi ⟨⟨y3, y4, y5, y6, rfl⟩, k2, ok⟩ ⟨T1, v1, v2, rfl, hT, rfl, h1, h2⟩
          cases h1
          obtain ⟨dx, hdx, anx⟩ := anyL_at al h2
          have k3 : Same H2 (upd H2 T1 (.tup [.int (i : Nat), v2])) := same_new hT
          have kk := (k1.trans k2).trans k3
          have hix : i < x.length := by omega
          refine ⟨T1, _, rfl, SqT.of upd_same, rfl, _, _, rfl, _, _, rfl, rfl, ?_⟩
          refine ⟨_, rfl, _, rfl, x, i, rfl, hix, lx, fun t H4 ht k4 e4 => ?_⟩
          have kk4 := kk.trans k4
          refine ⟨t, _, rfl, SqT.of e4, rfl, _, _, rfl, _, _, rfl, rfl, ?_⟩
          obtain ⟨s1, s2, s3⟩ := sz_at es als (Nat.le_trans (stA_le x i) (by omega))
          obtain ⟨g1, g2, g3⟩ := sz_at es als (Nat.le_trans (goA_le x i) (by omega))
          have ix : ∀ (j : Nat) (n : Int), ys[j]? = some (.int n) → ∀ k'' : VK, k'' (.int n) H4 → rIx K (.ref b) (.int (j : Int)) H4 k'' := fun j n hj k'' hk'' => by
            have q3 := hss kk4 K
            cases ks with
            | true => exact .inl ⟨b, ys, (j : Int), _, rfl, rfl, q3, atI_nat hj, hk''⟩
            | false => exact .inr (.inl ⟨b, ys, (j : Int), _, rfl, rfl, q3, atI_nat hj, hk''⟩)
          refine ⟨_, rfl, _, rfl, _, rfl, ix _ _ s1 _ ⟨_, rfl, _, rfl, ix _ _ g1 _ ?_⟩⟩
          have ed : atD dm i = dx := atD_get hdx
          refine ⟨v2, dx, _, _, rfl, anx.keep kk4, fm.sub dx (List.mem_of_getElem? hdx), fun H5 k5 => ⟨_, rfl, ?_⟩⟩
          have em : isMatD (szL ds (stA x i)) (szL ds (goA x i)) dx = matOk x ds dm i := by
            unfold matOk
            rw [ed]
          rw [em]
          cases eo : matOk x ds dm i with
          | true =>
            refine iteF ⟨⟨_, _, _, _, rfl⟩, ((k2.trans k3).trans k4).trans k5, fun j hj => ?_⟩
            by_cases e5 : j < i
            · exact ok j e5
            · rw [show j = i by omega]
              exact eo
          | false =>
            have kk5 := kk4.trans k5
            exact iteT ⟨_, rfl, thrown_go (qb i v2 _ (bad_some hix eo ok) kk5 (by rw [ed]; exact anx.keep kk5))⟩
        · rintro σ' H2 ⟨_, k2, ok⟩
          exact qn (bad_none fun j hj => ok j (by omega)) _ (k1.trans k2)
      · rw [decide_eq_false z2] at xf
        have z1 : decide (V.int (xs.length : Int) = V.int (x.length : Int)) = false := decide_eq_false (fun y => z2 (by
          injection y with y2
          rw [← ln]
          exact Int.ofNat.inj y2))
        rw [z1]
        exact iteT ⟨_, rfl, thrown_go ((xf rfl).mono k1)⟩
    · rw [e]
      have hv : mapsOk x.length dm = false := by
        unfold mapsOk
        rw [e] <;> rfl
      exact ⟨_, rfl, iteF (iteT ⟨_, rfl, thrown_go ((xf hv).mono k1)⟩)⟩
end
end K41
set_option Elab.async false
set_option linter.all false
set_option maxRecDepth 100000
set_option maxHeartbeats 4000000
namespace Rw
open PySem PySem.Spec PyProof.Rows L2
/-- what is data stays -/
structure Keeps (H H' : Hp) : Prop where
  l : ∀ b xs, H b = some (.lst xs) → H' b = some (.lst xs)
  t : ∀ b xs, H b = some (.tup xs) → H' b = some (.tup xs)
  d : ∀ b kvs, H b = some (.dK kvs) → H' b = some (.dK kvs)
mutual
theorem any_keeps {H H' : Hp} (k : Keeps H H') : ∀ (d : PyData) (v : V), Any H v d → Any H' v d
  | .none, _, h => by cases h; exact .non
  | .bool b, _, h => by cases h; exact .bl b
  | .int i, _, h => by cases h; exact .int i
  | .str x, _, h => by cases h; exact .str x
  | .list ds, _, h => by
    cases h with
    | lst e a => exact .lst (k.l _ _ e) (anyL_keeps k ds _ a)
  | .tuple ds, _, h => by
    cases h with
    | tup e a => exact .tup (k.t _ _ e) (anyL_keeps k ds _ a)
  | .dict ds, _, h => by
    cases h with
    | dct e a => exact .dct (k.d _ _ e) (anyK_keeps k ds _ a)
theorem anyL_keeps {H H' : Hp} (k : Keeps H H') : ∀ (ds : List PyData) (vs : List V), AnyL H vs ds → AnyL H' vs ds
  | [], _, h => by cases h; exact .nil
  | d :: ds, _, h => by
    cases h with
    | cons a b => exact .cons (any_keeps k d _ a) (anyL_keeps k ds _ b)
theorem anyK_keeps {H H' : Hp} (k : Keeps H H') : ∀ (ds : List (PyData × PyData)) (vs : List (Key × V)), AnyK H vs ds → AnyK H' vs ds
  | [], _, h => by cases h; exact .nil
  | (_, d) :: ds, _, h => by
    cases h with
    | cons a b => exact .cons (any_keeps k d _ a) (anyK_keeps k ds _ b)
end
theorem Keeps.refl {H : Hp} : Keeps H H := ⟨fun _ _ z => z, fun _ _ z => z, fun _ _ z => z⟩
theorem Keeps.trans {H H1 H2 : Hp} (a : Keeps H H1) (b : Keeps H1 H2) : Keeps H H2 := ⟨fun c xs z => b.l c xs (a.l c xs z), fun c xs z => b.t c xs (a.t c xs z), fun c xs z => b.d c xs (a.d c xs z)⟩
theorem Keeps.of {H H' : Hp} (k : Same H H') : Keeps H H' := ⟨fun b _ e => k b _ e, fun b _ e => k b _ e, fun b _ e => k b _ e⟩
theorem keeps_ins {H H' : Hp} {a C dx : Addr} {fs : List (Str × V)} (e : H a = some (.ins C dx fs)) (g : Grow a H H') : Keeps H H' := by
  have ne : ∀ b o, H b = some o → (∀ fs', o ≠ .ins C dx fs') → b ≠ a := fun b o h n z => by
    rw [z, e] at h
    exact n fs (Option.some.inj h).symm
  exact ⟨fun b xs h => g b _ (ne b _ h fun _ z => nomatch z) h, fun b xs h => g b _ (ne b _ h fun _ z => nomatch z) h, fun b xs h => g b _ (ne b _ h fun _ z => nomatch z) h⟩
theorem Any.keeps {H H' : Hp} {v : V} {d : PyData} (h : Any H v d) (k : Keeps H H') : Any H' v d := any_keeps k d v h
mutual
/-- no list and no dict in it -/
def noL : PyData → Bool
  | .list _ => false
  | .dict _ => false
  | .tuple ds => noLs ds
  | _ => true
def noLs : List PyData → Bool
  | [] => true
  | d :: ds => noL d && noLs ds
end
theorem noLs_of : ∀ {ds : List PyData}, (∀ d, d ∈ ds → noL d = true) → noLs ds = true
  | [], _ => rfl
  | d :: ds, h => by
    show (noL d && noLs ds) = true
    rw [h d List.mem_cons_self, noLs_of fun e he => h e (List.mem_cons_of_mem _ he)] <;> rfl
mutual
theorem any_noL {H : Hp} {D : Addr} {xs : List V} (h : H D = some (.lst xs)) : ∀ (d : PyData) (v : V), Any H v d → noL d = true → Any (del H D) v d
  | .none, _, a, _ => by cases a; exact .non
  | .bool b, _, a, _ => by cases a; exact .bl b
  | .int i, _, a, _ => by cases a; exact .int i
  | .str x, _, a, _ => by cases a; exact .str x
  | .list ds, _, _, z => by cases z
  | .dict ds, _, _, z => by cases z
  | .tuple ds, _, a, z => by
    cases a with
    | tup e b =>
      rename_i q ys
      have ne : q ≠ D := fun y => by
        rw [y, h] at e
        cases e
      exact .tup (by rw [del_ne ne]; exact e) (anyL_noL h ds _ b z)
theorem anyL_noL {H : Hp} {D : Addr} {xs : List V} (h : H D = some (.lst xs)) : ∀ (ds : List PyData) (vs : List V), AnyL H vs ds → noLs ds = true → AnyL (del H D) vs ds
  | [], _, a, _ => by cases a; exact .nil
  | d :: ds, _, a, z => by
    have z2 : (noL d && noLs ds) = true := z
    rw [Bool.and_eq_true] at z2
    cases a with
    | cons a b => exact .cons (any_noL h d _ a z2.1) (anyL_noL h ds _ b z2.2)
end
/-- a comprehension that makes data without lists -/
theorem lc_tup {J : It} {n : Nat} {G : Hp → Prop} {P : Nat → V → Prop} (w : Walk J n G (fun i H x H' => H' = H ∧ P i x)) {j : Nat} {σ : L2.St} {vs : List Nat} {te : TE} {H1 : Hp} {D : Addr} {Q : Hp → Prop} (hn : n ≤ 1000) (hD : H1 D = none) (hG : ∀ H, Same H1 H → G H) (f : Nat → PyData)
    (nf : ∀ i, i < n → noL (f i) = true)
    (hs : ∀ i x H, i < n → P i x → Same H1 H → (∃ o, H D = some o) → wipe ((wipe σ vs).set j (some x)) vs = wipe σ vs ∧ ∀ k : VK, (∀ y H', Same H H' → Any H' y (f i) → k y H') → te ((wipe σ vs).set j (some x)) H k)
    (hq : ∀ H acc, Same H1 H → H D = some (.lst acc) → AnyL (del H D) acc ((List.range n).map f) → Q H) :
    ∃ W : Nat → Nat → Hp → Prop, (∃ m, W 0 m (upd H1 D (.lst []))) ∧ ∀ i m H, W i m H →
      (J.stop i H ∧ Q H) ∨ (J.go i H ∧ ∃ Nx : Hp → Prop, (∀ H', Nx H' → ∃ m', m' < m ∧ W (i + 1) m' H') ∧ ∀ x H', J.yld i H x H' → gName j x (wipe σ vs) H' fun σ2 H2 => wipe σ2 vs = wipe σ vs ∧ tYes σ2 H2 fun b H3 =>
        if b = true then te σ2 H3 fun y H4 => ∃ acc, H4 D = some (.lst acc) ∧ acc.length < sizeLine ∧ Nx (upd H4 D (.lst (acc ++ [y]))) else Nx H3) := by
  refine lc_it w (Qd := Q) (Pv := fun i H => Same H1 H ∧ ∃ acc, H D = some (.lst acc) ∧ acc.length = i ∧ AnyL (del H D) acc ((List.range i).map f)) ⟨same_new hD, [], upd_same, rfl, .nil⟩ (fun i H _ h => hG H h.1) ?_ ?_
  · rintro i x H H' hi ⟨s1, acc, ha, hl, an⟩ ⟨rfl, hp⟩
    obtain ⟨e1, e2⟩ := hs i x H' hi hp s1 ⟨_, ha⟩
    refine ⟨e1, ?_⟩
    show te _ _ _
    refine e2 _ fun y H4 s2 hy => ?_
    have h4 := s2 _ _ ha
    refine ⟨acc, h4, Nat.lt_of_lt_of_le (by omega : acc.length < 1000) (by decide), ?_, acc ++ [y], upd_same, by rw [List.length_append, hl] <;> rfl, ?_⟩
    · intro b o e
      have ne : b ≠ D := ne_of_none e hD
      rw [upd_ne ne]
      exact s2 _ _ (s1 _ _ e)
    · rw [del_upd, List.range_succ, List.map_append]
      exact anyL_snoc (anyL_keep (Grow.del (Grow.of s2)) an) (any_noL h4 _ _ hy (nf i hi))
  · rintro H ⟨s1, acc, ha, hl, an⟩
    exact hq H acc s1 ha an
abbrev rTupOf (K : PySem.W.Frag) : List V → Hp → VK → Prop := fun xs H Q => ∃ p ys, xs = [.ref p] ∧ ((SqL K H p ys ∧ ∀ l, H l = none → Q (.ref l) (upd H l (.tup ys))) ∨ (SqT K H p ys ∧ Q (.ref p) H))
abbrev rLstOf (K : PySem.W.Frag) : List V → Hp → VK → Prop := fun xs H Q => ∃ p ys, xs = [.ref p] ∧ (SqL K H p ys ∨ SqT K H p ys) ∧ ∀ l, H l = none → Q (.ref l) (upd H l (.lst ys))
section
variable {K : PySem.W.Frag} {H : Hp} {v : V} {d : PyData} {Q : VK}
/-- tuple(x) -/
theorem tup_of_any (an : Any H v d) (e : isSeqD d = true) (q : ∀ ts H', Same H H' → Any H' (.ref ts) (.tuple (itemsD d)) → Q (.ref ts) H') : rTupOf K [v] H Q := by
  cases an with
  | lst ea al => exact ⟨_, _, rfl, .inl ⟨SqL.of ea, fun l hl => q l _ (same_new hl) (.tup upd_same (anyL_keep (same_new hl) al))⟩⟩
  | tup ea al => exact ⟨_, _, rfl, .inr ⟨SqT.of ea, q _ _ (fun _ _ z => z) (.tup ea al)⟩⟩
  | _ => cases e
/-- list(x) -/
theorem list_of_any (an : Any H v d) (e : isSeqD d = true) (q : ∀ l ys, H l = none → AnyL H ys (itemsD d) → Q (.ref l) (upd H l (.lst ys))) : rLstOf K [v] H Q := by
  cases an with
  | lst ea al => exact ⟨_, _, rfl, .inl (SqL.of ea), fun l hl => q l _ hl al⟩
  | tup ea al => exact ⟨_, _, rfl, .inr (SqT.of ea), fun l hl => q l _ hl al⟩
  | _ => cases e
end
/-- tuple(x), list(x) of data -/
def rTupA : List V → Hp → VK → Prop := fun xs H Q => ∃ v d, xs = [v] ∧ Any H v d ∧ isSeqD d = true ∧ ∀ ts H', Same H H' → Any H' (.ref ts) (.tuple (itemsD d)) → Q (.ref ts) H'
def rLstA : List V → Hp → VK → Prop := fun xs H Q => ∃ v d, xs = [v] ∧ Any H v d ∧ isSeqD d = true ∧ ∀ l ys, H l = none → AnyL H ys (itemsD d) → Q (.ref l) (upd H l (.lst ys))
theorem call_tupA {X : Cx} : CallR X (.type "tuple") rTupA := by
  intro pins s σ H xs us Q I r h
  obtain ⟨v, d, rfl, an, e, q⟩ := h
  exact call_tuple_of pins s σ H _ us Q I r (tup_of_any an e q)
theorem call_lstA {X : Cx} : CallR X (.type "list") rLstA := by
  intro pins s σ H xs us Q I r h
  obtain ⟨v, d, rfl, an, e, q⟩ := h
  exact call_list_of pins s σ H _ us Q I r (list_of_any an e q)
theorem noL_mods {p : Int} {ds : List PyData} (h : ds.all isIntD = true) : noLs (ds.map (modD p)) = true := by
  refine noLs_of fun d hd => ?_
  obtain ⟨e, he, rfl⟩ := List.mem_map.mp hd
  have := List.all_eq_true.mp h e he
  cases e with
  | int n => rfl
  | _ => cases this
theorem vec_parts {n : Int} {d : PyData} (e : isVecD n d = true) : isSeqD d = true ∧ (((itemsD d).length : Nat) : Int) = n ∧ (itemsD d).all isIntD = true := by
  unfold isVecD at e
  simp only [Bool.and_eq_true, decide_eq_true_eq] at e
  exact e
theorem mat_parts {n m : Int} {d : PyData} (e : isMatD n m d = true) : isSeqD d = true ∧ (((itemsD d).length : Nat) : Int) = n ∧ ∀ x, x ∈ itemsD d → isVecD m x = true := by
  unfold isMatD at e
  simp only [Bool.and_eq_true, decide_eq_true_eq, List.all_eq_true] at e
  exact e
theorem noL_rows {p h w : Int} {m : PyData} (e : isMatD h w m = true) : noLs (rowsM p m) = true := by
  refine noLs_of fun d hd => ?_
  obtain ⟨r, hr, rfl⟩ := List.mem_map.mp hd
  exact noL_mods (vec_parts ((mat_parts e).2.2 r hr)).2.2
theorem bad_none_all {x : Str} {ds dm : PyData} (h : badAt x ds dm = none) : ∀ j, j < x.length → matOk x ds dm j = true := by
  intro j hj
  unfold badAt at h
  rw [List.find?_eq_none] at h
  have := h j (List.mem_range.mpr hj)
  simpa using this
end Rw
set_option Elab.async false
set_option linter.all false
set_option maxRecDepth 100000
set_option maxHeartbeats 4000000
namespace K41
open PySem PySem.Spec PyProof.Rows L2 Rw
abbrev sIniR : Stmt := inClass (top 36) 0
abbrev NIniR : List Str := ["self", "pattern", "prime", "sizes", "maps", "matrix", "vector", "item"]
theorem scIniR : FnScope NIniR ["self", "pattern", "prime", "sizes", "maps"] (defScope sIniR) := ⟨rfl, rfl, rfl, by decide +kernel, rfl, by decide +kernel, by decide +kernel⟩
/-- the class of rows -/
structure RowCls (K : PySem.W.Frag) (C : Addr) : Prop where
  cl : Cls K C
  n1 : NoAttr K C "_pattern"
  n2 : NoAttr K C "_prime"
  n3 : NoAttr K C "_sizes"
  n4 : NoAttr K C "_maps"
abbrev tIt (K : PySem.W.Frag) : TE := tOp (rI (fun _ j => j ≠ 0) fun i j => .int (i.fmod j)) (tVar 7) (tVar 2)
abbrev tVc (K : PySem.W.Frag) : TE := tCB (rTupOf K) (tCons (tLc (iSeq K (tVar 6)) (gName 7) tYes (tIt K) [7]) tNil)
abbrev tMx (K : PySem.W.Frag) : TE := tCB (rTupOf K) (tCons (tLc (iSeq K (tVar 5)) (gName 6) tYes (tVc K) [6]) tNil)
section
variable {P : Program} {w : World} {K : PySem.W.Frag} {mg : Str → Option Value} {base : Heap} {aI aT C CP CT CZ CA CM CL : Addr} {kI : List (Int × Value)} {kT : List (Str × Value)}
theorem okIniR {f : Addr} {fd : FuncData} (F : Fun K "__init__" "Row.__init__" sIniR f fd) (T : Txt K w mg aI aT CP CT CZ CA CM CL kI kT) (R : RowCls K C) (GT : Own P w K mg base (L2.CX P w) 4 "check_pattern" ["pattern"] [] (spCPat CT)) (GP : Own P w K mg base (L2.CX P w) 4 "check_prime" ["prime"] [] (spCheck CP))
    (GZ : Own P w K mg base (L2.CX P w) 4 "check_sizes" ["pattern", "sizes"] [] (spCSz CZ)) (GA : Own P w K mg base (L2.CX P w) 5 "_check_maps" ["pattern", "sizes", "maps"] [] (spCMaps CA CM)) : FnOk P w K mg base (L2.CX P w) 6 f fd ["self", "pattern", "prime", "sizes", "maps"] (spIniR C CT CP CZ CA CM) := by
  refine F.okX scIniR (fun vs H Q E h => ?_) (fun cdv A outer s H vs Q E hr h => ?_)
  · obtain ⟨a, dx, vp, vq, va, vm, dp, dq, ds, dm, rfl, _⟩ := h
    rfl
  · obtain ⟨a, dx, vp, vq, va, vm, dp, dq, ds, dm, rfl, ea, I, er, q⟩ := h
    refine ⟨_, (pss_cons (ps_expr (pe_own (E := E) GT (hr.mono (by decide)) (passes_call (takes_of rfl rfl rfl rfl) (fun _ _ _ _ z => z)) (pa_cons (pv 1) pa_nil)))
      (pss_cons (ps_expr (pe_own (E := E) GP (hr.mono (by decide)) (passes_call (takes_of rfl rfl rfl rfl) (fun _ _ _ _ z => z)) (pa_cons (pv 2) pa_nil)))
      (pss_cons (ps_expr (pe_own (E := E) GZ (hr.mono (by decide)) (passes_call (takes_of rfl rfl rfl rfl) (fun _ _ _ _ z => z)) (pa_cons (pv 1) (pa_cons (pv 3) pa_nil))))
      (pss_cons (ps_expr (pe_own (E := E) GA (hr.mono (by decide)) (passes_call (takes_of rfl rfl rfl rfl) (fun _ _ _ _ z => z)) (pa_cons (pv 1) (pa_cons (pv 3) (pa_cons (pv 4) pa_nil)))))
      (pss_cons (ps_fld (pv 0) (pv 1) rfl)
      (pss_cons (ps_fld (pv 0) (pv 2) rfl)
      (pss_cons (ps_fld (pv 0) (pe_callTy call_tupA (by rfl) T.tuple (by decide +kernel) (pa_cons (pv 3) pa_nil)) rfl)
      (pss_one (ps_fld (pv 0) (pe_callTy call_tuple_of (by rfl) T.tuple (by decide +kernel) (pa_cons (pe_lc (own := [("matrix", 5)]) (g := gName 5) (tt := tYes) (te := tMx K) rfl scIniR.nd (pi_seq (pv 4)) (blkOk_by (N := NIniR) (sc := defScope sIniR) (by decide +kernel)) (fun _ _ _ _ _ => (pg_name (i := 5) scIniR.nd rfl (Or.inl rfl))) (fun _ _ _ _ _ => pts_nil)
        (fun _ _ _ _ _ => (pe_callTy call_tuple_of (by rfl) T.tuple (by decide +kernel) (pa_cons (pe_lc (own := [("vector", 6)]) (g := gName 6) (tt := tYes) (te := tVc K) rfl scIniR.nd (pi_seq (pv 5)) (blkOk_by (N := NIniR) (by rfl)) (fun _ _ _ _ _ => (pg_name (i := 6) scIniR.nd rfl (Or.inl rfl))) (fun _ _ _ _ _ => pts_nil)
          (fun _ _ _ _ _ => (pe_callTy call_tuple_of (by rfl) T.tuple (by decide +kernel) (pa_cons (pe_lc (own := [("item", 7)]) (g := gName 7) (tt := tYes) (te := tIt K) rfl scIniR.nd (pi_seq (pv 6)) (blkOk_by (N := NIniR) (by rfl)) (fun _ _ _ _ _ => (pg_name (i := 7) scIniR.nd rfl (Or.inl rfl))) (fun _ _ _ _ _ => pts_nil)
            (fun _ _ _ _ _ => (pe_op op_modN (pv 7) (pv 2)))) pa_nil)))) pa_nil)))) pa_nil)) rfl))))))))), ?_⟩
    have nolog : ∀ (v : V) (H : Hp), Same H H := fun _ _ _ _ z => z
    refine ⟨_, rfl, vp, dp, rfl, I.ap, I.sp, fun ep H1 k1 => ?_, er.pat⟩
    refine ⟨_, rfl, vq, dq, rfl, I.aq.keep k1, fun eq => ?_, fun eq => (er.pri ep eq).mono k1⟩
    obtain ⟨x, rfl⟩ : ∃ x, dp = .str x := by
      cases dp with
      | str x => exact ⟨x, rfl⟩
      | _ => cases ep
    obtain ⟨p, rfl, hp⟩ : ∃ p, dq = .int p ∧ p ∈ primesL := by
      cases dq with
      | int p => exact ⟨p, rfl, of_decide_eq_true eq⟩
      | _ => cases eq
    have lx : x.length ≤ 6 := by
      have h1 : (decide (x.length ≤ 6) && x.cps.toList.all isArr) = true := ep
      rw [Bool.and_eq_true] at h1
      exact of_decide_eq_true h1.1
    have ap := I.ap
    cases ap
    have aq := I.aq
    cases aq
    refine ⟨_, rfl, _, rfl, x, va, ds, rfl, lx, I.as.keep k1, I.ls, fun es H2 k2 => ?_, fun es => (er.siz x rfl ep eq es).mono k1⟩
    have k12 := k1.trans k2
    refine ⟨_, rfl, _, rfl, _, rfl, x, va, vm, ds, dm, rfl, lx, I.as.keep k12, es, I.am.keep k12, I.fm, fun em => (er.map x rfl ep eq es em).mono k12, fun em => ⟨fun i v H3 eb k3 av => er.mat x i v H3 rfl ep eq es em eb (k12.trans k3) av, fun eb H3 k3 => ?_⟩⟩
    have k13 := k12.trans k3
    have good : rowGood x p ds dm = true := by
      unfold rowGood
      rw [ep, eq, es, em, eb] <;> rfl
    refine ⟨_, rfl, _, rfl, a, C, dx, [], rfl, k13 _ _ ea, R.cl, R.n1, by decide, ?_⟩
    refine ⟨_, rfl, _, rfl, a, C, dx, _, rfl, upd_same, R.cl, R.n2, (by show 1 < 1000; decide), ?_⟩
    have g6 : Grow a H3 (upd (upd H3 a (.ins C dx (putF "_pattern" (.str x) []))) a (.ins C dx (putF "_prime" (.int p) (putF "_pattern" (.str x) [])))) := Grow.put.trans Grow.put
    have e6 : (upd (upd H3 a (.ins C dx (putF "_pattern" (.str x) []))) a (.ins C dx (putF "_prime" (.int p) (putF "_pattern" (.str x) [])))) a = some (.ins C dx [("_pattern", .str x), ("_prime", .int p)]) := upd_same
    generalize upd (upd H3 a (.ins C dx (putF "_pattern" (.str x) []))) a (.ins C dx (putF "_prime" (.int p) (putF "_pattern" (.str x) []))) = H6 at g6 e6 ⊢
    have G6 : Grow a H H6 := (Grow.of k13).trans g6
    have as6 := I.as.keeps (keeps_ins ea G6)
    obtain ⟨ss, _, _⟩ := sizes_parts es
    refine ⟨_, rfl, va, ds, rfl, as6, ss, fun ts H7 k7 at7 => ?_⟩
    refine ⟨_, rfl, a, C, dx, _, rfl, k7 _ _ e6, R.cl, R.n3, (by show 2 < 1000; decide), ?_⟩
    have e7 := k7 _ _ e6
    have g8 : Grow a H7 (upd H7 a (.ins C dx (putF "_sizes" (.ref ts) [("_pattern", .str x), ("_prime", .int p)]))) := Grow.put
    have at8 := at7.keeps (keeps_ins e7 g8)
    have e8 : (upd H7 a (.ins C dx (putF "_sizes" (.ref ts) [("_pattern", .str x), ("_prime", .int p)]))) a = some (.ins C dx [("_pattern", .str x), ("_prime", .int p), ("_sizes", .ref ts)]) := upd_same
    generalize upd H7 a (.ins C dx (putF "_sizes" (.ref ts) [("_pattern", .str x), ("_prime", .int p)])) = H8 at g8 at8 e8 ⊢
    have G8 : Grow a H H8 := (G6.trans (Grow.of k7)).trans g8
    have am8 := I.am.keeps (keeps_ins ea G8)
    obtain ⟨ms, ml⟩ := maps_parts em
    obtain ⟨k, b, xs, rfl, hs, al⟩ := seq_of am8 ms
    have ln := anyL_len al
    have fl := I.fm.len
    have all := bad_none_all eb
    have p0 : p ≠ 0 := by
      have := prime_pos hp
      omega
    refine ⟨.ref b, rfl, b, k, xs, rfl, hs (fun _ _ z => z) K, fun D hD => ?_⟩
    have mat : ∀ i, i < xs.length → ∃ h w, isMatD h w (atD dm i) = true := fun i hi => ⟨_, _, all i (by omega)⟩
    refine lc_tup walk_seq (by omega) hD (fun H' s' => hs s' K) (fun i => .tuple (rowsM p (atD dm i))) (fun i hi => by
      obtain ⟨h, w, e⟩ := mat i hi
      exact noL_rows e) ?_ ?_
    · rintro i y H9 hi hy s9 _
      refine ⟨rfl, fun k9 hk9 => ?_⟩
      obtain ⟨m, hm, am⟩ := anyL_at al hy
      obtain ⟨mh, mw, mo⟩ := mat i hi
      have em2 : atD dm i = m := atD_get hm
      rw [em2] at mo hk9
      have fm := I.fm.sub m (List.mem_of_getElem? hm)
      obtain ⟨m1, m2, m3⟩ := mat_parts mo
      obtain ⟨kv, b2, ys, rfl, hs2, al2⟩ := seq_of (am.keep s9) m1
      have ln2 := anyL_len al2
      have fl2 := fm.top.len
      refine ⟨.ref b2, rfl, b2, kv, ys, rfl, hs2 (fun _ _ z => z) K, fun D2 hD2 => ?_⟩
      refine lc_tup walk_seq (by omega) hD2 (fun H' s' => hs2 s' K) (fun j => .tuple ((itemsD (atD m j)).map (modD p))) (fun j hj => ?_) ?_ ?_
      · refine noL_mods (vec_parts (m3 _ ?_)).2.2
        unfold atD
        rw [List.getElem?_eq_getElem (show j < (itemsD m).length by omega)]
        exact List.getElem_mem _
      · rintro j z H10 hj hz s10 _
        refine ⟨rfl, fun k10 hk10 => ?_⟩
        obtain ⟨r, hr2, ar⟩ := anyL_at al2 hz
        have er2 : atD m j = r := atD_get hr2
        rw [er2] at hk10
        have hrm := List.mem_of_getElem? hr2
        obtain ⟨r1, r2, r3⟩ := vec_parts (m3 r hrm)
        obtain ⟨kr, b3, zs, rfl, hs3, al3⟩ := seq_of (ar.keep s10) r1
        have ln3 := anyL_len al3
        have fl3 := (fm.sub r hrm).len
        refine ⟨.ref b3, rfl, b3, kr, zs, rfl, hs3 (fun _ _ z => z) K, fun D3 hD3 => ?_⟩
        refine lc_tup walk_seq (by omega) hD3 (fun H' s' => hs3 s' K) (fun l => modD p ((itemsD r)[l]?.getD .none)) (fun l hl => ?_) ?_ ?_
        · have h1 : l < (itemsD r).length := by omega
          rw [List.getElem?_eq_getElem h1]
          have := List.all_eq_true.mp r3 _ (List.getElem_mem h1)
          show noL (modD p (itemsD r)[l]) = true
          cases hz : (itemsD r)[l] with
          | int n => rfl
          | _ => rw [hz] at this; cases this
        · rintro l u H11 hl hu s11 _
          refine ⟨rfl, fun k11 hk11 => ?_⟩
          obtain ⟨c, hc, ac⟩ := anyL_at al3 hu
          have ci := List.all_eq_true.mp r3 c (List.mem_of_getElem? hc)
          obtain ⟨n, rfl, rfl⟩ := int_of ac ci
          rw [hc] at hk11
          exact ⟨_, rfl, _, rfl, n, p, rfl, rfl, p0, hk11 _ _ (fun _ _ z => z) (.int _)⟩
        · intro H11 acc s11 ha hal
          rw [ln3, map_get (modD p) .none] at hal
          refine ⟨D3, acc, rfl, .inl ⟨SqL.of ha, fun l hl => hk10 _ _ (s11.trans (same_new hl)) (.tup upd_same (anyL_keep (same_del.trans (same_new hl)) hal))⟩⟩
      · intro H10 acc s10 ha hal
        have e3 : (List.range ys.length).map (fun j => PyData.tuple ((itemsD (atD m j)).map (modD p))) = rowsM p m := by
          rw [ln2]
          exact map_get (fun r => PyData.tuple ((itemsD r).map (modD p))) .none (itemsD m)
        rw [e3] at hal
        exact ⟨D2, acc, rfl, .inl ⟨SqL.of ha, fun l hl => hk9 _ _ (s10.trans (same_new hl)) (.tup upd_same (anyL_keep (same_del.trans (same_new hl)) hal))⟩⟩
    · intro H9 acc s9 ha hal
      have e3 : (List.range xs.length).map (fun j => PyData.tuple (rowsM p (atD dm j))) = ((itemsD dm).map (rowsM p)).map PyData.tuple := by
        rw [ln]
        have := map_get (fun r => PyData.tuple (rowsM p r)) .none (itemsD dm)
        rw [List.map_map]
        exact this
      rw [e3] at hal
      refine ⟨D, acc, rfl, .inl ⟨SqL.of ha, fun l hl => ?_⟩⟩
      have k10 := s9.trans (same_new (o := .tup acc) hl)
      have e10 := k10 _ _ e8
      refine ⟨_, rfl, a, C, dx, _, rfl, e10, R.cl, R.n4, (by show 3 < 1000; decide), ?_⟩
      have at10 := at8.keep k10
      have am10 : Any (upd H9 l (.tup acc)) (.ref l) (.tuple (((itemsD dm).map (rowsM p)).map PyData.tuple)) := .tup upd_same (anyL_keep (same_del.trans (same_new hl)) hal)
      have g11 : Grow a (upd H9 l (.tup acc)) (upd (upd H9 l (.tup acc)) a (.ins C dx (putF "_maps" (.ref l) [("_pattern", .str x), ("_prime", .int p), ("_sizes", .ref ts)]))) := Grow.put
      have kp := keeps_ins e10 g11
      exact q x p _ rfl rfl good ((G8.trans (Grow.of k10)).trans g11) ⟨dx, ts, l, upd_same, at10.keeps kp, am10.keeps kp⟩
end
end K41
set_option Elab.async false
set_option linter.all false
set_option maxRecDepth 100000
set_option maxHeartbeats 4000000
namespace Rw
open PySem PySem.Spec PyProof.Rows L2
section
variable {X : Cx}
theorem cr_range1 : CallR X (.type "range") (fun vs H Q => ∃ j, vs = [V.int j] ∧ ∀ p, H p = none → Q (.ref p) (upd H p (.rng 0 j))) := by
  intro pins s σ H vs us Q I r h
  obtain ⟨j, rfl, q⟩ := h
  obtain ⟨u1, rfl, rj⟩ := vals1 r
  obtain ⟨t, rfl⟩ := rj
  refine call_range_1 ⟨.ref s.heap.objs.size, upd H s.heap.objs.size (.rng 0 j), I.laid (t' := s.toks + 1 + 1) (fun b o e => Heap.get?_push_of_some _ e) (Nat.le_refl _) ?_, rfl, q _ (I.hok.fresh (Nat.le_refl _))⟩
  exact ⟨s.toks, t, s.toks + 1, Heap.get?_push_size _ rfl⟩
def iRngV (te : TE) : TI := fun σ H R => te σ H fun x H1 => ∃ a lo hi, x = .ref a ∧ H1 a = some (.rng lo hi) ∧ (-(2 ^ 62) ≤ lo ∧ lo < 2 ^ 62 ∧ -(2 ^ 62) ≤ hi ∧ hi < 2 ^ 62) ∧ R (Itr lo (hi - lo).toNat) H1
theorem pi_rngV {tg e : Expr} {te : TE} (he : PE X e te) : PI X tg e (iRngV te) := by
  refine ⟨fun pins s σ H R I h => ?_⟩
  refine thn (he.run pins s σ H _ I h) fun v s1 ⟨x, H1, I1, r1, q1⟩ => ?_
  obtain ⟨a, lo, hi, e, ea, ⟨h1, h2, h3, h4⟩, q⟩ := q1
  subst e
  cases r1
  obtain ⟨t, u, v, hg⟩ := (show ObjOk X.prog X.w H1 s1.heap a (.rng lo hi) from I1.hok a _ ea)
  refine wpAny_pyIter_range (show IsRange s1.heap a lo hi 1 t u v from hg) (small_one h1 h2 h3 h4) ?_
  refine ⟨s1.heap.objs.size, [s1.heap.objs.size], _, _, H1, rfl, I1.kept (t' := s1.toks) fun b o e => Heap.get?_push_of_some _ e, turn_range _ lo (hi - lo).toNat, ?_, fun b hb => ?_, q⟩
  · have e1 : lo + ((0 : Nat) : Int) * 1 = lo := by simp
    have e2 : (((hi - lo).toNat : Nat) : Int) - ((0 : Nat) : Int) = Builtin.Range.rangeSize lo hi 1 := by rw [rangeSize_one]; split <;> omega
    show IsRangeIter _ _ (lo + ((0 : Nat) : Int) * 1) ((((hi - lo).toNat : Nat) : Int) - ((0 : Nat) : Int)) 1
    rw [e1, e2]
    exact Heap.get?_push_size _ rfl
  · have e : b = s1.heap.objs.size := by simpa using hb
    subst e
    exact I1.fpOk (Nat.le_refl _) (I1.hok.fresh (Nat.le_refl _))
end
def barD (q : Nat × Nat) : PyData := .tuple [.int (q.1 : Nat), .int (q.2 : Nat)]
def partL (a j : Nat) : List (Nat × Nat) := ((List.range j).filter fun b => decide (a ≤ b)).map fun b => (a, b)
def preL (n i : Nat) : List (Nat × Nat) := (List.range i).flatMap fun a => partL a n
def barsL (n : Nat) : List (Nat × Nat) := preL n n
theorem part_len (a j : Nat) : (partL a j).length ≤ j := by
  unfold partL
  rw [List.length_map]
  exact Nat.le_trans (List.length_filter_le _ _) (by simp)
theorem pre_len (n : Nat) : ∀ i, (preL n i).length ≤ i * n
  | 0 => by simp [preL]
  | i + 1 => by
    unfold preL
    rw [List.range_succ, List.flatMap_append, List.length_append, Nat.succ_mul]
    have h1 := pre_len n i
    have h2 := part_len i n
    unfold preL at h1
    simp only [List.flatMap_cons, List.flatMap_nil, List.append_nil]
    omega
theorem pre_succ (n i : Nat) : preL n (i + 1) = preL n i ++ partL i n := by
  unfold preL
  rw [List.range_succ, List.flatMap_append]
  simp
theorem part_succ (a j : Nat) : partL a (j + 1) = if a ≤ j then partL a j ++ [(a, j)] else partL a j := by
  unfold partL
  rw [List.range_succ, List.filter_append, List.map_append]
  by_cases h : a ≤ j
  · rw [if_pos h]
    simp [h]
  · rw [if_neg h]
    simp [h]
def spBars (CT : Addr) : Sp := fun vs H Q E => ∃ v d, vs = [v] ∧ Any H v d ∧ Short d ∧ (isPatD d = false → Thrown CT v H E) ∧
  ∀ x, d = .str x → isPatD d = true → ∀ l acc H', H l = none → Same H H' → H' l = some (.lst acc) → AnyL (del H' l) acc ((barsL (x.length + 1)).map barD) → Q (.ref l) H'
def spMaps (C : Addr) : Sp := fun vs H Q _ => ∃ a x p ss mm, vs = [.ref a] ∧ RowAt C H a x p ss mm ∧ mm.length ≤ 1000 ∧ ∀ l acc H', H l = none → Same H H' → H' l = some (.lst acc) → AnyL (del H' l) acc (mm.map .list) → Q (.ref l) H'
end Rw
set_option Elab.async false
set_option linter.all false
set_option maxRecDepth 100000
set_option maxHeartbeats 4000000
namespace Rw
open PySem PySem.Spec PyProof.Rows L2
end Rw
set_option Elab.async false
set_option linter.all false
set_option maxRecDepth 100000
set_option maxHeartbeats 4000000
namespace Rw
open PySem PySem.Spec PyProof.Rows L2
def MethHere (K : PySem.W.Frag) (C : Addr) (x q : Str) (st : Stmt) : Prop := ∃ f : Addr, PySem.W.findIn K (.ref C) x = some (some (.ref f)) ∧ PySem.W.isFn K (.ref f) = true ∧ DefAt K x q st f
def TabIHere (K : PySem.W.Frag) (x : Str) (d : Addr) (kvs : List (Int × Value)) : Prop := PySem.W.nsIn K mainGlobals x = some (some (.ref d)) ∧ TabI K d kvs
def TabSHere (K : PySem.W.Frag) (w : World) (x : Str) (d : Addr) (kvs : List (Str × Value)) : Prop := PySem.W.nsIn K mainGlobals x = some (some (.ref d)) ∧ TabS K w d kvs
/-- a property of a class -/
def PropHere (K : PySem.W.Frag) (C : Addr) (x q : Str) (st : Stmt) : Prop := ∃ p g : Addr, PropOf K C x p g ∧ DefAt K x q st g
section
variable {K : PySem.W.Frag} {mg : Str → Option Value} {h : Heap}
theorem PropHere.of {C : Addr} {x q : Str} {st : Stmt} {p g : Addr} {rest : List Value} {oc : Value} {od : Option Addr} {kV dc pm : Value} {an : Option Addr} {cd ct : Value} {sl : Array (Option Value)} (a : PySem.W.findIn K (.ref C) x = some (some (.ref p)))
    (ge : PySem.W.specialIn K (.ref p) "__get__" = some (some (.builtin "property.__get__"))) (ta : PySem.W.takesIn K (.ref p) = some true) (re : PySem.W.recIn K p "property" = some (.ref g :: rest))
    (l : K.lookup g = some ⟨oc, od, .func (PySem.W.fnOf x q (defArgs st) (defBody st) (defScope st) .none kV dc pm an cd ct), sl⟩) (c : PySem.W.codeIn K cd q = true) (k : PySem.W.keepIn K (.ref g) = true) : PropHere K C x q st :=
  ⟨p, g, ⟨a, ge, ta, ⟨rest, re⟩⟩, oc, od, kV, dc, pm, an, cd, ct, sl, l, c, k⟩
theorem PropHere.pr {C : Addr} {x q : Str} {st : Stmt} {ps : List Str} (D : PropHere K C x q st)
    (b : ∀ (kV doc pm : Value) (an : Option Addr) (cdv ct : Value) (us : List Value), us.length = ps.length → bindArgs (PySem.W.fnOf x q (defArgs st) (defBody st) (defScope st) .none kV doc pm an cdv ct) ⟨us, []⟩ = pure (ps.zip us)) :
    ∃ (p g : Addr) (fd : FuncData), PropOf K C x p g ∧ Fun K x q st g fd ∧ Binds K fd ps [] := by
  obtain ⟨p, g, hp, oc, od, kV, dc, pm, an, cd, ct, sl, l, c, k⟩ := D
  have F := fun_mk (x := x) (qual := q) (st := st) l c k
  exact ⟨p, g, _, hp, F, F.binds b⟩
theorem MethHere.of {C : Addr} {x q : Str} {st : Stmt} {f : Addr} {oc : Value} {od : Option Addr} {kV dc pm : Value} {an : Option Addr} {cd ct : Value} {sl : Array (Option Value)} (g : PySem.W.findIn K (.ref C) x = some (some (.ref f))) (fn : PySem.W.isFn K (.ref f) = true)
    (l : K.lookup f = some ⟨oc, od, .func (PySem.W.fnOf x q (defArgs st) (defBody st) (defScope st) .none kV dc pm an cd ct), sl⟩) (c : PySem.W.codeIn K cd q = true) (k : PySem.W.keepIn K (.ref f) = true) : MethHere K C x q st :=
  ⟨f, g, fn, oc, od, kV, dc, pm, an, cd, ct, sl, l, c, k⟩
theorem TabIHere.of {x : Str} {d : Addr} {kvs : List (Int × Value)} {l : List DictEntry} {n : Nat} (g : PySem.W.nsIn K mainGlobals x = some (some (.ref d))) (k : K.lookup d = some ⟨.type "dict", none, .dict l.toArray n, #[]⟩) (t : IntTab l kvs) (z : (d == sysModules) = false) : TabIHere K x d kvs :=
  ⟨g, ⟨⟨l, n, k, t⟩, z⟩⟩
theorem TabSHere.of {w : World} {x : Str} {d : Addr} {kvs : List (Str × Value)} {l : List DictEntry} {n : Nat} (g : PySem.W.nsIn K mainGlobals x = some (some (.ref d))) (k : K.lookup d = some ⟨.type "dict", none, .dict l.toArray n, #[]⟩) (t : TxtTab w.params l kvs) (z : (d == sysModules) = false) : TabSHere K w x d kvs :=
  ⟨g, ⟨⟨l, n, k, t⟩, z⟩⟩
theorem MethHere.mt {C : Addr} {x q : Str} {st : Stmt} {ps : List Str} (D : MethHere K C x q st)
    (b : ∀ (kV doc pm : Value) (an : Option Addr) (cdv ct : Value) (us : List Value), us.length = ps.length → bindArgs (PySem.W.fnOf x q (defArgs st) (defBody st) (defScope st) .none kV doc pm an cdv ct) ⟨us, []⟩ = pure (ps.zip us)) :
    ∃ (f : Addr) (fd : FuncData), PySem.W.findIn K (.ref C) x = some (some (.ref f)) ∧ PySem.W.isFn K (.ref f) = true ∧ PySem.W.keepIn K (.ref f) = true ∧ Fun K x q st f fd ∧ Binds K fd ps [] := by
  obtain ⟨f, g, fn, oc, od, kV, dc, pm, an, cd, ct, sl, l, c, k⟩ := D
  have F := fun_mk (x := x) (qual := q) (st := st) l c k
  exact ⟨f, _, g, fn, k, F, F.binds b⟩
end
/-- a def with two defaults None, called with all three -/
theorem DflHere.own3 {l : PySem.Program} {w : World} {K : PySem.W.Frag} {mg : Str → Option Value} {base h : Heap} {x p1 p2 p3 : Str} {st : Stmt} {CX : CXT} {k : Nat} {sp : Sp} (D : DflHere K x st [.none, .none]) (X : K.In h) (G : h.Ns mainGlobals mg)
    (b : ∀ (T : Addr) (kV doc pm : Value) (an : Option Addr) (cdv ct : Value) (us its : List Value), us.length = 3 → its.length = 2 →
      ∃ g, bindArgs (PySem.W.fnOf x x (defArgs st) (defBody st) (defScope st) (.ref T) kV doc pm an cdv ct) ⟨us, []⟩ = seqItems? (.ref T) >>= g ∧ g (some its.toArray) = pure (([p1, p2, p3] : List Str).zip (us ++ its.drop 2)))
    (ok : ∀ (f : Addr) (fd : FuncData), FunD K x x (defArgs st) (defBody st) (defScope st) [.non, .non] [] f fd → FnOk l w K mg base CX k f fd [p1, p2, p3] sp) : Own l w K mg base CX k x [p1, p2, p3] [] sp := by
  obtain ⟨f, T', oc, od, kV, dc, pm, an, cd, ct, sl, tc, td, n, ts, g, l', c', k', lT⟩ := D
  have F : FunD K x x (defArgs st) (defBody st) (defScope st) [.non, .non] [] f _ := ⟨⟨oc, od, _, kV, dc, pm, an, cd, ct, sl, rfl, l', c', .inr ⟨by simp, T', _, [.none, .none], n, rfl, lT, rfl, .cons rfl (.cons rfl .nil)⟩, .inl rfl⟩, k'⟩
  obtain ⟨ds, v, bb⟩ := F.binds1 (ps := [p1, p2, p3]) 3 2 (by simp) rfl b
  exact ⟨f, _, ds, PySem.W.mg_of X G g, k', ok f _ F, bb, v⟩
end Rw
set_option Elab.async false
set_option linter.all false
set_option maxRecDepth 100000
set_option maxHeartbeats 4000000
namespace Rw
open PySem PySem.Spec PyProof.Rows L2
/-- what is asked of the root, over ValueError, without an own __init__ -/
structure RootC (K : PySem.W.Frag) (CR : Addr) : Prop where
  sp : PySem.W.specialIn K (.ref CR) "__getattribute__" = some (some (.builtin "type.__getattribute__"))
  ty : PySem.W.typeIn K (.ref CR) = some (.type "type")
  rd : PySem.W.readsIn K CR (.type "type") = true
  ini : PySem.W.findCls K (.ref CR) (.type "type") "__init__" = some (.val (.builtin "ValueError.__init__"))
section
variable {X : Cx} {e : Expr} {es : List Expr} {ta : TA} {p1 p2 p pos pos2 : Pos} {x : Str} {CR : Addr}
theorem pe_rootini {pl : Sem Bool} (R : RootC X.K CR) (hg : Gl X x) (hm : X.mg x = some (.ref CR)) (ha : PA X (e :: es) ta) (hdb : (x == ("__debug__" : Str)) = false := by decide)
    (hc : eval (.Call (.Attribute (.Name x p1) "__init__" p2) (e :: es) [] pos) X.env = (do
      let ov ← eval (.Name x p1) X.env
      standAt p2.atName
      let (f, first) ← holding [ov] (getMethod ov "__init__" pl)
      callWith pos f first (backTo pos (starEach (e :: es) X.env)) (backToKw pos (keywordEach [] X.env))) := by rfl)
    (he : starEach (e :: es) X.env = (false, eval e X.env) :: starEach es X.env := by rfl) (hpl : (backTo pos (starEach es X.env)).any (·.1) = false := by rfl) :
    PE X (.Call (.Attribute (.Name x p1) "__init__" p2) (e :: es) [] pos) (tVeI X.K ta) := by
  refine ⟨fun pins s σ H Q I h => ?_⟩
  refine PySem.W.methodCall_KW (ld_glob I hg hm ?_ hdb) hc
  obtain ⟨m, fr⟩ := I.fr
  refine PySem.W.method_of_cls fr I.ok.mod.kin R.sp ?_
  refine PySem.W.cls_val fr I.ok.mod.kin R.ty R.rd R.ini (by decide +kernel) ?_
  show wpAny _ _ (callWith pos (Value.builtin "ValueError.__init__") [] (backTo pos (starEach (e :: es) X.env)) []) _ _ _
  refine PyProof.Rows.callWith_method1 (thn (ha.run pos pins _ σ H _ (I.tok _) h) fun us s1 ⟨vs, H1, I1, r1, a, C, ws, ev, hl, T, ea, q⟩ => ?_) he hpl
  subst ev
  cases r1 with
  | @cons _ u0 _ ur ra rw' =>
    obtain rfl : u0 = Value.ref a := ra
    have hlen : ur.length ≤ sizeLine := by
      rw [← Paired.length rw', sizeLine_eq]
      omega
    exact oinit_ok T I1 ea hlen fun s' J => ⟨.non, H1, J, rfl, q⟩
end
/-- the body of __init__(self): RowError.__init__(self) -/
def IsIniN (K : PySem.W.Frag) (mg : Str → Option Value) (st : Stmt) : Prop := ∀ (P : Program) (w : World) (base : Heap) (q : Str) (f : Addr) (cdv : Value) (A : Around) (outer : List Env) (s : Shared) (H : Hp) (E : XK),
  ∃ t : TS, PSs (cxOf CX0 P w K mg base ["self"] q (defScope st) f cdv A outer s H E).nox (defBody st) t ∧ ∀ D σ H, tDrop (tVeI K (tCons (tVar 0) tNil)) D σ H → t D σ H
def spIniN (K : PySem.W.Frag) (C : Addr) : Sp := fun vs H Q _ => ∃ a : Addr, vs = [.ref a] ∧ H a = some (exo a C none) ∧ Q .non H
/-- x names an error class without a field, at C -/
structure ErrN (K : PySem.W.Frag) (mg : Str → Option Value) (x : Str) (C : Addr) : Prop where
  g : mg x = some (.ref C)
  ox : OexC K C
  ini : ∃ (f : Addr) (q : Str) (st : Stmt) (fd : FuncData), PySem.W.findIn K (.ref C) "__init__" = some (some (.ref f)) ∧ PySem.W.typeIn K (.ref f) = some (.type "function") ∧ Fun K "__init__" q st f fd ∧ Binds K fd ["self"] [] ∧ FnScope ["self"] ["self"] (defScope st) ∧ IsIniN K mg st
/-- an error of the class at C is let out, all else as it was -/
def ThrownN (C : Addr) (H : Hp) (E : XK) : Prop := ∀ H' : Hp, Same H H' → E (.ref C) none H'
theorem ThrownN.mono {C : Addr} {H H1 : Hp} {E : XK} (h : ThrownN C H E) (k : Same H H1) : ThrownN C H1 E := fun H' s => h H' (k.trans s)
section
variable {P : Program} {w : World} {K : PySem.W.Frag} {mg : Str → Option Value} {base : Heap}
theorem ErrN.init {x : Str} {C : Addr} (T : ErrN K mg x C) : ∃ (f : Addr) (fd : FuncData), PySem.W.findIn K (.ref C) "__init__" = some (some (.ref f)) ∧ PySem.W.typeIn K (.ref f) = some (.type "function") ∧ Binds K fd ["self"] [] ∧
    FnOk P w K mg base CX0 1 f fd ["self"] (spIniN K C) := by
  obtain ⟨f, q, st, fd, h1, h2, F, b, S, dv⟩ := T.ini
  refine ⟨f, fd, h1, h2, b, F.ok S (fun vs H Q E h => ?_) (fun cdv A outer s H vs Q E hr h => ?_)⟩
  · obtain ⟨a, e, _⟩ := h
    rw [e]
    rfl
  · obtain ⟨a, e, ea, k⟩ := h
    subst e
    obtain ⟨t, d, go⟩ := dv P w base q f cdv A outer s H E
    refine ⟨t, d, go _ _ _ ?_⟩
    exact ⟨_, rfl, a, C, [], rfl, by decide, T.ox, ea, k⟩
end
/-- such a class of the text -/
def ErrNHere (K : PySem.W.Frag) (x q : Str) (st : Stmt) (R C : Addr) : Prop :=
  ∃ (f N : Addr) (nm qn : Str) (bs : List Value) (sn : List Str) (sub : List Value) (ab : Bool) (col : Option Bool) (dd : Option Addr) (m0 m1 m2 m3 m5 : Option Value), PySem.W.nsIn K mainGlobals x = some (some (.ref C)) ∧
    K.lookup C = some (excClassObj nm qn C N bs [.ref R, .type "ValueError", .type "Exception", .type "BaseException", .type "object"] true sn sub ab col dd m0 m1 m2 m3 m5 "ValueError.__new__") ∧
    PySem.W.findIn K (.ref C) "__setattr__" = some (some (.builtin "object.__setattr__")) ∧ PySem.W.findIn K (.ref C) "__init__" = some (some (.ref f)) ∧ PySem.W.typeIn K (.ref f) = some (.type "function") ∧ DefAt K "__init__" q st f ∧
    PySem.W.keepIn K (.ref C) = true ∧ PySem.W.subIn K (.ref C) (.type "BaseException") = some true ∧ PySem.W.typeIn K (.ref C) = some (.type "type")
section
variable {K : PySem.W.Frag} {mg : Str → Option Value} {h : Heap}
theorem ErrNHere.err {x q : Str} {st : Stmt} {R C : Addr} (E : ErrNHere K x q st R C) (X : K.In h) (G : h.Ns mainGlobals mg) (S : FnScope ["self"] ["self"] (defScope st)) (I : IsIniN K mg st)
    (b : ∀ (kV doc pm : Value) (an : Option Addr) (cdv ct : Value) (us : List Value), us.length = 1 → bindArgs (PySem.W.fnOf "__init__" q (defArgs st) (defBody st) (defScope st) .none kV doc pm an cdv ct) ⟨us, []⟩ = pure ((["self"] : List Str).zip us)) : ErrN K mg x C := by
  obtain ⟨f, N, nm, qn, bs, sn, sub, ab, col, dd, m0, m1, m2, m3, m5, g, l, sa, ini, ty, ⟨oc, od, kV, dc, pm, an, cd, ct, sl, lf, cf, kf⟩, kc, ex, tc⟩ := E
  have F := fun_mk (x := "__init__") (qual := q) (st := st) lf cf kf
  exact {
    g := PySem.W.mg_of X G g
    ox := ⟨⟨nm, qn, N, bs, _, sn, sub, ab, col, dd, m0, m1, m2, m3, m5, l, rfl⟩, sa, ex, tc, kc⟩
    ini := ⟨f, q, st, _, ini, ty, F, F.binds b, S, I⟩ }
theorem ErrNHere.of {x q : Str} {st : Stmt} {R C f N : Addr} {nm qn : Str} {bs : List Value} {sn : List Str} {sub : List Value} {ab : Bool} {col : Option Bool} {dd : Option Addr} {m0 m1 m2 m3 m5 : Option Value}
    {oc : Value} {od : Option Addr} {kV dc pm : Value} {an : Option Addr} {cd ct : Value} {sl : Array (Option Value)} (g : PySem.W.nsIn K mainGlobals x = some (some (.ref C)))
    (xl : K.lookup C = some (excClassObj nm qn C N bs [.ref R, .type "ValueError", .type "Exception", .type "BaseException", .type "object"] true sn sub ab col dd m0 m1 m2 m3 m5 "ValueError.__new__"))
    (sa : PySem.W.findIn K (.ref C) "__setattr__" = some (some (.builtin "object.__setattr__"))) (ini : PySem.W.findIn K (.ref C) "__init__" = some (some (.ref f))) (ty : PySem.W.typeIn K (.ref f) = some (.type "function"))
    (l : K.lookup f = some ⟨oc, od, .func (PySem.W.fnOf "__init__" q (defArgs st) (defBody st) (defScope st) .none kV dc pm an cd ct), sl⟩) (c : PySem.W.codeIn K cd q = true) (k : PySem.W.keepIn K (.ref f) = true)
    (kc : PySem.W.keepIn K (.ref C) = true) (ex : PySem.W.subIn K (.ref C) (.type "BaseException") = some true) (tc : PySem.W.typeIn K (.ref C) = some (.type "type")) : ErrNHere K x q st R C :=
  ⟨f, N, nm, qn, bs, sn, sub, ab, col, dd, m0, m1, m2, m3, m5, g, xl, sa, ini, ty, ⟨oc, od, kV, dc, pm, an, cd, ct, sl, l, c, k⟩, kc, ex, tc⟩
end
end Rw
set_option Elab.async false
set_option linter.all false
set_option maxRecDepth 100000
set_option maxHeartbeats 4000000
namespace Rw
open PySem PySem.Spec PyProof.Rows L2
end Rw
set_option Elab.async false
set_option linter.all false
set_option maxRecDepth 100000
set_option maxHeartbeats 4000000
namespace Rw
open PySem PySem.Spec PyProof.Rows L2
theorem list_len (t : Str) (r : List Str) : (listText (t :: r)).length = t.length + piled r + 2 := by
  have a : (listText (t :: r)).length = (textFrom 1 (("[" : Str) ++ (if (0 : Nat) > 0 then ", " else "" : String) ++ t) r).length + 1 := by
    show (textFrom 0 "[" (t :: r) ++ "]").length = _
    rw [strLen_append]
    rfl
  rw [a, textFrom_length_pos r 1 _ (by decide), strLen_append, strLen_append]
  show 1 + 0 + t.length + piled r + 1 = _
  omega
/-- small enough, at the n-th level of lists -/
structure Tm (n : Nat) (d : PyData) : Prop where
  sh : d.showable = true
  dp : d.depth ≤ 3 + n
  ln : d.shown.length ≤ 50 * 8 ^ n
theorem Tm.up {n m : Nat} {d : PyData} (h : Tm n d) (l : n ≤ m) : Tm m d := ⟨h.sh, by have := h.dp; omega, Nat.le_trans h.ln (Nat.mul_le_mul_left _ (Nat.pow_le_pow_right (by decide) l))⟩
theorem piled_le {B : Nat} : ∀ {ts : List Str}, (∀ t ∈ ts, t.length ≤ B) → piled ts ≤ ts.length * (B + 2)
  | [], _ => by rw [piled_nil]; exact Nat.zero_le _
  | t :: ts, h => by
    rw [piled_cons, List.length_cons, Nat.succ_mul]
    have a := h t List.mem_cons_self
    have b := piled_le (ts := ts) fun x hx => h x (List.mem_cons_of_mem _ hx)
    omega
theorem shownAll_map : ∀ ds : List PyData, PyData.shownAll ds = ds.map PyData.shown
  | [] => by simp only [PyData.shownAll]; rfl
  | d :: ds => by
    simp only [PyData.shownAll]
    rw [shownAll_map ds] <;> rfl
theorem tm_all {n : Nat} : ∀ {ds : List PyData}, (∀ d ∈ ds, Tm n d) → PyData.showableAll ds = true ∧ PyData.depthAll ds ≤ 3 + n ∧ ∀ t ∈ PyData.shownAll ds, t.length ≤ 50 * 8 ^ n
  | [], _ => ⟨by simp only [PyData.showableAll], by simp only [PyData.depthAll]; omega, fun t ht => by simp only [PyData.shownAll] at ht; cases ht⟩
  | d :: ds, h => by
    obtain ⟨a, b, c⟩ := tm_all (ds := ds) fun x hx => h x (List.mem_cons_of_mem _ hx)
    have e := h d List.mem_cons_self
    refine ⟨?_, ?_, ?_⟩
    · simp only [PyData.showableAll, e.sh, a, Bool.and_self]
    · simp only [PyData.depthAll]
      have := e.dp
      omega
    · intro t ht
      simp only [PyData.shownAll] at ht
      rcases List.mem_cons.mp ht with z | z
      · rw [z]
        exact e.ln
      · exact c t z
theorem tm_num {n : Nat} {k : Nat} (l : k ≤ 6) : k * (50 * 8 ^ n + 2) + 3 ≤ 50 * 8 ^ (n + 1) := by
  have p : 0 < 8 ^ n := Nat.pow_pos (by decide)
  have q : k * (50 * 8 ^ n + 2) ≤ 6 * (50 * 8 ^ n + 2) := Nat.mul_le_mul_right _ l
  rw [Nat.pow_succ]
  omega
theorem tm_list {n : Nat} {ds : List PyData} (l : ds.length ≤ 6) (h : ∀ d ∈ ds, Tm n d) : Tm (n + 1) (.list ds) := by
  obtain ⟨a, b, c⟩ := tm_all h
  refine ⟨by simp only [PyData.showable]; exact a, by simp only [PyData.depth]; omega, ?_⟩
  simp only [PyData.shown]
  have ln : (PyData.shownAll ds).length = ds.length := by rw [shownAll_map, List.length_map]
  have z := tm_num (n := n) l
  generalize PyData.shownAll ds = ts at c ln
  cases ts with
  | nil =>
    have e : (listText []).length = 2 := rfl
    rw [e]
    omega
  | cons t r =>
    rw [list_len]
    have p := piled_le c
    rw [piled_cons, ln] at p
    omega
theorem tm_tup {n : Nat} {ds : List PyData} (l : ds.length ≤ 6) (h : ∀ d ∈ ds, Tm n d) : Tm (n + 1) (.tuple ds) := by
  obtain ⟨a, b, c⟩ := tm_all h
  refine ⟨by simp only [PyData.showable]; exact a, by simp only [PyData.depth]; omega, ?_⟩
  simp only [PyData.shown]
  have ln : (PyData.shownAll ds).length = ds.length := by rw [shownAll_map, List.length_map]
  have z := tm_num (n := n) l
  generalize PyData.shownAll ds = ts at c ln
  have p := piled_le c
  rw [ln] at p
  have e : (tupleText ts).length ≤ 1 + (Str.join ", " ts).length + 2 := by
    show (("(" : Str) ++ Str.join ", " ts ++ (if ts.length == 1 then ",)" else ")" : String)).length ≤ _
    rw [strLen_append, strLen_append]
    have e1 : (("(" : String) : Str).length = 1 := rfl
    have e2 : ((if ts.length == 1 then ",)" else ")" : String) : Str).length ≤ 2 := by
      split
      · exact Nat.le_of_eq rfl
      · exact Nat.le_succ_of_le (Nat.le_of_eq rfl)
    omega
  cases ts with
  | nil =>
    have e3 : (Str.join ", " []).length = 0 := rfl
    omega
  | cons t r =>
    have e3 := join_length_add (t :: r) (by simp)
    omega
theorem int_len {n : Int} (h : n.natAbs < 10 ^ 40) : (PyData.int n).shown.length ≤ 41 := by
  simp only [PyData.shown]
  show (Str.ofString (toString n)).length ≤ 41
  rw [PySem.ofString_length]
  exact int_text_length_le10 (by decide) h
theorem log2_small {n : Int} (h : n.natAbs < 10 ^ 40) : n.natAbs.log2 < 400 := by
  by_cases z : n.natAbs = 0
  · rw [z]
    decide
  · exact (Nat.log2_lt z).mpr (Nat.lt_trans h (by decide +kernel))
theorem tm_int {n : Int} (h : n.natAbs < 10 ^ 40) : Tm 0 (.int n) := by
  refine ⟨?_, by simp only [PyData.depth]; omega, Nat.le_trans (int_len h) (by decide)⟩
  simp only [PyData.showable]
  exact decide_eq_true (Nat.lt_trans (log2_small h) (by decide))
def smallB (d : PyData) : Bool := match d with
  | .int n => decide (n.natAbs < 10 ^ 40) | _ => true
/-- a cell: an int that is not great, or an odd thing -/
structure Cell (d : PyData) : Prop where
  tm : Tm 0 d
  f1 : Fit1 d
  f2 : Fit d
  sm : smallB d = true
theorem fit1_flat {d : PyData} (e : itemsD d = []) : Fit1 d := ⟨by rw [e]; exact Nat.zero_le _, fun n h => by rw [e] at h; cases h⟩
theorem fit_flat {d : PyData} (e : itemsD d = []) : Fit d := ⟨fit1_flat e, fun x h => by rw [e] at h; cases h⟩
theorem cell_int {n : Int} (h : n.natAbs < 10 ^ 40) : Cell (.int n) := ⟨tm_int h, fit1_flat rfl, fit_flat rfl, decide_eq_true h⟩
theorem fit1_of {d : PyData} {ds : List PyData} (e : itemsD d = ds) (l : ds.length ≤ 1000) (h : ∀ x ∈ ds, smallB x = true) : Fit1 d :=
  ⟨by rw [e]; exact l, fun n hn => by rw [e] at hn; exact log2_small (of_decide_eq_true (h _ hn))⟩
/-- a row: a cell, or a list of few cells -/
structure RowT (d : PyData) : Prop where
  tm : Tm 1 d
  f1 : Fit1 d
  sm : smallB d = true
theorem Cell.row {d : PyData} (c : Cell d) : RowT d := ⟨c.tm.up (by decide), c.f1, c.sm⟩
theorem row_list {ds : List PyData} (l : ds.length ≤ 6) (h : ∀ d ∈ ds, Cell d) : RowT (.list ds) := ⟨tm_list l fun d hd => (h d hd).tm, fit1_of (ds := ds) rfl (by omega) fun x hx => (h x hx).sm, rfl⟩
/-- a sheet: a cell, or few rows -/
structure SheetT (d : PyData) : Prop where
  tm : Tm 2 d
  f : Fit d
  few : (itemsD d).length ≤ 6
theorem sheet_list {ds : List PyData} (l : ds.length ≤ 6) (h : ∀ d ∈ ds, RowT d) : SheetT (.list ds) := ⟨tm_list l fun d hd => (h d hd).tm, ⟨fit1_of (ds := ds) rfl (by omega) fun x hx => (h x hx).sm, fun e he => (h e he).f1⟩, l⟩
end Rw
set_option Elab.async false
set_option linter.all false
set_option maxRecDepth 100000
set_option maxHeartbeats 4000000
namespace Rw
open PySem PySem.Spec PyProof.Rows L2
def S : Nat → (Nat → Int) → Int
  | 0, _ => 0
  | n + 1, f => S n f + f n
theorem S_sum (f : Nat → Int) : ∀ n, ((List.range n).map f).sum = S n f
  | 0 => rfl
  | n + 1 => by
    rw [List.range_succ, List.map_append, List.sum_append, S_sum f n]
    show S n f + (f n + 0) = S n f + f n
    omega
theorem S_congr {f g : Nat → Int} : ∀ {n : Nat}, (∀ i, i < n → f i = g i) → S n f = S n g
  | 0, _ => rfl
  | n + 1, h => by
    show S n f + f n = S n g + g n
    rw [S_congr (n := n) fun i hi => h i (by omega), h n (by omega)]
theorem S_add (f g : Nat → Int) : ∀ n, S n (fun i => f i + g i) = S n f + S n g
  | 0 => rfl
  | n + 1 => by
    show S n (fun i => f i + g i) + (f n + g n) = (S n f + f n) + (S n g + g n)
    rw [S_add f g n]
    omega
theorem S_zero : ∀ n, S n (fun _ => 0) = 0
  | 0 => rfl
  | n + 1 => by
    show S n (fun _ => 0) + 0 = 0
    rw [S_zero n] <;> rfl
theorem S_swap (f : Nat → Nat → Int) (m : Nat) : ∀ n, S n (fun i => S m (fun k => f i k)) = S m (fun k => S n (fun i => f i k))
  | 0 => by
    show (0 : Int) = S m (fun _ => 0)
    rw [S_zero]
  | n + 1 => by
    show S n (fun i => S m (fun k => f i k)) + S m (fun k => f n k) = S m (fun k => S n (fun i => f i k) + f n k)
    rw [S_swap f m n, S_add]
theorem S_mod (p : Int) {f g : Nat → Int} : ∀ {n : Nat}, (∀ i, i < n → f i % p = g i % p) → S n f % p = S n g % p
  | 0, _ => rfl
  | n + 1, h => by
    show (S n f + f n) % p = (S n g + g n) % p
    rw [Int.add_emod, S_mod p (n := n) fun i hi => h i (by omega), h n (by omega), ← Int.add_emod]
mutual
theorem any_dp {K : PySem.W.Frag} {H : Hp} : ∀ (d : PyData) (v : V), Any H v d → d.canLay0 = true → Dp K H v d
  | .none, _, h, _ => by
    cases h
    exact .non
  | .bool b, _, h, _ => by
    cases h
    exact .bl b
  | .int i, _, h, _ => by
    cases h
    exact .int i
  | .str x, _, h, _ => by
    cases h
    exact .str x
  | .list ds, _, h, c => by
    cases h with
    | lst e a => exact .lst (SqL.of e) (any_dpL ds _ a (by simpa [PyData.canLay0] using c))
  | .tuple ds, _, h, c => by
    cases h with
    | tup e a => exact .tup (SqT.of e) (any_dpL ds _ a (by simpa [PyData.canLay0] using c))
  | .dict ds, _, h, c => by simp [PyData.canLay0] at c
theorem any_dpL {K : PySem.W.Frag} {H : Hp} : ∀ (ds : List PyData) (vs : List V), AnyL H vs ds → PyData.canLayAll0 ds = true → DpAll K H vs ds
  | [], _, h, _ => by
    cases h
    exact .nil
  | d :: ds, _, h, c => by
    have c' : d.canLay0 = true ∧ PyData.canLayAll0 ds = true := by simpa [PyData.canLayAll0] using c
    cases h with
    | cons a b => exact .cons (any_dp d _ a c'.1) (any_dpL ds _ b c'.2)
end
theorem lay_all : ∀ {ds : List PyData}, (∀ d, d ∈ ds → d.canLay0 = true) → PyData.canLayAll0 ds = true
  | [], _ => by simp [PyData.canLayAll0]
  | d :: ds, h => by simp [PyData.canLayAll0, h d List.mem_cons_self, lay_all (ds := ds) fun x hx => h x (List.mem_cons_of_mem _ hx)]
theorem lay_list {ds : List PyData} (h : ∀ d, d ∈ ds → d.canLay0 = true) : (PyData.list ds).canLay0 = true := by
  simp [PyData.canLay0, lay_all h]
theorem eq_same {K : PySem.W.Frag} {H : Hp} {x y : V} {d : PyData} {Q : VK} (a : Any H x d) (b : Any H y d) (c : d.canLay0 = true) (l : d.depth ≤ 64) (q : Q (.bl true) H) : rEqD K x y H Q := by
  have s : SeqAt.shaped d = true := by
    unfold SeqAt.shaped
    rw [c, decide_eq_true l] <;> rfl
  refine ⟨d, d, any_dp d x a c, any_dp d y b c, s, s, ?_⟩
  rw [SeqAt.eqv_refl d c]
  exact q
end Rw
set_option Elab.async false
set_option linter.all false
set_option maxRecDepth 100000
set_option maxHeartbeats 4000000
namespace Rw
open PySem PySem.Spec PyProof.Rows L2
/-- small enough, at the n-th level of lists of at most twelve items -/
structure Tq (n : Nat) (d : PyData) : Prop where
  sh : d.showable = true
  dp : d.depth ≤ 3 + n
  ln : d.shown.length ≤ 80 * 13 ^ n
theorem Tq.up {n m : Nat} {d : PyData} (h : Tq n d) (l : n ≤ m) : Tq m d := ⟨h.sh, by have := h.dp; omega, Nat.le_trans h.ln (Nat.mul_le_mul_left _ (Nat.pow_le_pow_right (by decide) l))⟩
theorem Tm.q {n : Nat} {d : PyData} (h : Tm n d) : Tq n d := ⟨h.sh, h.dp, Nat.le_trans h.ln (Nat.mul_le_mul (by decide) (Nat.pow_le_pow_left (by decide) n))⟩
theorem tq_all {n : Nat} : ∀ {ds : List PyData}, (∀ d ∈ ds, Tq n d) → PyData.showableAll ds = true ∧ PyData.depthAll ds ≤ 3 + n ∧ ∀ t ∈ PyData.shownAll ds, t.length ≤ 80 * 13 ^ n
  | [], _ => ⟨by simp only [PyData.showableAll], by simp only [PyData.depthAll]; omega, fun t ht => by simp only [PyData.shownAll] at ht; cases ht⟩
  | d :: ds, h => by
    obtain ⟨a, b, c⟩ := tq_all (ds := ds) fun x hx => h x (List.mem_cons_of_mem _ hx)
    have e := h d List.mem_cons_self
    refine ⟨?_, ?_, ?_⟩
    · simp only [PyData.showableAll, e.sh, a, Bool.and_self]
    · simp only [PyData.depthAll]
      have := e.dp
      omega
    · intro t ht
      simp only [PyData.shownAll] at ht
      rcases List.mem_cons.mp ht with z | z
      · rw [z]
        exact e.ln
      · exact c t z
theorem tq_num {n : Nat} {k : Nat} (l : k ≤ 12) : k * (80 * 13 ^ n + 2) + 3 ≤ 80 * 13 ^ (n + 1) := by
  have p : 0 < 13 ^ n := Nat.pow_pos (by decide)
  have q : k * (80 * 13 ^ n + 2) ≤ 12 * (80 * 13 ^ n + 2) := Nat.mul_le_mul_right _ l
  rw [Nat.pow_succ]
  omega
theorem tq_list {n : Nat} {ds : List PyData} (l : ds.length ≤ 12) (h : ∀ d ∈ ds, Tq n d) : Tq (n + 1) (.list ds) := by
  obtain ⟨a, b, c⟩ := tq_all h
  refine ⟨by simp only [PyData.showable]; exact a, by simp only [PyData.depth]; omega, ?_⟩
  simp only [PyData.shown]
  have ln : (PyData.shownAll ds).length = ds.length := by rw [shownAll_map, List.length_map]
  have z := tq_num (n := n) l
  generalize PyData.shownAll ds = ts at c ln
  cases ts with
  | nil =>
    have e : (listText []).length = 2 := rfl
    rw [e]
    omega
  | cons t r =>
    rw [list_len]
    have p := piled_le c
    rw [piled_cons, ln] at p
    omega
theorem tq_tup {n : Nat} {ds : List PyData} (l : ds.length ≤ 12) (h : ∀ d ∈ ds, Tq n d) : Tq (n + 1) (.tuple ds) := by
  obtain ⟨a, b, c⟩ := tq_all h
  refine ⟨by simp only [PyData.showable]; exact a, by simp only [PyData.depth]; omega, ?_⟩
  simp only [PyData.shown]
  have ln : (PyData.shownAll ds).length = ds.length := by rw [shownAll_map, List.length_map]
  have z := tq_num (n := n) l
  generalize PyData.shownAll ds = ts at c ln
  have p := piled_le c
  rw [ln] at p
  have e : (tupleText ts).length ≤ 1 + (Str.join ", " ts).length + 2 := by
    show (("(" : Str) ++ Str.join ", " ts ++ (if ts.length == 1 then ",)" else ")" : String)).length ≤ _
    rw [strLen_append, strLen_append]
    have e1 : (("(" : String) : Str).length = 1 := rfl
    have e2 : ((if ts.length == 1 then ",)" else ")" : String) : Str).length ≤ 2 := by
      split
      · exact Nat.le_of_eq rfl
      · exact Nat.le_succ_of_le (Nat.le_of_eq rfl)
    omega
  cases ts with
  | nil =>
    have e3 : (Str.join ", " []).length = 0 := rfl
    omega
  | cons t r =>
    have e3 := join_length_add (t :: r) (by simp)
    omega
theorem tq_int {n : Int} (h : n.natAbs < 10 ^ 40) : Tq 0 (.int n) := (tm_int h).q
theorem bx_at {H : Hp} {p : Addr} {n : Nat} (b : Bx H p n) : ∃ xs, H p = some (.lst xs) := by
  obtain ⟨_, _, _, e, _⟩ := b
  exact ⟨_, e⟩
def tupI (ns : List Int) : PyData := .tuple (ns.map .int)
def sheetD (m : List (List Int)) : PyData := .list (m.map tupI)
def natD (s : Nat) : PyData := .int (s : Nat)
def draftD (x : Str) (q : Int) (ss : List Nat) (ms : List (List (List Int))) : PyData := .list [.str x, .int q, .list (ss.map natD), .list (ms.map sheetD)]
structure MatOk (q : Int) (h w : Nat) (m : List (List Int)) : Prop where
  h : m.length = h
  w : ∀ r, r ∈ m → r.length = w ∧ ∀ e, e ∈ r → 0 ≤ e ∧ e < q
structure Draft (x : Str) (q : Int) (most : Nat) (ss : List Nat) (ms : List (List (List Int))) : Prop where
  sl : ss.length = x.length + 1
  sb : ∀ s, s ∈ ss → s ≤ most
  ml : ms.length = x.length
  mo : ∀ i m, ms[i]? = some m → MatOk q (ss[stA x i]?.getD 0) (ss[goA x i]?.getD 0) m
theorem noL_tupI (r : List Int) : noL (tupI r) = true := by
  show noLs (r.map PyData.int) = true
  refine noLs_of fun d hd => ?_
  obtain ⟨n, _, rfl⟩ := List.mem_map.mp hd
  rfl
/-- the pattern of a draw -/
structure Pat (x : Str) (m : Nat) : Prop where
  l : x.length ≤ m
  a : x.cps.toList.all isArr = true
def spPrimeR : Sp := fun vs H Q _ => ∃ (p : Addr) (n : Nat), vs = [.ref p] ∧ Bx H p n ∧ n ≤ 900000 ∧ ∀ q H', q ∈ primesL → Grow p H H' → Bx H' p (n + 1) → Q (.int q) H'
end Rw
set_option Elab.async false
set_option linter.all false
set_option maxRecDepth 100000
set_option maxHeartbeats 4000000
namespace Rw
open PySem PySem.Spec PyProof.Rows L2
def wD (x : Str) (d : PyData) : PyData := .list [.str x, d]
theorem nats_ok {ss : List Nat} {k : Nat} (l : ss.length = k + 1) (h : ∀ s, s ∈ ss → s ≤ 6) : sizesOk k (.list (ss.map natD)) = true := by
  unfold sizesOk
  rw [Bool.and_eq_true, Bool.and_eq_true]
  refine ⟨rfl, decide_eq_true (by show (ss.map natD).length = _; rw [List.length_map]; exact l), List.all_eq_true.mpr fun d hd => ?_⟩
  obtain ⟨s, hs, rfl⟩ := List.mem_map.mp hd
  have := h s hs
  show (decide ((0 : Int) ≤ (s : Nat)) && decide (((s : Nat) : Int) ≤ 6)) = true
  rw [Bool.and_eq_true]
  exact ⟨decide_eq_true (by omega), decide_eq_true (by omega)⟩
theorem nats_sz {ss : List Nat} {j : Nat} : szL (.list (ss.map natD)) j = ((ss[j]?.getD 0 : Nat) : Int) := by
  unfold szL atD
  show intN ((ss.map natD)[j]?.getD .none) = _
  rw [List.getElem?_map]
  cases ss[j]? <;> rfl
end Rw
set_option Elab.async false
set_option linter.all false
set_option maxRecDepth 100000
set_option maxHeartbeats 4000000
namespace Rw
open PySem PySem.Spec PyProof.Rows L2
theorem fmod_id {e q : Int} (h0 : 0 ≤ e) (h1 : e < q) : e.fmod q = e := by
  rw [fmod_pos (by omega)]
  exact Int.emod_eq_of_lt h0 h1
theorem rows_id {q : Int} {h w : Nat} {m : List (List Int)} (k : MatOk q h w m) : rowsM q (sheetD m) = m.map tupI := by
  unfold rowsM
  show (m.map tupI).map (fun r => PyData.tuple ((itemsD r).map (modD q))) = _
  rw [List.map_map]
  refine List.map_congr_left fun r hr => ?_
  show PyData.tuple (((r.map PyData.int)).map (modD q)) = _
  rw [List.map_map]
  unfold tupI
  congr 1
  refine List.map_congr_left fun e he => ?_
  obtain ⟨h0, h1⟩ := (k.w r hr).2 e he
  show PyData.int (e.fmod q) = _
  rw [fmod_id h0 h1]
theorem mat_is {q : Int} {h w : Nat} {m : List (List Int)} (k : MatOk q h w m) : isMatD (h : Nat) (w : Nat) (sheetD m) = true := by
  unfold isMatD
  rw [Bool.and_eq_true, Bool.and_eq_true]
  refine ⟨rfl, decide_eq_true (by show (((m.map tupI).length : Nat) : Int) = _; rw [List.length_map, k.h]), List.all_eq_true.mpr fun d hd => ?_⟩
  obtain ⟨r, hr, rfl⟩ := List.mem_map.mp hd
  unfold isVecD
  rw [Bool.and_eq_true, Bool.and_eq_true]
  refine ⟨rfl, decide_eq_true (by show (((r.map PyData.int).length : Nat) : Int) = _; rw [List.length_map, (k.w r hr).1]), List.all_eq_true.mpr fun e he => ?_⟩
  obtain ⟨n, _, rfl⟩ := List.mem_map.mp he
  rfl
theorem draft_at {ms : List (List (List Int))} {i : Nat} {m : List (List Int)} (h : ms[i]? = some m) : atD (.list (ms.map sheetD)) i = sheetD m := atD_get (by
  show (ms.map sheetD)[i]? = _
  rw [List.getElem?_map, h] <;> rfl)
theorem draft_good {x : Str} {q : Int} {most : Nat} {ss : List Nat} {ms : List (List (List Int))} (d : Draft x q most ss ms) (px : Pat x 6) (hq : q ∈ primesL) (m6 : most ≤ 6) : rowGood x q (.list (ss.map natD)) (.list (ms.map sheetD)) = true := by
  unfold rowGood
  have e1 : isPatD (.str x) = true := by
    show (decide (x.length ≤ 6) && x.cps.toList.all isArr) = true
    rw [decide_eq_true px.l, px.a] <;> rfl
  have e2 : isPr (.int q) = true := decide_eq_true hq
  have e3 : mapsOk x.length (.list (ms.map sheetD)) = true := by
    unfold mapsOk
    rw [Bool.and_eq_true]
    exact ⟨rfl, decide_eq_true (by show (ms.map sheetD).length = _; rw [List.length_map, d.ml])⟩
  have e4 : badAt x (.list (ss.map natD)) (.list (ms.map sheetD)) = none := bad_none fun j hj => by
    have hj2 : j < ms.length := by rw [d.ml]; exact hj
    have h1 : ms[j]? = some ms[j] := List.getElem?_eq_getElem hj2
    unfold matOk
    rw [draft_at h1, nats_sz, nats_sz]
    exact mat_is (d.mo j _ h1)
  rw [e1, e2, nats_ok d.sl (fun s hs => Nat.le_trans (d.sb s hs) m6), e3, e4] <;> rfl
theorem draft_rows {x : Str} {q : Int} {most : Nat} {ss : List Nat} {ms : List (List (List Int))} (d : Draft x q most ss ms) : (itemsD (.list (ms.map sheetD))).map (rowsM q) = ms.map fun m => m.map tupI := by
  show (ms.map sheetD).map (rowsM q) = _
  rw [List.map_map]
  refine List.map_congr_left fun m hm => ?_
  obtain ⟨i, hi⟩ := List.getElem?_of_mem hm
  exact rows_id (d.mo i m hi)
theorem mat_small {q : Int} {h w : Nat} {m : List (List Int)} (k : MatOk q h w m) (hq : q ∈ primesL) (h6 : h ≤ 6) (w6 : w ≤ 6) : Fit (sheetD m) ∧ SheetT (sheetD m) := by
  have pp := prime_pos hq
  have cell : ∀ r, r ∈ m → ∀ d, d ∈ r.map PyData.int → Cell d := fun r hr d hd => by
    obtain ⟨e, he, rfl⟩ := List.mem_map.mp hd
    obtain ⟨h0, h1⟩ := (k.w r hr).2 e he
    exact cell_int (Nat.lt_of_le_of_lt (by omega : e.natAbs ≤ 13) (by decide))
  have lr : ∀ r, r ∈ m → (r.map PyData.int).length ≤ 6 := fun r hr => by rw [List.length_map, (k.w r hr).1]; exact w6
  have lm : (m.map tupI).length ≤ 6 := by rw [List.length_map, k.h]; exact h6
  have row : ∀ d, d ∈ m.map tupI → RowT d := fun d hd => by
    obtain ⟨r, hr, rfl⟩ := List.mem_map.mp hd
    exact ⟨tm_tup (lr r hr) fun d hd => (cell r hr d hd).tm, fit1_of (ds := r.map PyData.int) rfl (by have := lr r hr; omega) fun d hd => (cell r hr d hd).sm, rfl⟩
  have s := sheet_list lm row
  exact ⟨s.f, s⟩
theorem get_le {ss : List Nat} {most : Nat} (h : ∀ s, s ∈ ss → s ≤ most) (j : Nat) : ss[j]?.getD 0 ≤ most := by
  cases e : ss[j]? with
  | none => exact Nat.zero_le _
  | some s => exact h s (List.mem_of_getElem? e)
theorem draft_sheet {x : Str} {q : Int} {most : Nat} {ss : List Nat} {ms : List (List (List Int))} (d : Draft x q most ss ms) (hq : q ∈ primesL) (m6 : most ≤ 6) : ∀ e, e ∈ ms.map sheetD → SheetT e := by
  intro e he
  obtain ⟨m, hm, rfl⟩ := List.mem_map.mp he
  obtain ⟨i, hi⟩ := List.getElem?_of_mem hm
  exact (mat_small (d.mo i m hi) hq (Nat.le_trans (get_le d.sb _) m6) (Nat.le_trans (get_le d.sb _) m6)).2
theorem draft_fitM {x : Str} {q : Int} {most : Nat} {ss : List Nat} {ms : List (List (List Int))} (d : Draft x q most ss ms) (px : Pat x 6) (hq : q ∈ primesL) (m6 : most ≤ 6) : FitM (.list (ms.map sheetD)) :=
  ⟨by show (ms.map sheetD).length ≤ _; rw [List.length_map, d.ml]; have := px.l; omega, fun e he => (draft_sheet d hq m6 e he).f⟩
/-- the class of rows, its methods at hand -/
structure RowsAt (P : Program) (w : World) (K : PySem.W.Frag) (mg : Str → Option Value) (base : Heap) (C CT CP CZ CA CM : Addr) : Prop where
  g : mg "Row" = some (.ref C)
  cl : Cls K C
  ini : ∃ (f : Addr) (fd : FuncData), Mk K C f ∧ FnOk P w K mg base (L2.CX P w) 6 f fd ["self", "pattern", "prime", "sizes", "maps"] (spIniR C CT CP CZ CA CM) ∧ Binds K fd ["self", "pattern", "prime", "sizes", "maps"] []
section
variable {X : Cx} {C CT CP CZ CA CM : Addr} {p pos : Pos} {e : Expr} {es : List Expr} {t : TA}
def tRowN (C CT CP CZ CA CM : Addr) (E : XK) (t : TA) : TE := fun σ H Q => t σ H fun vs H1 => tRowMk C CT CP CZ CA CM H1 vs Q E
theorem pe_rowN {E : XK} (R : RowsAt X.prog X.w X.K X.mg X.base C CT CP CZ CA CM) (hr : Room 7 X.A) (hx : Passes (L2.CX X.prog X.w) X E) (ha : PA X (e :: es) t) (hg : Gl X "Row" := by rfl)
    (he : starEach (e :: es) X.env = (false, eval e X.env) :: starEach es X.env := by rfl) (hpl : (backTo pos (starEach es X.env)).any (·.1) = false := by rfl) : PE X (.Call (.Name "Row" p) (e :: es) [] pos) (tRowN C CT CP CZ CA CM E t) := by
  obtain ⟨f, fd, M, F, hb⟩ := R.ini
  refine ⟨fun pins s σ H Q I h => ?_⟩
  refine wpAny_Call_Name_kw (ld_glob I hg R.g ?_ (by decide))
  refine PySem.W.callWith_K (h₀ := X.base) I.ok.mod.kin M.kp (thn (ha.run pos pins s σ H _ I h) fun us s1 ⟨vs, H1, I1, r, q⟩ => ⟨I1.kIn, ?_⟩) he hpl
  exact run_make M F hr hb .nil hx I1 r (row_make q)
end
/-- of data that is right nothing is refused -/
theorem good_parts {x : Str} {p : Int} {ds dm : PyData} (h : rowGood x p ds dm = true) : isPatD (.str x) = true ∧ isPr (.int p) = true ∧ sizesOk x.length ds = true ∧ mapsOk x.length dm = true ∧ badAt x ds dm = none := by
  unfold rowGood at h
  simp only [Bool.and_eq_true, Option.isNone_iff_eq_none] at h
  exact h
theorem good_err {x : Str} {p : Int} {vp vq va vm : V} {ds dm : PyData} {CT CP CZ CA CM : Addr} {H : Hp} {E : XK} (h : rowGood x p ds dm = true) : RowErr CT CP CZ CA CM H E vp vq va vm (.str x) (.int p) ds dm := by
  obtain ⟨h1, h2, h3, h4, h5⟩ := good_parts h
  refine ⟨fun z => (by rw [h1] at z; cases z), fun _ z => (by rw [h2] at z; cases z), fun y e _ _ z => ?_, fun y e _ _ _ z => ?_, fun y i v H1 e _ _ _ _ z => ?_⟩
  · cases e; rw [h3] at z; cases z
  · cases e; rw [h4] at z; cases z
  · cases e; rw [h5] at z; cases z
end Rw
set_option Elab.async false
set_option linter.all false
set_option maxRecDepth 100000
set_option maxHeartbeats 4000000
namespace Rw
open PySem PySem.Spec PyProof.Rows L2
end Rw
set_option Elab.async false
set_option linter.all false
set_option maxRecDepth 100000
set_option maxHeartbeats 4000000
namespace Rw
open PySem PySem.Spec PyProof.Rows L2
theorem ints_at {ns : List Int} {i : Nat} {v : V} (h : (ns.map V.int)[i]? = some v) : ∃ n, ns[i]? = some n ∧ v = .int n := by
  rw [List.getElem?_map] at h
  cases e : ns[i]? with
  | none => rw [e] at h; cases h
  | some n =>
    rw [e] at h
    exact ⟨n, rfl, (Option.some.inj h).symm⟩
theorem anyL_app {H : Hp} : ∀ {xs ys : List V} {ds es : List PyData}, AnyL H xs ds → AnyL H ys es → AnyL H (xs ++ ys) (ds ++ es)
  | _, _, _, _, .nil, b => b
  | _, _, _, _, .cons a r, b => .cons a (anyL_app r b)
def spGetP (C : Addr) : Sp := fun vs H Q _ => ∃ a x p ss mm, vs = [.ref a] ∧ RowAt C H a x p ss mm ∧ Q (.str x) H
def spGetQ (C : Addr) : Sp := fun vs H Q _ => ∃ a x p ss mm, vs = [.ref a] ∧ RowAt C H a x p ss mm ∧ Q (.int p) H
def spGetS (C : Addr) : Sp := fun vs H Q _ => ∃ a x p ss mm, vs = [.ref a] ∧ RowAt C H a x p ss mm ∧ ∀ ts, Any H (.ref ts) (.tuple ss) → Q (.ref ts) H
/-- a property of rows at hand -/
structure PropAt (P : Program) (w : World) (K : PySem.W.Frag) (mg : Str → Option Value) (base : Heap) (C : Addr) (f : Str) (sp : Sp) : Prop where
  cl : Cls K C
  has : ∃ (p g : Addr) (fd : FuncData), PropOf K C f p g ∧ FnOk P w K mg base CX0 1 g fd ["self"] sp ∧ Binds K fd ["self"] []
section
variable {X : Cx} {C : Addr} {f : Str} {sp : Sp} {e : Expr} {ta : TE} {pos : Pos}
theorem pass0n : Passes CX0 X.nox E0 := pass0
theorem pe_prp (A : PropAt X.prog X.w X.K X.mg X.base C f sp) (hr : Room 2 X.A) (he : PE X e ta) (hab : attributeBase e f X.env (eval e X.env) = eval e X.env := by rfl) : PE X (.Attribute e f pos) (tProp C sp [] E0 ta) := by
  obtain ⟨p, g, fd, hp, F, hb⟩ := A.has
  exact pe_prop he A.cl hp F hr hb .nil pass0n hab
end
/-- a method of rows that raises nothing, without arguments -/
structure Meth0At (P : Program) (w : World) (K : PySem.W.Frag) (mg : Str → Option Value) (base : Heap) (C : Addr) (m : Str) (k : Nat) (sp : Sp) : Prop where
  cl : Cls K C
  has : ∃ (f : Addr) (fd : FuncData), Meth K C m f ∧ FnOk P w K mg base CX0 k f fd ["self"] sp ∧ Binds K fd ["self"] []
/-- the first of some numbers above 6 -/
def spLow (K : PySem.W.Frag) (CG : Addr) : Sp := fun vs H Q E => ∃ (a : Addr) (ns : List Int), vs = [.ref a] ∧ SqL K H a (ns.map V.int) ∧ ns.length ≤ 1000 ∧ ((∀ (i : Nat) (n : Int), ns[i]? = some n → n ≤ 6) → Q .non H) ∧
  (∀ (i : Nat) (n : Int), ns[i]? = some n → 6 < n → (∀ (j : Nat) (m : Int), j < i → ns[j]? = some m → m ≤ 6) → Thrown CG (.int n) H E)
theorem tupI_any {H : Hp} {p : Addr} {r : List Int} (h : H p = some (.tup (r.map V.int))) : Any H (.ref p) (tupI r) := .tup h (ints_anyL r)
end Rw
set_option Elab.async false
set_option linter.all false
set_option maxRecDepth 100000
set_option maxHeartbeats 4000000
namespace K41
open PySem PySem.Spec PyProof.Rows L2 Rw
abbrev sGetP : Stmt := inClass (top 36) 1
abbrev sGetQ : Stmt := inClass (top 36) 2
abbrev sGetS : Stmt := inClass (top 36) 3
abbrev sMaps : Stmt := inClass (top 36) 4
abbrev sLow : Stmt := top 32
theorem scGetP : FnScope ["self"] ["self"] (defScope sGetP) := ⟨rfl, rfl, rfl, by decide +kernel, rfl, by decide +kernel, by decide +kernel⟩
theorem scGetQ : FnScope ["self"] ["self"] (defScope sGetQ) := ⟨rfl, rfl, rfl, by decide +kernel, rfl, by decide +kernel, by decide +kernel⟩
theorem scGetS : FnScope ["self"] ["self"] (defScope sGetS) := ⟨rfl, rfl, rfl, by decide +kernel, rfl, by decide +kernel, by decide +kernel⟩
abbrev NMaps : List Str := ["self", "matrix"]
theorem scMaps : FnScope NMaps ["self"] (defScope sMaps) := ⟨rfl, rfl, rfl, by decide +kernel, rfl, by decide +kernel, by decide +kernel⟩
abbrev NLow : List Str := ["sizes", "size"]
theorem scLow : FnScope NLow ["sizes"] (defScope sLow) := ⟨rfl, rfl, rfl, by decide +kernel, rfl, by decide +kernel, by decide +kernel⟩
/-- what more the top has left -/
structure TxR (K : PySem.W.Frag) (mg : Str → Option Value) (C CG CU : Addr) : Prop where
  zip : mg "zip" = none
  eG : Err K mg "TooLarge" CG
  eU : ErrN K mg "UnlikeRows" CU
  gC : mg "Row" = some (.ref C)
  isC : C8.InsC K C
section
variable {P : Program} {w : World} {K : PySem.W.Frag} {mg : Str → Option Value} {base : Heap} {aI aT C CP CT CZ CA CM CL CG CU : Addr} {kI : List (Int × Value)} {kT : List (Str × Value)}
theorem okGetP {f : Addr} {fd : FuncData} (F : Fun K "pattern" "Row.pattern" sGetP f fd) (R : RowCls K C) : FnOk P w K mg base CX0 1 f fd ["self"] (spGetP C) := by
  refine F.ok scGetP (fun vs H Q E h => ?_) (fun cdv A outer s H vs Q E hr h => ?_)
  · obtain ⟨a, x, p, ss, mm, rfl, _⟩ := h
    rfl
  · obtain ⟨a, x, p, ss, mm, rfl, ⟨dx, ts, tm, ea, _, _⟩, q⟩ := h
    exact ⟨_, (pss_one (ps_ret (pe_fld (pv 0) rfl))), _, rfl, a, C, dx, _, _, rfl, ea, R.cl, R.n1, rfl, q⟩
theorem okGetQ {f : Addr} {fd : FuncData} (F : Fun K "prime" "Row.prime" sGetQ f fd) (R : RowCls K C) : FnOk P w K mg base CX0 1 f fd ["self"] (spGetQ C) := by
  refine F.ok scGetQ (fun vs H Q E h => ?_) (fun cdv A outer s H vs Q E hr h => ?_)
  · obtain ⟨a, x, p, ss, mm, rfl, _⟩ := h
    rfl
  · obtain ⟨a, x, p, ss, mm, rfl, ⟨dx, ts, tm, ea, _, _⟩, q⟩ := h
    exact ⟨_, (pss_one (ps_ret (pe_fld (pv 0) rfl))), _, rfl, a, C, dx, _, _, rfl, ea, R.cl, R.n2, rfl, q⟩
theorem okGetS {f : Addr} {fd : FuncData} (F : Fun K "sizes" "Row.sizes" sGetS f fd) (R : RowCls K C) : FnOk P w K mg base CX0 1 f fd ["self"] (spGetS C) := by
  refine F.ok scGetS (fun vs H Q E h => ?_) (fun cdv A outer s H vs Q E hr h => ?_)
  · obtain ⟨a, x, p, ss, mm, rfl, _⟩ := h
    rfl
  · obtain ⟨a, x, p, ss, mm, rfl, ⟨dx, ts, tm, ea, as, _⟩, q⟩ := h
    exact ⟨_, (pss_one (ps_ret (pe_fld (pv 0) rfl))), _, rfl, a, C, dx, _, _, rfl, ea, R.cl, R.n3, rfl, q _ as⟩
theorem okMaps {f : Addr} {fd : FuncData} (F : Fun K "maps" "Row.maps" sMaps f fd) (T : Txt K w mg aI aT CP CT CZ CA CM CL kI kT) (R : RowCls K C) : FnOk P w K mg base CX0 1 f fd ["self"] (spMaps C) := by
  refine F.ok scMaps (fun vs H Q E h => ?_) (fun cdv A outer s H vs Q E hr h => ?_)
  · obtain ⟨a, x, p, ss, mm, rfl, _⟩ := h
    rfl
  · obtain ⟨a, x, p, ss, mm, rfl, ⟨dx, ts, tm, ea, _, am⟩, lm, q⟩ := h
    refine ⟨_, (pss_one (ps_ret (pe_lc (own := [("matrix", 1)]) (g := gName 1) (tt := tYes) (te := tCB (rLstOf K) (tCons (tVar 1) tNil)) rfl scMaps.nd (pi_seq (pe_fld (pv 0) rfl)) (blkOk_by (N := NMaps) (sc := defScope sMaps) (by decide +kernel)) (fun _ _ _ _ _ => (pg_name (i := 1) scMaps.nd rfl (Or.inl rfl))) (fun _ _ _ _ _ => pts_nil)
      (fun _ _ _ _ _ => (pe_callTy call_list_of (by rfl) T.list (by decide +kernel) (pa_cons (pv 1) pa_nil)))))), ?_⟩
    cases am with
    | tup em al =>
      rename_i ys
      have ln := anyL_len al
      rw [List.length_map] at ln
      refine ⟨_, rfl, a, C, dx, _, _, rfl, ea, R.cl, R.n4, rfl, tm, false, ys, rfl, SqT.of em, fun D hD => ?_⟩
      refine lc_same walk_seq (by omega) hD (fun H' s' => SqT.of (s' _ _ em)) (fun i => .list (mm[i]?.getD [])) ?_ ?_
      · rintro i y H' hi hy s1 ⟨o, hd⟩
        refine ⟨rfl, fun k hk => ?_⟩
        obtain ⟨d, hd2, an⟩ := anyL_at al hy
        rw [List.getElem?_map] at hd2
        cases e : mm[i]? with
        | none => rw [e] at hd2; cases hd2
        | some rows =>
          rw [e] at hd2 hk
          cases Option.some.inj hd2
          cases an with
          | tup et al2 =>
            refine ⟨_, rfl, _, _, rfl, .inr (SqT.of (s1 _ _ et)), fun l hl => hk _ _ (same_new hl) ?_⟩
            have ne : l ≠ D := fun z => by rw [z, hd] at hl; cases hl
            refine .lst (by rw [del_ne ne]; exact upd_same) (anyL_keep (fun b o eo => ?_) al2)
            rw [del_ne (ne_of_none eo hD), upd_ne (ne_of_none eo (s1.free hl))]
            exact s1 _ _ eo
      · intro H' acc s1 ha hal
        refine q D acc H' hD s1 ha ?_
        have e3 : (List.range ys.length).map (fun i => PyData.list (mm[i]?.getD [])) = mm.map .list := by
          rw [ln]
          exact map_get PyData.list [] mm
        rw [e3] at hal
        exact hal
theorem okLow {f : Addr} {fd : FuncData} (F : Fun K "check_low" "check_low" sLow f fd) (T : Txt K w mg aI aT CP CT CZ CA CM CL kI kT) (TR : TxR K mg C CG CU) : FnOk P w K mg base (L2.CX P w) 4 f fd ["sizes"] (spLow K CG) := by
  obtain ⟨tM, gM⟩ := T.gM
  refine F.okX scLow (fun vs H Q E h => ?_) (fun cdv A outer s H vs Q E hr h => ?_)
  · obtain ⟨a, ns, rfl, _⟩ := h
    rfl
  · obtain ⟨a, ns, rfl, hs, hl, q, xf⟩ := h
    refine ⟨_, (pss_one (ps_for (passes_of rfl) rfl (pi_list (pv 0)) (pg_name (i := 1) scLow.nd rfl (Or.inl rfl)) (pss_one (ps_if (pt_cmpR op_gt (pv 1) (pe_glob (v := .int 6) rfl gM ⟨_, rfl⟩) (nomark _)) (pss_one (ps_throw TR.eG rfl (hr.mono (by decide)) (takes_of rfl rfl rfl rfl) (pv 1))) pss_nil)))), ?_⟩
    refine ⟨_, rfl, a, rfl, ⟨_, hs⟩, ?_⟩
    refine for_list (K := K) (a := a) (xs := ns.map V.int) (fun i σ H' => (∃ y, σ = [some (.ref a), y]) ∧ H' = H ∧ ∀ j m, j < i → ns[j]? = some m → m ≤ 6) ⟨⟨_, rfl⟩, rfl, fun j m h => absurd h (Nat.not_lt_zero j)⟩ (fun i σ H' _ h => by rw [h.2.1]; exact hs) ?_ ?_
    · rintro i y σ H' hy ⟨⟨y1, rfl⟩, rfl, lo⟩
      obtain ⟨n, hn, rfl⟩ := ints_at hy
      refine ⟨_, rfl, _, _, rfl, rfl, _, rfl, ite2 (fun z => ?_) (fun z => ?_)⟩
      · have z1 : 6 < n := of_decide_eq_true z
        exact ⟨_, rfl, thrown_go (xf i n hn z1 lo)⟩
      · have z1 : ¬ 6 < n := fun y => z (decide_eq_true y)
        refine ⟨⟨_, rfl⟩, rfl, fun j m hj hm => ?_⟩
        by_cases e : j = i
        · subst e
          rw [hn] at hm
          cases hm
          omega
        · exact lo j m (by omega) hm
    · rintro σ H' ⟨⟨y1, rfl⟩, rfl, lo⟩
      refine q fun i n hn => ?_
      have hi : i < ns.length := (List.getElem?_eq_some_iff.mp hn).1
      exact lo i n (by rw [List.length_map]; exact hi) hn
end
end K41
set_option Elab.async false
set_option linter.all false
set_option exponentiation.threshold 3000
namespace Rw
def prodN (l : List Nat) : Nat := l.foldr (· * ·) 1
theorem prodN_cons (a : Nat) (l : List Nat) : prodN (a :: l) = a * prodN l := rfl
theorem prodN_perm {l m : List Nat} (h : l.Perm m) : prodN l = prodN m := by
  induction h with
  | nil => rfl
  | cons a _ ih => rw [prodN_cons, prodN_cons, ih]
  | swap a b l => simp only [prodN_cons]; rw [← Nat.mul_assoc, ← Nat.mul_assoc, Nat.mul_comm b a]
  | trans _ _ i1 i2 => exact i1.trans i2
theorem sum_perm {l m : List Nat} (h : l.Perm m) : l.sum = m.sum := by
  induction h with
  | nil => rfl
  | cons a _ ih => simp only [List.sum_cons, ih]
  | swap a b l => simp only [List.sum_cons]; omega
  | trans _ _ i1 i2 => exact i1.trans i2
/-- lists of vectors of which none is a sum of multiples of the others -/
def indep (p m l : Nat) : Nat := prodN ((List.range m).map fun a => p ^ l - p ^ a)
def gl (p n : Nat) : Nat := indep p n n
abbrev Nums := List ((Nat × Nat) × Nat)
def covB (q : Nat × Nat) (i : Nat) : Bool := decide (q.1 ≤ i) && decide (i ≤ q.2)
/-- the size of a place -/
def szN (T : Nums) (i : Nat) : Nat := (T.map fun q => if covB q.1 i then q.2 else 0).sum
def freeN (L : Nat × Nat → Nat × Nat → Bool) (T U : Nums) : Nat := (T.map fun q => (U.map fun r => if q.1 ≠ r.1 ∧ L q.1 r.1 = true then q.2 * r.2 else 0).sum).sum
def keepN (L : Nat × Nat → Nat × Nat → Bool) (p : Nat) (T : Nums) : Nat := p ^ freeN L T T * prodN (T.map fun q => gl p q.2)
theorem sum_one {α : Type} {f : α → Nat} {l : List α} {a : α} (h : a ∈ l) : f a ≤ (l.map f).sum := by
  induction l with
  | nil => cases h
  | cons b l ih =>
    rw [List.map_cons, List.sum_cons]
    rcases List.mem_cons.mp h with e | e
    · subst e; omega
    · have := ih e; omega
theorem free_perm {L : Nat × Nat → Nat × Nat → Bool} {T U : Nums} (h : T.Perm U) : freeN L T T = freeN L U U := by
  have a : ∀ V : Nums, freeN L T V = freeN L U V := fun V => sum_perm (h.map _)
  have b : ∀ V : Nums, freeN L V T = freeN L V U := fun V => congrArg List.sum (List.map_congr_left fun q _ => sum_perm (h.map _))
  rw [a, b]
theorem keep_perm {L : Nat × Nat → Nat × Nat → Bool} {p : Nat} {T U : Nums} (h : T.Perm U) : keepN L p T = keepN L p U := by
  unfold keepN
  rw [free_perm h, prodN_perm (h.map _)]
def posN (T : Nums) : Nums := T.filter fun q => decide (0 < q.2)
end Rw
set_option Elab.async false
set_option linter.all false
set_option maxRecDepth 100000
set_option maxHeartbeats 4000000
namespace Rw
open PySem PySem.Spec PyProof.Rows L2
theorem Draft.at_ {x : Str} {q : Int} {most : Nat} {ss : List Nat} {ms : List (List (List Int))} (d : Draft x q most ss ms) {i : Nat} (h : i < x.length) : MatOk q (ss[stA x i]?.getD 0) (ss[goA x i]?.getD 0) (ms[i]?.getD []) := by
  have h2 : i < ms.length := by rw [d.ml]; exact h
  have e : ms[i]? = some ms[i] := List.getElem?_eq_getElem h2
  rw [e]
  exact d.mo i _ e
theorem nats_anyL {H : Hp} (ss : List Nat) : AnyL H (ss.map fun s => V.int (s : Nat)) (ss.map natD) := by
  have e : ss.map natD = (ss.map fun s => ((s : Nat) : Int)).map PyData.int := by
    rw [List.map_map]
    rfl
  have e2 : (ss.map fun s => V.int (s : Nat)) = (ss.map fun s => ((s : Nat) : Int)).map V.int := by
    rw [List.map_map]
    rfl
  rw [e, e2]
  exact ints_anyL _
/-- a row that a draft tells -/
abbrev RowOf (C : Addr) (H : Hp) (a : Addr) (x : Str) (q : Int) (ss : List Nat) (ms : List (List (List Int))) : Prop := RowAt C H a x q (ss.map natD) (ms.map fun m => m.map tupI)
structure Good (x : Str) (q : Int) (ss : List Nat) (ms : List (List (List Int))) : Prop where
  d : Draft x q 6 ss ms
  p : Pat x 6
  q : q ∈ primesL
end Rw
set_option Elab.async false
set_option linter.all false
set_option maxRecDepth 100000
set_option maxHeartbeats 4000000
namespace Rw
open PySem PySem.Spec PyProof.Rows L2
end Rw
set_option Elab.async false
set_option linter.all false
set_option maxRecDepth 100000
set_option maxHeartbeats 4000000
namespace Rw
open PySem PySem.Spec PyProof.Rows L2
section
variable {X : Cx} {C : Addr} {m : Str} {k : Nat} {sp : Sp} {o : Expr} {ta : TE} {apos pos : Pos}
theorem pe_mth0 (A : Meth0At X.prog X.w X.K X.mg X.base C m k sp) (hr : Room k X.A) (he : PE X o ta) {pl : Sem Bool}
    (ht : eval (.Call (.Attribute o m apos) [] [] pos) X.env = (do
      let ov ← eval o X.env
      standAt apos.atName
      let (f, first) ← holding [ov] (getMethod ov m pl)
      callWith pos f first (backTo pos (starEach [] X.env)) (backToKw pos (keywordEach [] X.env))) := by rfl) : PE X (.Call (.Attribute o m apos) [] [] pos) (tMeth C m sp [] E0 ta tNil) := by
  obtain ⟨f, fd, hm, F, hb⟩ := A.has
  exact pe_meth0 he A.cl hm F hr hb .nil pass0 ht
end
theorem find_none {l : List Nat} (h : ∀ (i n : Nat), l[i]? = some n → n ≤ 6) : l.find? (fun n => decide (6 < n)) = none := by
  rw [List.find?_eq_none]
  intro n hn
  obtain ⟨i, hi⟩ := List.getElem?_of_mem hn
  have := h i n hi
  simp
  omega
end Rw
set_option Elab.async false
set_option linter.all false
set_option maxRecDepth 100000
set_option maxHeartbeats 4000000
namespace Rw
open PySem PySem.Spec PyProof.Rows L2
/-- the rows of a new sheet: new lists of small ints, each another -/
structure RowsOk (H0 H : Hp) (A : Addr) (xs : List V) (rs : List (List Int)) : Prop where
  len : xs.length = rs.length
  row : ∀ (i : Nat) (r : List Int), rs[i]? = some r → ∃ b : Addr, xs[i]? = some (.ref b) ∧ H b = some (.lst (r.map V.int)) ∧ H0 b = none ∧ b ≠ A
  inj : ∀ (i j : Nat) (b : Addr), xs[i]? = some (.ref b) → xs[j]? = some (.ref b) → i = j
  wide : ∀ r, r ∈ rs → r.length ≤ 4 ∧ ∀ n, n ∈ r → n.natAbs ≤ 100
/-- a new list at A with new rows of any kind -/
structure Gen (H Hn : Hp) (p A : Addr) (c : Nat) : Prop where
  g : Grow p H Hn
  bx : Bx Hn p c
  new : H A = none
  ex : ∃ xs ds, Hn A = some (.lst xs) ∧ AnyL (del (nw H Hn) A) xs ds ∧ ds.length ≤ 5 ∧ ∀ d, d ∈ ds → RowT d
structure Shp (H Hn : Hp) (p A : Addr) (c hi wi : Nat) : Prop where
  g : Grow p H Hn
  bx : Bx Hn p c
  new : H A = none
  ex : ∃ xs rs, Hn A = some (.lst xs) ∧ RowsOk H Hn A xs rs ∧ rs.length = hi ∧ hi ≤ 4 ∧ ∀ r, r ∈ rs → r.length = wi
theorem anyL_all {H : Hp} : ∀ {xs : List V} {ds : List PyData}, xs.length = ds.length → (∀ (i : Nat) (x : V) (d : PyData), xs[i]? = some x → ds[i]? = some d → Any H x d) → AnyL H xs ds
  | [], [], _, _ => .nil
  | x :: xs, d :: ds, l, h => .cons (h 0 x d rfl rfl) (anyL_all (by simpa using l) fun i x d e1 e2 => h (i + 1) x d (by simpa using e1) (by simpa using e2))
theorem nw_at {H Hn : Hp} {b : Addr} {o : HO} (h0 : H b = none) (h : Hn b = some o) : nw H Hn b = some o := by
  show (if H b = none then Hn b else none) = _
  rw [if_pos h0]
  exact h
theorem ints_row {H : Hp} {b : Addr} {r : List Int} (h : H b = some (.lst (r.map V.int))) : Any H (.ref b) (.list (r.map .int)) := .lst h (ints_anyL r)
theorem row_ints {r : List Int} (h : r.length ≤ 4 ∧ ∀ n, n ∈ r → n.natAbs ≤ 100) : RowT (.list (r.map .int)) := row_list (by rw [List.length_map]; omega) (by
  intro d hd
  obtain ⟨n, hn, rfl⟩ := List.mem_map.mp hd
  exact cell_int (Nat.lt_of_le_of_lt (h.2 n hn) (by decide)))
theorem Shp.gen {H Hn : Hp} {p A : Addr} {c hi wi : Nat} (s : Shp H Hn p A c hi wi) : Gen H Hn p A c := by
  obtain ⟨xs, rs, ha, ok, l1, l2, l3⟩ := s.ex
  refine ⟨s.g, s.bx, s.new, xs, rs.map (fun r => .list (r.map .int)), ha, ?_, by rw [List.length_map]; omega, ?_⟩
  · refine anyL_all (by rw [List.length_map]; exact ok.len) fun i x d e1 e2 => ?_
    rw [List.getElem?_map] at e2
    cases e3 : rs[i]? with
    | none => rw [e3] at e2; cases e2
    | some r =>
      rw [e3] at e2
      cases e2
      obtain ⟨b, h1, h2, h3, h4⟩ := ok.row i r e3
      rw [e1] at h1
      cases h1
      refine ints_row ?_
      rw [del_ne h4]
      exact nw_at h3 h2
  · intro d hd
    obtain ⟨r, hr, rfl⟩ := List.mem_map.mp hd
    exact row_ints (ok.wide r hr)
theorem Gen.more {H Hn : Hp} {p A : Addr} {c e : Nat} (s : Gen H Hn p A c) (l : c ≤ e) : Gen H Hn p A e := ⟨s.g, s.bx.more l, s.new, s.ex⟩
theorem Gen.pA {H Hn : Hp} {p A : Addr} {c n : Nat} (s : Gen H Hn p A c) (b : Bx H p n) : p ≠ A := b.ne s.new
/-- only the box has turned, and new things have come -/
theorem Gen.grow {H Hn H2 : Hp} {p A : Addr} {c e n : Nat} (s : Gen H Hn p A c) (b0 : Bx H p n) (k : Grow p Hn H2) (b : Bx H2 p e) : Gen H H2 p A e := by
  obtain ⟨xs, ds, ha, al, l, r⟩ := s.ex
  obtain ⟨_, _, _, hp, _⟩ := id b0
  refine ⟨s.g.trans k, b, s.new, xs, ds, k _ _ (b0.ne s.new).symm ha, anyL_keep ?_ al, l, r⟩
  exact Grow.del (Grow.of (nw_grow hp k))
theorem Shp.grow {H Hn H2 : Hp} {p A : Addr} {c e n hi wi : Nat} (s : Shp H Hn p A c hi wi) (b0 : Bx H p n) (k : Grow p Hn H2) (b : Bx H2 p e) : Shp H H2 p A e hi wi := by
  obtain ⟨xs, rs, ha, ok, l1, l2, l3⟩ := s.ex
  refine ⟨s.g.trans k, b, s.new, xs, rs, k _ _ (b0.ne s.new).symm ha, ⟨ok.len, fun i r e => ?_, ok.inj, ok.wide⟩, l1, l2, l3⟩
  obtain ⟨q, h1, h2, h3, h4⟩ := ok.row i r e
  exact ⟨q, h1, k _ _ (b0.ne h3).symm h2, h3, h4⟩
/-- new in the later is new in the whole -/
theorem nw_from {H Hn H2 : Hp} {p : Addr} {n : Nat} (b0 : Bx Hn p n) (g : Grow p H Hn) : Same (nw Hn H2) (nw H H2) := fun b o e => by
  have e' : (if Hn b = none then H2 b else none) = some o := e
  by_cases z : Hn b = none
  · rw [if_pos z] at e'
    refine nw_at ?_ e'
    cases y : H b with
    | none => rfl
    | some u =>
      by_cases w : b = p
      · obtain ⟨_, _, _, hp, _⟩ := b0
        rw [w, hp] at z
        cases z
      · rw [g _ _ w y] at z
        cases z
  · rw [if_neg z] at e'
    cases e'
theorem anyL_set {H : Hp} : ∀ {xs : List V} {ds : List PyData} {j : Nat} {v : V} {d : PyData}, AnyL H xs ds → Any H v d → AnyL H (xs.set j v) (ds.set j d)
  | _, _, _, _, _, .nil, _ => .nil
  | _, _, 0, _, _, .cons _ r, a => .cons a r
  | _, _, j + 1, _, _, .cons b r, a => .cons b (anyL_set r a)
theorem mem_set {α : Type} {ds : List α} {j : Nat} {d e : α} (h : e ∈ ds.set j d) : e = d ∨ e ∈ ds := by
  rcases List.mem_or_eq_of_mem_set h with z | z
  · exact .inr z
  · exact .inl z
/-- an item of the list at A is set to a thing that is new since -/
theorem Gen.put {H Hn H2 : Hp} {p A : Addr} {c e n : Nat} (s : Gen H Hn p A c) (b0 : Bx H p n) (k : Grow p Hn H2) (b : Bx H2 p e) {v : V} {d : PyData} (a : Any (nw Hn H2) v d) (r : RowT d) :
    ∃ xs, H2 A = some (.lst xs) ∧ ∀ j, Gen H (upd H2 A (.lst (xs.set j v))) p A e := by
  obtain ⟨xs, ds, ha, al, l, rr⟩ := s.ex
  have pA := b0.ne s.new
  refine ⟨xs, k _ _ pA.symm ha, fun j => ?_⟩
  have new := s.new
  obtain ⟨x1, x2, x3, hp, _⟩ := id b0
  have s2 : Same (del (nw H Hn) A) (del (nw H (upd H2 A (.lst (xs.set j v)))) A) := fun q o eo => by
    by_cases y : q = A
    · rw [y, del_same] at eo
      cases eo
    · rw [del_ne y] at eo ⊢
      have e2 := nw_grow hp k _ _ eo
      have e3 : H q = none := by
        cases w : H q with
        | none => rfl
        | some u =>
          have e4 : (if H q = none then Hn q else none) = some o := eo
          rw [if_neg (by rw [w]; exact fun z => by cases z)] at e4
          cases e4
      refine nw_at e3 ?_
      rw [upd_ne y]
      have e5 : (if H q = none then H2 q else none) = some o := e2
      rw [if_pos e3] at e5
      exact e5
  have s3 : Same (nw Hn H2) (del (nw H (upd H2 A (.lst (xs.set j v)))) A) := fun q o eo => by
    have y : q ≠ A := fun y => by
      have e4 : (if Hn q = none then H2 q else none) = some o := eo
      rw [if_neg (by rw [y, ha]; exact fun z => by cases z)] at e4
      cases e4
    have e1 := nw_from s.bx s.g _ _ eo
    rw [del_ne y]
    have e3 : H q = none := by
      cases w : H q with
      | none => rfl
      | some u =>
        have e4 : (if H q = none then H2 q else none) = some o := e1
        rw [if_neg (by rw [w]; exact fun z => by cases z)] at e4
        cases e4
    refine nw_at e3 ?_
    rw [upd_ne y]
    have e5 : (if H q = none then H2 q else none) = some o := e1
    rw [if_pos e3] at e5
    exact e5
  refine ⟨?_, ?_, new, xs.set j v, ds.set j d, upd_same, anyL_set (anyL_keep s2 al) (a.keep s3), by rw [List.length_set]; exact l, fun d' hd => ?_⟩
  · intro q o ne eo
    rw [upd_ne (ne_of_none eo new)]
    exact (s.g.trans k) q o ne eo
  · obtain ⟨a1, a2, a3, h1, rest⟩ := b
    exact ⟨a1, a2, a3, by rw [upd_ne pA]; exact h1, rest⟩
  · rcases mem_set hd with z | z
    · rw [z]; exact r
    · exact rr d' z
/-- an item of a row is set to a thing that is new since -/
theorem Shp.cell {H Hn H2 : Hp} {p A : Addr} {c e n hi wi : Nat} (s : Shp H Hn p A c hi wi) (b0 : Bx H p n) (k : Grow p Hn H2) (b : Bx H2 p e) {v : V} {d : PyData} (a : Any (nw Hn H2) v d) (cd : Cell d) {i : Nat} (hi2 : i < hi) :
    ∃ (xs : List V) (q : Addr) (r : List Int), H2 A = some (.lst xs) ∧ xs[i]? = some (.ref q) ∧ H2 q = some (.lst (r.map V.int)) ∧ r.length = wi ∧ ∀ j, Gen H (upd H2 q (.lst ((r.map V.int).set j v))) p A e := by
  obtain ⟨xs, rs, ha, ok, l1, l2, l3⟩ := s.ex
  have hlt : i < rs.length := by omega
  obtain ⟨q, h1, h2, h3, h4⟩ := ok.row i rs[i] (List.getElem?_eq_getElem hlt)
  have hm : rs[i] ∈ rs := List.getElem_mem hlt
  have pA := b0.ne s.new
  have pq := b0.ne h3
  have new := s.new
  obtain ⟨x1, x2, x3, hp, _⟩ := id b0
  have ha2 := k _ _ pA.symm ha
  refine ⟨xs, q, rs[i], ha2, h1, k _ _ pq.symm h2, l3 _ hm, fun j => ?_⟩
  have s3 : Same (nw Hn H2) (del (nw H (upd H2 q (.lst ((rs[i].map V.int).set j v)))) A) := fun z o eo => by
    have off : ∀ {w : Addr} {u : HO}, Hn w = some u → z ≠ w := fun e y => by
      have e4 : (if Hn z = none then H2 z else none) = some o := eo
      rw [if_neg (by rw [y, e]; exact fun z => by cases z)] at e4
      cases e4
    have e1 := nw_from s.bx s.g _ _ eo
    rw [del_ne (off ha)]
    have e3 : H z = none := by
      cases w : H z with
      | none => rfl
      | some u =>
        have e4 : (if H z = none then H2 z else none) = some o := e1
        rw [if_neg (by rw [w]; exact fun z => by cases z)] at e4
        cases e4
    refine nw_at e3 ?_
    rw [upd_ne (off h2)]
    have e5 : (if H z = none then H2 z else none) = some o := e1
    rw [if_pos e3] at e5
    exact e5
  have inner : AnyL (del (nw H (upd H2 q (.lst ((rs[i].map V.int).set j v)))) A) ((rs[i].map V.int).set j v) ((rs[i].map PyData.int).set j d) := anyL_set (ints_anyL _) (a.keep s3)
  refine ⟨?_, ?_, new, xs, (rs.map (fun r => PyData.list (r.map .int))).set i (.list ((rs[i].map PyData.int).set j d)), ?_, ?_, by rw [List.length_set, List.length_map]; omega, fun e' he => ?_⟩
  · intro z o ne eo
    rw [upd_ne (ne_of_none eo h3)]
    exact (s.g.trans k) z o ne eo
  · obtain ⟨a1, a2, a3, h1, rest⟩ := b
    exact ⟨a1, a2, a3, by rw [upd_ne pq]; exact h1, rest⟩
  · rw [upd_ne h4.symm]
    exact ha2
  · refine anyL_all (by rw [List.length_set, List.length_map]; exact ok.len) fun t x dd e1 e2 => ?_
    by_cases y : t = i
    · subst y
      rw [h1] at e1
      cases e1
      rw [List.getElem?_set_self (by rw [List.length_map]; exact hlt)] at e2
      cases e2
      refine .lst ?_ inner
      rw [del_ne h4]
      refine nw_at h3 ?_
      exact upd_same
    · rw [List.getElem?_set_ne (fun z => y z.symm), List.getElem?_map] at e2
      cases e3 : rs[t]? with
      | none => rw [e3] at e2; cases e2
      | some r =>
        rw [e3] at e2
        cases e2
        obtain ⟨w, g1, g2, g3, g4⟩ := ok.row t r e3
        rw [e1] at g1
        cases g1
        refine ints_row ?_
        rw [del_ne g4]
        refine nw_at g3 ?_
        have wq : w ≠ q := fun z => y (ok.inj t i w e1 (by rw [z]; exact h1))
        rw [upd_ne wq]
        exact k _ _ (b0.ne g3).symm g2
  · rcases mem_set he with z | z
    · rw [z]
      have wide := ok.wide _ hm
      refine row_list (by rw [List.length_set, List.length_map]; omega) fun x hx => ?_
      rcases mem_set hx with y | y
      · rw [y]; exact cd
      · obtain ⟨n, hn, rfl⟩ := List.mem_map.mp y
        exact cell_int (Nat.lt_of_le_of_lt (wide.2 n hn) (by decide))
    · obtain ⟨r, hr, rfl⟩ := List.mem_map.mp z
      exact row_ints (ok.wide r hr)
end Rw
set_option Elab.async false
set_option linter.all false
set_option maxRecDepth 100000
set_option maxHeartbeats 4000000
namespace Rw
open PySem PySem.Spec PyProof.Rows L2
end Rw
namespace Rw
open PySem PySem.Spec PyProof.Rows L2
def off (p F : Addr) (H : Hp) : Hp := del (del H p) F
theorem off_same {p F : Addr} {H H' : Hp} (k : ∀ b o, b ≠ p → b ≠ F → H b = some o → H' b = some o) : Same (off p F H) (off p F H') := fun b o e => by
  unfold off at e ⊢
  by_cases y1 : b = F
  · rw [y1, del_same] at e; cases e
  · rw [del_ne y1] at e ⊢
    by_cases y2 : b = p
    · rw [y2, del_same] at e; cases e
    · rw [del_ne y2] at e ⊢
      exact k b o y2 y1 e
structure StrT (d : PyData) : Prop where
  tm : Tq 0 d
  sh : Short d
structure SizT (k : Nat) (d : PyData) : Prop where
  tm : Tq 1 d
  l : (itemsD d).length ≤ k
  c : ∀ e, e ∈ itemsD d → Cell e
structure MapT (k : Nat) (d : PyData) : Prop where
  tm : Tq 3 d
  l : (itemsD d).length ≤ k
  c : ∀ e, e ∈ itemsD d → SheetT e
theorem SizT.up {k m : Nat} {d : PyData} (s : SizT k d) (h : k ≤ m) : SizT m d := ⟨s.tm, Nat.le_trans s.l h, s.c⟩
theorem MapT.up {k m : Nat} {d : PyData} (s : MapT k d) (h : k ≤ m) : MapT m d := ⟨s.tm, Nat.le_trans s.l h, s.c⟩
structure Fnd (H Hn : Hp) (p F : Addr) (c a b : Nat) : Prop where
  g : Grow p H Hn
  bx : Bx Hn p c
  new : H F = none
  ex : ∃ u0 u1 u2 u3 d0 d1 d2 d3, Hn F = some (.lst [u0, u1, u2, u3]) ∧ Any (off p F Hn) u0 d0 ∧ Any (off p F Hn) u1 d1 ∧ Any (off p F Hn) u2 d2 ∧ Any (off p F Hn) u3 d3 ∧ StrT d0 ∧ Tq 0 d1 ∧ SizT a d2 ∧ MapT b d3
theorem Fnd.grow {H Hn H2 : Hp} {p F : Addr} {c e n a b : Nat} (s : Fnd H Hn p F c a b) (b0 : Bx H p n) (k : Grow p Hn H2) (bx : Bx H2 p e) : Fnd H H2 p F e a b := by
  obtain ⟨u0, u1, u2, u3, d0, d1, d2, d3, hF, a0, a1, a2, a3, r⟩ := s.ex
  have pF := b0.ne s.new
  have kk : Same (off p F Hn) (off p F H2) := off_same fun x o n1 n2 ex => k x o n1 ex
  exact ⟨s.g.trans k, bx, s.new, u0, u1, u2, u3, d0, d1, d2, d3, k _ _ pF.symm hF, a0.keep kk, a1.keep kk, a2.keep kk, a3.keep kk, r⟩
theorem Fnd.more {H Hn : Hp} {p F : Addr} {c e a b a' b' : Nat} (s : Fnd H Hn p F c a b) (h : c ≤ e) (ha : a ≤ a') (hb : b ≤ b') : Fnd H Hn p F e a' b' := by
  obtain ⟨u0, u1, u2, u3, d0, d1, d2, d3, hF, a0, a1, a2, a3, r0, r1, r2, r3⟩ := s.ex
  exact ⟨s.g, s.bx.more h, s.new, u0, u1, u2, u3, d0, d1, d2, d3, hF, a0, a1, a2, a3, r0, r1, r2.up ha, r3.up hb⟩
/-- the list is written anew -/
theorem Fnd.put {H Hn : Hp} {p F : Addr} {c n a b : Nat} (g : Grow p H Hn) (bx : Bx Hn p c) (new : H F = none) (b0 : Bx H p n) {u0 u1 u2 u3 : V} {d0 d1 d2 d3 : PyData} (a0 : Any (off p F Hn) u0 d0) (a1 : Any (off p F Hn) u1 d1) (a2 : Any (off p F Hn) u2 d2) (a3 : Any (off p F Hn) u3 d3)
    (r0 : StrT d0) (r1 : Tq 0 d1) (r2 : SizT a d2) (r3 : MapT b d3) : Fnd H (upd Hn F (.lst [u0, u1, u2, u3])) p F c a b := by
  have pF := b0.ne new
  have kk : Same (off p F Hn) (off p F (upd Hn F (.lst [u0, u1, u2, u3]))) := off_same fun x o n1 n2 ex => by rw [upd_ne n2]; exact ex
  refine ⟨fun x o n1 ex => ?_, ?_, new, u0, u1, u2, u3, d0, d1, d2, d3, upd_same, a0.keep kk, a1.keep kk, a2.keep kk, a3.keep kk, r0, r1, r2, r3⟩
  · rw [upd_ne (ne_of_none ex new)]
    exact g x o n1 ex
  · obtain ⟨c1, c2, c3, h1, rest⟩ := bx
    exact ⟨c1, c2, c3, by rw [upd_ne pF]; exact h1, rest⟩
end Rw
set_option Elab.async false
set_option linter.all false
set_option maxRecDepth 100000
set_option maxHeartbeats 4000000
namespace Rw
open PySem PySem.Spec PyProof.Rows L2
/-- what was there stays, when a new list is written -/
theorem off_put {H1 H3 : Hp} {p F L : Addr} {o : HO} (hL : H1 L = none) (k : ∀ x u, x ≠ p → x ≠ F → H1 x = some u → H3 x = some u) : Same (off p F H1) (off p F (upd H3 L o)) := off_same fun x u n1 n2 ex => by
  rw [upd_ne (ne_of_none ex hL)]
  exact k x u n1 n2 ex
theorem Bx.some {H : Hp} {p : Addr} {n : Nat} (b : Bx H p n) : H p ≠ none := by
  obtain ⟨_, _, _, h, _⟩ := b
  rw [h]
  exact fun z => by cases z
section
variable {H Hn : Hp} {p F : Addr} {c n a b : Nat}
theorem Fnd.here (s : Fnd H Hn p F c a b) : Hn F ≠ none := by
  obtain ⟨u0, u1, u2, u3, d0, d1, d2, d3, hF, _⟩ := s.ex
  rw [hF]
  exact fun z => by cases z
theorem Fnd.str (s : Fnd H Hn p F c a b) (b0 : Bx H p n) {v : V} {d : PyData} (r : StrT d) (an : Any (off p F Hn) v d) : ∃ us, Hn F = some (.lst us) ∧ us.length = 4 ∧ Fnd H (upd Hn F (.lst (us.set 0 v))) p F c a b := by
  obtain ⟨u0, u1, u2, u3, d0, d1, d2, d3, hF, a0, a1, a2, a3, r0, r1, r2, r3⟩ := s.ex
  exact ⟨_, hF, rfl, Fnd.put s.g s.bx s.new b0 an a1 a2 a3 r r1 r2 r3⟩
theorem Fnd.siz (s : Fnd H Hn p F c a b) (b0 : Bx H p n) {v : V} {d : PyData} {a' : Nat} (r : SizT a' d) (an : Any (off p F Hn) v d) : ∃ us, Hn F = some (.lst us) ∧ us.length = 4 ∧ Fnd H (upd Hn F (.lst (us.set 2 v))) p F c a' b := by
  obtain ⟨u0, u1, u2, u3, d0, d1, d2, d3, hF, a0, a1, a2, a3, r0, r1, r2, r3⟩ := s.ex
  exact ⟨_, hF, rfl, Fnd.put s.g s.bx s.new b0 a0 a1 an a3 r0 r1 r r3⟩
theorem Fnd.map (s : Fnd H Hn p F c a b) (b0 : Bx H p n) {v : V} {d : PyData} {b' : Nat} (r : MapT b' d) (an : Any (off p F Hn) v d) : ∃ us, Hn F = some (.lst us) ∧ us.length = 4 ∧ Fnd H (upd Hn F (.lst (us.set 3 v))) p F c a b' := by
  obtain ⟨u0, u1, u2, u3, d0, d1, d2, d3, hF, a0, a1, a2, a3, r0, r1, r2, r3⟩ := s.ex
  exact ⟨_, hF, rfl, Fnd.put s.g s.bx s.new b0 a0 a1 a2 an r0 r1 r2 r⟩
/-- the new list in the place of the sizes is written -/
theorem Fnd.in2 (s : Fnd H Hn p F c a b) (b0 : Bx H p n) {us zs : List V} {ds : List PyData} {L : Addr} {H3 : Hp} {e a' : Nat} (hF : Hn F = some (.lst us)) (hL : Hn L = none) (k : ∀ x o, x ≠ p → x ≠ F → Hn x = some o → H3 x = some o)
    (h3 : H3 F = some (.lst (us.set 2 (.ref L)))) (bx : Bx H3 p e) (al : AnyL (off p F (upd H3 L (.lst zs))) zs ds) (r : SizT a' (.list ds)) : Fnd H (upd H3 L (.lst zs)) p F e a' b := by
  obtain ⟨u0, u1, u2, u3, d0, d1, d2, d3, hF', a0, a1, a2, a3, r0, r1, r2, r3⟩ := s.ex
  rw [hF] at hF'
  cases hF'
  have LF : L ≠ F := fun z => by rw [z, hF] at hL; cases hL
  have Lp : L ≠ p := fun z => s.bx.some (by rw [← z]; exact hL)
  have kk : Same (off p F Hn) (off p F (upd H3 L (.lst zs))) := off_put hL k
  refine ⟨fun x o n1 ex => ?_, ?_, s.new, u0, u1, .ref L, u3, d0, d1, .list ds, d3, by rw [upd_ne (Ne.symm LF)]; exact h3, a0.keep kk, a1.keep kk, .lst ?_ al, a3.keep kk, r0, r1, r, r3⟩
  · have e1 := s.g x o n1 ex
    rw [upd_ne (ne_of_none e1 hL)]
    exact k x o n1 (ne_of_none ex s.new) e1
  · obtain ⟨c1, c2, c3, h1, rest⟩ := bx
    exact ⟨c1, c2, c3, by rw [upd_ne (Ne.symm Lp)]; exact h1, rest⟩
  · unfold off
    rw [del_ne LF, del_ne Lp, upd_same]
end
end Rw
set_option Elab.async false
set_option linter.all false
set_option maxRecDepth 100000
set_option maxHeartbeats 4000000
namespace Rw
open PySem PySem.Spec PyProof.Rows L2
theorem _root_.L2.Same.grow {p : Addr} {H H1 H2 : Hp} (s : Same H H1) (hp : H p = none) (g : Grow p H1 H2) : Same H H2 := fun b o e => g b o (ne_of_none e hp) (s b o e)
theorem passN {X : Cx} : Passes (L2.CX X.prog X.w) X E0 := fun _ _ _ _ _ _ _ h => by
  obtain ⟨_, _, _, _, _, _, _, _, _, _, _, _, z⟩ := h
  exact z.elim
theorem noL_mats (ms : List (List (List Int))) : noL (.tuple ((ms.map fun m => m.map tupI).map .tuple)) = true := by
  show noLs _ = true
  refine noLs_of fun d hd => ?_
  rw [List.map_map] at hd
  obtain ⟨m, _, rfl⟩ := List.mem_map.mp hd
  show noLs (m.map tupI) = true
  refine noLs_of fun e he => ?_
  obtain ⟨r, _, rfl⟩ := List.mem_map.mp he
  exact noL_tupI r
theorem noL_nats (ss : List Nat) : noL (.tuple (ss.map natD)) = true := by
  show noLs _ = true
  refine noLs_of fun d hd => ?_
  obtain ⟨n, _, rfl⟩ := List.mem_map.mp hd
  rfl
end Rw
set_option Elab.async false
set_option linter.all false
set_option maxRecDepth 100000
set_option maxHeartbeats 4000000
namespace Rw
open PySem PySem.Spec PyProof.Rows L2
/-- no object but lists has changed -/
def Lt (H H' : Hp) : Prop := ∀ b o, H b = some o → (∀ xs, o ≠ .lst xs) → H' b = some o
theorem Lt.refl {H : Hp} : Lt H H := fun _ _ e _ => e
theorem Lt.trans {H H1 H2 : Hp} (a : Lt H H1) (b : Lt H1 H2) : Lt H H2 := fun c o e n => b c o (a c o e n) n
theorem Lt.of {H H' : Hp} (k : Same H H') : Lt H H' := fun b o e _ => k b o e
theorem Lt.put {H : Hp} {a : Addr} {xs ys : List V} (h : H a = some (.lst xs)) : Lt H (upd H a (.lst ys)) := fun b o e n => by
  have ne : b ≠ a := fun z => by
    rw [z, h] at e
    exact n xs (Option.some.inj e).symm
  rw [upd_ne ne]
  exact e
mutual
theorem any_lt {H H' : Hp} (k : Lt H H') : ∀ (d : PyData) (v : V), Any H v d → noL d = true → Any H' v d
  | .none, _, a, _ => by cases a; exact .non
  | .bool b, _, a, _ => by cases a; exact .bl b
  | .int i, _, a, _ => by cases a; exact .int i
  | .str x, _, a, _ => by cases a; exact .str x
  | .list ds, _, _, z => by cases z
  | .dict ds, _, _, z => by cases z
  | .tuple ds, _, a, z => by
    cases a with
    | tup e b => exact .tup (k _ _ e fun xs y => by cases y) (anyL_lt k ds _ b z)
theorem anyL_lt {H H' : Hp} (k : Lt H H') : ∀ (ds : List PyData) (vs : List V), AnyL H vs ds → noLs ds = true → AnyL H' vs ds
  | [], _, a, _ => by cases a; exact .nil
  | d :: ds, _, a, z => by
    have z2 : (noL d && noLs ds) = true := z
    rw [Bool.and_eq_true] at z2
    cases a with
    | cons a b => exact .cons (any_lt k d _ a z2.1) (anyL_lt k ds _ b z2.2)
end
theorem row_lt {C a : Addr} {H H' : Hp} {x : Str} {q : Int} {ss : List Nat} {ms : List (List (List Int))} (r : RowOf C H a x q ss ms) (k : Lt H H') : RowOf C H' a x q ss ms := by
  obtain ⟨dx, ts, tm, h1, h2, h3⟩ := r
  exact ⟨dx, ts, tm, k _ _ h1 (fun xs z => by cases z), any_lt k _ _ h2 (noL_nats ss), any_lt k _ _ h3 (noL_mats ms)⟩
theorem dep_le {n : Nat} : ∀ {ds : List PyData}, (∀ d, d ∈ ds → d.depth ≤ n) → PyData.depthAll ds ≤ n
  | [], _ => by simp only [PyData.depthAll]; omega
  | d :: ds, h => by
    simp only [PyData.depthAll]
    have a := h d List.mem_cons_self
    have b := dep_le (ds := ds) fun e he => h e (List.mem_cons_of_mem _ he)
    omega
theorem dep_int (n : Int) : (PyData.int n).depth ≤ 3 := by simp only [PyData.depth]; omega
end Rw
set_option Elab.async false
set_option linter.all false
set_option maxRecDepth 100000
set_option maxHeartbeats 4000000
namespace Rw
open PySem PySem.Spec PyProof.Rows L2
end Rw
set_option Elab.async false
set_option linter.all false
set_option maxRecDepth 100000
set_option maxHeartbeats 4000000
namespace Rw
open PySem PySem.Spec PyProof.Rows L2
theorem ne_two {K : PySem.W.Frag} {H : Hp} {x y : V} {d e : PyData} {Q : VK} (a : Any H x d) (b : Any H y e) (c1 : d.canLay0 = true) (c2 : e.canLay0 = true) (l1 : d.depth ≤ 64) (l2 : e.depth ≤ 64) (q : Q (.bl (!PyData.eqv d e)) H) : rNeD K x y H Q := by
  refine ⟨d, e, any_dp d x a c1, any_dp e y b c2, ?_, ?_, q⟩
  · unfold SeqAt.shaped
    rw [c1, decide_eq_true l1] <;> rfl
  · unfold SeqAt.shaped
    rw [c2, decide_eq_true l2] <;> rfl
theorem any_listD {H : Hp} {v : V} {ds : List PyData} (a : Any H v (.list ds)) : ∃ p ys, v = .ref p ∧ H p = some (.lst ys) ∧ AnyL H ys ds := by
  cases a with
  | lst e al => exact ⟨_, _, rfl, e, al⟩
theorem noL_rowsT (m : List (List Int)) : noLs (m.map tupI) = true := noLs_of fun d hd => by
  obtain ⟨r, _, rfl⟩ := List.mem_map.mp hd
  exact noL_tupI r
end Rw
set_option Elab.async false
set_option linter.all false
set_option maxRecDepth 100000
set_option maxHeartbeats 4000000
namespace Rw
open PySem PySem.Spec PyProof.Rows L2
def lstI (r : List Int) : PyData := .list (r.map .int)
theorem any_lstI {M : Hp} {v : V} {r : List Int} (a : Any M v (lstI r)) : ∃ c, v = .ref c ∧ M c = some (.lst (r.map V.int)) := by
  obtain ⟨c, ys, e1, e2, al⟩ := any_listD a
  rw [anyL_ints al] at e2
  exact ⟨c, e1, e2⟩
end Rw
set_option Elab.async false
set_option linter.all false
set_option maxRecDepth 100000
set_option maxHeartbeats 4000000
namespace Rw
open PySem PySem.Spec PyProof.Rows L2
theorem Lt.grow {p : Addr} {H H' : Hp} {xs : List V} (g : Grow p H H') (h : H p = some (.lst xs)) : Lt H H' := fun b o e n => g b o (fun z => by rw [z, h] at e; exact n xs (Option.some.inj e).symm) e
def ShAt (H : Hp) (bs : List Addr) (ns : List (List (List Int))) : Prop := bs.length = ns.length ∧ ∀ (i : Nat) (b : Addr) (m : List (List Int)), bs[i]? = some b → ns[i]? = some m → ∃ rs, H b = some (.lst rs) ∧ AnyL H rs (m.map tupI)
theorem ShAt.lt {H H' : Hp} {bs : List Addr} {ns : List (List (List Int))} (h : ShAt H bs ns) (k : Lt H H') (e : ∀ b o, b ∈ bs → H b = some o → H' b = some o) : ShAt H' bs ns :=
  ⟨h.1, fun i b m hb hm => by
    obtain ⟨rs, h1, h2⟩ := h.2 i b m hb hm
    exact ⟨rs, e b _ (List.mem_of_getElem? hb) h1, anyL_lt k _ _ h2 (noL_rowsT m)⟩⟩
/-- a draft whose lists are new -/
structure Ot (H0 H : Hp) (F A M : Addr) (bs : List Addr) (y : Str) (q : Int) (ts : List Nat) (ns : List (List (List Int))) : Prop where
  f : H F = some (.lst [.str y, .int q, .ref A, .ref M])
  a : H A = some (.lst (ts.map fun s => V.int (s : Nat)))
  m : H M = some (.lst (bs.map V.ref))
  nf : H0 F = none
  na : H0 A = none
  nm : H0 M = none
  nb : ∀ b, b ∈ bs → H0 b = none
  fa : F ≠ A
  fm : F ≠ M
  am : A ≠ M
  bx : ∀ b, b ∈ bs → b ≠ F ∧ b ≠ A ∧ b ≠ M
  nd : bs.Nodup
  sh : ShAt H bs ns
section
variable {H0 H H' : Hp} {p F A M : Addr} {bs : List Addr} {y : Str} {q : Int} {ts : List Nat} {ns : List (List (List Int))}
theorem Ot.grow {xs : List V} {o : HO} (h : Ot H0 H F A M bs y q ts ns) (hp : H0 p = some o) (hq : H p = some (.lst xs)) (g : Grow p H H') : Ot H0 H' F A M bs y q ts ns := by
  have ne : ∀ b, H0 b = none → b ≠ p := fun b hb z => by rw [z, hp] at hb; cases hb
  exact ⟨g _ _ (ne _ h.nf) h.f, g _ _ (ne _ h.na) h.a, g _ _ (ne _ h.nm) h.m, h.nf, h.na, h.nm, h.nb, h.fa, h.fm, h.am, h.bx, h.nd, h.sh.lt (Lt.grow g hq) fun b o hb e => g _ _ (ne _ (h.nb b hb)) e⟩
theorem Ot.keep (h : Ot H0 H F A M bs y q ts ns) (k : Same H H') : Ot H0 H' F A M bs y q ts ns :=
  ⟨k _ _ h.f, k _ _ h.a, k _ _ h.m, h.nf, h.na, h.nm, h.nb, h.fa, h.fm, h.am, h.bx, h.nd, h.sh.lt (Lt.of k) fun b o _ e => k _ _ e⟩
theorem sheets_any {M0 : Hp} : ∀ {bs : List Addr} {ns : List (List (List Int))}, bs.length = ns.length → (∀ (i : Nat) (b : Addr) (m : List (List Int)), bs[i]? = some b → ns[i]? = some m → ∃ rs, M0 b = some (.lst rs) ∧ AnyL M0 rs (m.map tupI)) → AnyL M0 (bs.map V.ref) (ns.map sheetD)
  | [], [], _, _ => .nil
  | b :: bs, m :: ns, hl, h => by
    obtain ⟨rs, e1, e2⟩ := h 0 b m rfl rfl
    exact .cons (.lst e1 e2) (sheets_any (by simpa using hl) fun i b' m' h1 h2 => h (i + 1) b' m' (by simpa using h1) (by simpa using h2))
theorem Ot.any {xs : List V} {o : HO} (h : Ot H0 H F A M bs y q ts ns) (hp : H0 p = some o) (hq : H p = some (.lst xs)) : Any (del H p) (.ref F) (draftD y q ts ns) := by
  have ne : ∀ b, H0 b = none → b ≠ p := fun b hb z => by rw [z, hp] at hb; cases hb
  refine .lst (by rw [del_ne (ne _ h.nf)]; exact h.f) (.cons (.str y) (.cons (.int q) (.cons (.lst (by rw [del_ne (ne _ h.na)]; exact h.a) (nats_anyL ts)) (.cons (.lst (by rw [del_ne (ne _ h.nm)]; exact h.m) (sheets_any h.sh.1 fun i b m h1 h2 => ?_)) .nil))))
  obtain ⟨rs, e1, e2⟩ := h.sh.2 i b m h1 h2
  exact ⟨rs, by rw [del_ne (ne _ (h.nb b (List.mem_of_getElem? h1)))]; exact e1, anyL_noL hq _ _ e2 (noL_rowsT m)⟩
end
end Rw
set_option Elab.async false
set_option linter.all false
set_option maxRecDepth 100000
set_option maxHeartbeats 4000000
namespace Rw
open PySem PySem.Spec PyProof.Rows L2
theorem bx_on {H H' : Hp} {p : Addr} {n : Nat} (b : Bx H p n) (k : ∀ o, H p = some o → H' p = some o) : Bx H' p n := by
  obtain ⟨c1, c2, c3, h1, rest⟩ := b
  exact ⟨c1, c2, c3, k _ h1, rest⟩
theorem nodup_inj {α : Type} : ∀ {l : List α} (_ : l.Nodup) {i j : Nat} {a : α} (_ : l[i]? = some a) (_ : l[j]? = some a), i = j
  | [], _, i, j, a, h, _ => by simp at h
  | x :: l, nd, 0, 0, a, _, _ => rfl
  | x :: l, nd, 0, j + 1, a, h1, h2 => by
    have e : x = a := by simpa using h1
    subst e
    exact absurd (List.mem_of_getElem? (by simpa using h2)) (List.nodup_cons.mp nd).1
  | x :: l, nd, i + 1, 0, a, h1, h2 => by
    have e : x = a := by simpa using h2
    subst e
    exact absurd (List.mem_of_getElem? (by simpa using h1)) (List.nodup_cons.mp nd).1
  | x :: l, nd, i + 1, j + 1, a, h1, h2 => by
    rw [nodup_inj (List.nodup_cons.mp nd).2 (i := i) (j := j) (by simpa using h1) (by simpa using h2)]
/-- one sheet's row exchanged -/
theorem ShAt.row {H : Hp} {bs : List Addr} {ns : List (List (List Int))} {k j : Nat} {b t : Addr} {m : List (List Int)} {r : List Int} {rs : List V} (h : ShAt H bs ns) (nd : bs.Nodup) (hb : bs[k]? = some b) (hm : ns[k]? = some m) (eb : H b = some (.lst rs)) (al : AnyL H rs (m.map tupI)) (et : H t = some (.tup (r.map V.int))) : ShAt (upd H b (.lst (rs.set j (.ref t)))) bs (ns.set k (m.set j r)) := by
  have lt : Lt H (upd H b (.lst (rs.set j (.ref t)))) := Lt.put eb
  refine ⟨by rw [List.length_set]; exact h.1, fun i b' m' h1 h2 => ?_⟩
  by_cases z : k = i
  · subst z
    rw [hb] at h1
    cases Option.some.inj h1
    rw [List.getElem?_set_self (List.getElem?_eq_some_iff.mp hm).1] at h2
    cases Option.some.inj h2
    refine ⟨_, upd_same, anyL_lt lt _ _ ?_ (noL_rowsT _)⟩
    rw [List.map_set]
    exact anyL_set al (tupI_any et)
  · rw [List.getElem?_set_ne z] at h2
    obtain ⟨rs', e1, e2⟩ := h.2 i b' m' h1 h2
    have ne : b' ≠ b := fun y => by
      subst y
      have i1 := (List.getElem?_eq_some_iff.mp h1)
      have i2 := (List.getElem?_eq_some_iff.mp hb)
      obtain ⟨l1, g1⟩ := i1
      obtain ⟨l2, g2⟩ := i2
      exact z (nodup_inj nd h1 hb).symm
    exact ⟨rs', by rw [upd_ne ne]; exact e1, anyL_lt lt _ _ e2 (noL_rowsT _)⟩
end Rw
set_option Elab.async false
set_option linter.all false
set_option maxRecDepth 100000
set_option maxHeartbeats 4000000
namespace Rw
open PySem PySem.Spec PyProof.Rows L2
theorem bars_len {n : Nat} (h : n ≤ 7) : (barsL n).length ≤ 49 := by
  have h1 := pre_len n n
  have h3 : n * n ≤ 7 * 7 := Nat.mul_le_mul h h
  exact Nat.le_trans h1 h3
structure GAt (H0 H1 : Hp) (G : Addr) (acc : List V) : Prop where
  nd : acc.Nodup
  s : ∀ v, v ∈ acc → ∃ b rs, v = .ref b ∧ H0 b = none ∧ b ≠ G ∧ H1 b = some (.lst rs) ∧ ∀ r, r ∈ rs → r ∉ acc ∧ ∃ c xs, r = .ref c ∧ H0 c = none ∧ c ≠ G ∧ H1 c = some (.lst xs) ∧ xs.length ≤ 1000
structure MI (H0 H1 Hs : Hp) (p G : Addr) (N : Nat) (acc : List V) (i L : Nat) (H : Hp) : Prop where
  g : Grow p H0 H
  b : Bx H p N
  c : H G = some (.lst acc)
  t : Lt Hs H
  e : ∀ j b rs, i ≤ j → acc[j]? = some (.ref b) → H1 b = some (.lst rs) → H b = some (.lst rs)
  f : ∀ b rs r c, V.ref b ∈ acc → H1 b = some (.lst rs) → r ∈ rs → r = .ref c → ∃ xs, H c = some (.lst xs) ∧ xs.length ≤ L
section
variable {H0 H1 Hs H : Hp} {p G : Addr} {N i L : Nat} {acc : List V} {o : HO}
theorem MI.row {b c : Addr} {rs xs : List V} {y : V} (g : GAt H0 H1 G acc) (hp : H0 p = some o) (m : MI H0 H1 Hs p G N acc i L H) (hb : V.ref b ∈ acc) (eb : H1 b = some (.lst rs)) (hc : V.ref c ∈ rs) (ec : H c = some (.lst xs)) (lx : xs.length ≤ L) : MI H0 H1 Hs p G N acc i (L + 1) (upd H c (.lst (xs ++ [y]))) := by
  obtain ⟨b', rs', e1, h1, h2, h3, h4⟩ := g.s _ hb
  cases e1
  rw [eb] at h3
  cases h3
  obtain ⟨n1, c', xs', e2, c0, cG, _⟩ := h4 _ hc
  cases e2
  have cp : p ≠ c := fun z => by rw [← z, hp] at c0; cases c0
  refine ⟨fun d u ne e => ?_, bx_on m.b fun u e => by rw [upd_ne cp]; exact e, by rw [upd_ne cG.symm]; exact m.c, m.t.trans (Lt.put ec), fun j d ds hj hd ed => ?_, fun d ds r u hd ed hr er => ?_⟩
  · rw [upd_ne (ne_of_none e c0)]
    exact m.g d u ne e
  · have : d ≠ c := fun z => n1 (by rw [← z]; exact List.mem_of_getElem? hd)
    rw [upd_ne this]
    exact m.e j d ds hj hd ed
  · obtain ⟨zs, e5, l5⟩ := m.f d ds r u hd ed hr er
    by_cases z : u = c
    · rw [z]
      exact ⟨_, upd_same, by rw [List.length_append]; show xs.length + 1 ≤ _; omega⟩
    · exact ⟨zs, by rw [upd_ne z]; exact e5, by omega⟩
theorem MI.mono {L' : Nat} (m : MI H0 H1 Hs p G N acc i L H) (h : L ≤ L') : MI H0 H1 Hs p G N acc i L' H := ⟨m.g, m.b, m.c, m.t, m.e, fun b rs r c hb eb hr er => by
  obtain ⟨xs, e, l⟩ := m.f b rs r c hb eb hr er
  exact ⟨xs, e, by omega⟩⟩
end
end Rw
set_option Elab.async false
set_option linter.all false
set_option maxRecDepth 100000
set_option maxHeartbeats 4000000
namespace Rw
open PySem PySem.Spec PyProof.Rows L2
end Rw
set_option Elab.async false
set_option linter.all false
set_option maxRecDepth 100000
set_option maxHeartbeats 4000000
namespace Rw
open PySem PySem.Spec PyProof.Rows L2
def intD : PyData → Int
  | .int n => n | _ => 0
def cellD (e : PyData) (c : Nat) : Int := intD ((itemsD e)[c]?.getD .none)
def prodsL (dv dm : PyData) (c : Nat) : List Int := ((itemsD dv).zip (itemsD dm)).map fun q => intD q.1 * cellD q.2 c
/-- the sum of rows, each times its factor -/
def mixL (p : Int) (dv dm : PyData) (w : Nat) : List Int := (List.range w).map fun c => (prodsL dv dm c).sum.fmod p
def spMixed : Sp := fun vs H Q _ => ∃ (p : Int) (va vm : V) (dv dm : PyData) (w : Nat), vs = [.int p, va, vm, .int (w : Int)] ∧ p ≠ 0 ∧ Any H va dv ∧ Any H vm dm ∧ Fit1 dv ∧ Fit dm ∧ isVecD (itemsD dm).length dv = true ∧ isMatD (itemsD dm).length w dm = true ∧ w ≤ 1000 ∧
  ∀ t H', H t = none → Same H H' → H' t = some (.tup ((mixL p dv dm w).map V.int)) → Q (.ref t) H'
theorem mulW_ok {a b : Int} (h1 : a.natAbs.log2 < 400) (h2 : b.natAbs.log2 < 400) : CMulW a b := by
  show a.natAbs.log2 + b.natAbs.log2 < 1000000
  omega
end Rw
set_option Elab.async false
set_option linter.all false
set_option maxRecDepth 100000
set_option maxHeartbeats 4000000
namespace Rw
open PySem PySem.Spec PyProof.Rows L2
def isArD : PyData → Bool
  | .str z => decide (z = ">") || decide (z = "<")
  | _ => false
end Rw
set_option Elab.async false
set_option linter.all false
set_option maxRecDepth 100000
set_option maxHeartbeats 4000000
namespace Rw
open PySem PySem.Spec PyProof.Rows L2
end Rw
set_option Elab.async false
set_option linter.all false
set_option maxRecDepth 100000
set_option maxHeartbeats 4000000
namespace Rw
open PySem PySem.Spec PyProof.Rows L2
def Big (e : Int) : Prop := e.natAbs < 10 ^ 29
structure BigM (k w : Nat) (m : List (List Int)) : Prop where
  h : m.length = k
  w : ∀ r, r ∈ m → r.length = w ∧ ∀ e, e ∈ r → Big e
theorem isMat_f {k w : Nat} {m : List (List Int)} (h : m.length = k) (hw : ∀ r, r ∈ m → r.length = w) (f : List Int → PyData) (hf : ∀ r, f r = .tuple (r.map .int) ∨ f r = .list (r.map .int)) : isMatD (k : Nat) (w : Nat) (.list (m.map f)) = true := by
  unfold isMatD
  rw [Bool.and_eq_true, Bool.and_eq_true]
  refine ⟨rfl, decide_eq_true (by show (((m.map f).length : Nat) : Int) = _; rw [List.length_map, h]), List.all_eq_true.mpr fun d hd => ?_⟩
  obtain ⟨r, hr, rfl⟩ := List.mem_map.mp hd
  have key : isSeqD (f r) = true ∧ itemsD (f r) = r.map .int := by
    rcases hf r with z | z <;> rw [z] <;> exact ⟨rfl, rfl⟩
  unfold isVecD
  rw [Bool.and_eq_true, Bool.and_eq_true, key.1, key.2]
  refine ⟨rfl, decide_eq_true (by rw [List.length_map, hw r hr]), List.all_eq_true.mpr fun e he => ?_⟩
  obtain ⟨n, _, rfl⟩ := List.mem_map.mp he
  rfl
end Rw
set_option Elab.async false
set_option linter.all false
set_option maxRecDepth 100000
set_option maxHeartbeats 4000000
namespace Rw
open PySem PySem.Spec PyProof.Rows L2
end Rw
set_option Elab.async false
set_option linter.all false
set_option maxRecDepth 100000
set_option maxHeartbeats 4000000
namespace Rw
open PySem PySem.Spec PyProof.Rows L2
/-- rows of numbers, each a list or a tuple -/
inductive Like : List PyData → List (List Int) → Prop
  | nil : Like [] []
  | cons {d : PyData} {r : List Int} {ds : List PyData} {m : List (List Int)} : d = tupI r ∨ d = lstI r → Like ds m → Like (d :: ds) (r :: m)
theorem Like.len {ds : List PyData} {m : List (List Int)} (a : Like ds m) : ds.length = m.length := by
  induction a with
  | nil => rfl
  | cons k _ ih => rw [List.length_cons, List.length_cons, ih]
theorem Like.mem {ds : List PyData} {m : List (List Int)} (a : Like ds m) : ∀ d, d ∈ ds → ∃ r, r ∈ m ∧ (d = tupI r ∨ d = lstI r) := by
  induction a with
  | nil => intro d hd; cases hd
  | cons k _ ih =>
    intro d hd
    rcases List.mem_cons.mp hd with z | z
    · rw [z]; exact ⟨_, List.mem_cons_self, k⟩
    · obtain ⟨r, hr, h⟩ := ih d z
      exact ⟨r, List.mem_cons_of_mem _ hr, h⟩
theorem inB_yes {i lo hi : Int} (h1 : lo ≤ i) (h2 : i ≤ hi) : inB (.int i) (.int lo) (.int hi) = true := by
  show (decide (lo ≤ i) && decide (i ≤ hi)) = true
  rw [Bool.and_eq_true]
  exact ⟨decide_eq_true h1, decide_eq_true h2⟩
end Rw
set_option Elab.async false
set_option linter.all false
set_option maxRecDepth 100000
set_option maxHeartbeats 4000000
namespace Rw
open PySem PySem.Spec PyProof.Rows L2
structure Dr where
  x : Str
  q : Int
  ss : List Nat
  ms : List (List (List Int))
abbrev RowD (C : Addr) (H : Hp) (a : Addr) (d : Dr) : Prop := RowOf C H a d.x d.q d.ss d.ms
abbrev GoodD (d : Dr) : Prop := Good d.x d.q d.ss d.ms
inductive RowsL (C : Addr) (H : Hp) : List V → List Dr → Prop
  | nil : RowsL C H [] []
  | cons {a : Addr} {d : Dr} {vs : List V} {ds : List Dr} : RowD C H a d → RowsL C H vs ds → RowsL C H (.ref a :: vs) (d :: ds)
theorem RowsL.len {C : Addr} {H : Hp} {vs : List V} {ds : List Dr} (h : RowsL C H vs ds) : vs.length = ds.length := by
  induction h with
  | nil => rfl
  | cons _ _ ih => rw [List.length_cons, List.length_cons, ih]
theorem RowsL.move {C : Addr} {H H' : Hp} {vs : List V} {ds : List Dr} (k : ∀ a d, RowD C H a d → RowD C H' a d) (h : RowsL C H vs ds) : RowsL C H' vs ds := by
  induction h with
  | nil => exact .nil
  | cons r _ ih => exact .cons (k _ _ r) ih
theorem RowsL.one {C a : Addr} {H : Hp} {d : Dr} (r : RowD C H a d) : RowsL C H [.ref a] [d] := .cons r .nil
/-- the rows ahead (the oldest first), the present one, the rows behind (the one due next first) -/
structure St where
  past : List Dr
  here : Dr
  later : List Dr
structure GoodS (n : Nat) (s : St) : Prop where
  p : ∀ d, d ∈ s.past → GoodD d
  h : GoodD s.here
  l : ∀ d, d ∈ s.later → GoodD d
  n : s.past.length + s.later.length ≤ n
def Str0 (D : Addr) (H : Hp) (a dx R tp tu : Addr) : Prop := H a = some (.ins D dx [("_row", .ref R), ("_past", .ref tp), ("_undone", .ref tu)])
structure StrIn (D C : Addr) (H : Hp) (a dx R tp tu : Addr) (ps us : List V) (s : St) : Prop where
  o : Str0 D H a dx R tp tu
  r : RowD C H R s.here
  ep : H tp = some (.tup ps)
  p : RowsL C H ps s.past
  eu : H tu = some (.tup us)
  u : RowsL C H us s.later.reverse
def StrAt (D C : Addr) (H : Hp) (a : Addr) (s : St) : Prop := ∃ dx R tp tu ps us, StrIn D C H a dx R tp tu ps us s
theorem StrAt.keep {D C a : Addr} {H H' : Hp} {s : St} (h : StrAt D C H a s) (k : Same H H') : StrAt D C H' a s := by
  obtain ⟨dx, R, tp, tu, ps, us, i⟩ := h
  exact ⟨dx, R, tp, tu, ps, us, k _ _ i.o, i.r.keep k, k _ _ i.ep, i.p.move fun _ _ r => RowAt.keep r k, k _ _ i.eu, i.u.move fun _ _ r => RowAt.keep r k⟩
theorem StrAt.lt {D C a : Addr} {H H' : Hp} {s : St} (h : StrAt D C H a s) (k : Lt H H') : StrAt D C H' a s := by
  obtain ⟨dx, R, tp, tu, ps, us, i⟩ := h
  exact ⟨dx, R, tp, tu, ps, us, k _ _ i.o (fun _ z => nomatch z), row_lt i.r k, k _ _ i.ep (fun _ z => nomatch z), i.p.move fun _ _ r => row_lt r k, k _ _ i.eu (fun _ z => nomatch z), i.u.move fun _ _ r => row_lt r k⟩
/-- a row is kept where a stream changes -/
theorem row_go {D C b dx : Addr} {fs : List (Str × V)} {H H' : Hp} (ne : C ≠ D) (e : H b = some (.ins D dx fs)) (g : Grow b H H') {a : Addr} {d : Dr} (r : RowD C H a d) : RowD C H' a d := by
  obtain ⟨dy, ts, tm, h1, h2, h3⟩ := r
  have ab : a ≠ b := fun z => by
    rw [z, e] at h1
    injection Option.some.inj h1 with h4
    exact ne h4.symm
  exact ⟨dy, ts, tm, g _ _ ab h1, h2.keeps (keeps_ins e g), h3.keeps (keeps_ins e g)⟩
theorem StrIn.lasts {D C a b dx R tp tu : Addr} {ps us : List V} {H H' : Hp} {s : St} {dy : Addr} {fs : List (Str × V)} (i : StrIn D C H a dx R tp tu ps us s) (ne : C ≠ D) (e : H b = some (.ins D dy fs)) (g : Grow b H H') : RowD C H' R s.here ∧ H' tp = some (.tup ps) ∧ RowsL C H' ps s.past ∧ H' tu = some (.tup us) ∧ RowsL C H' us s.later.reverse :=
  ⟨row_go ne e g i.r, (keeps_ins e g).t _ _ i.ep, i.p.move fun _ _ r => row_go ne e g r, (keeps_ins e g).t _ _ i.eu, i.u.move fun _ _ r => row_go ne e g r⟩
theorem StrAt.go {D C a b : Addr} {H H' : Hp} {s t : St} (h : StrAt D C H a s) (h2 : StrAt D C H b t) (ab : a ≠ b) (ne : C ≠ D) (g : Grow b H H') : StrAt D C H' a s := by
  obtain ⟨dx, R, tp, tu, ps, us, i⟩ := h
  obtain ⟨dy, _, _, _, _, _, j⟩ := h2
  obtain ⟨h1, h2, h3, h4, h5⟩ := i.lasts ne j.o g
  exact ⟨dx, R, tp, tu, ps, us, g _ _ ab i.o, h1, h2, h3, h4, h5⟩
theorem StrAt.keeps {D C a : Addr} {H H' : Hp} {s : St} (h : StrAt D C H a s) (g : Grow a H H') : Keeps H H' := by
  obtain ⟨dx, R, tp, tu, ps, us, i⟩ := h
  exact keeps_ins i.o g
theorem StrAt.ins {D C a : Addr} {H : Hp} {s : St} (h : StrAt D C H a s) : ∃ dx fs, H a = some (.ins D dx fs) := by
  obtain ⟨dx, R, tp, tu, ps, us, i⟩ := h
  exact ⟨_, _, i.o⟩
end Rw
set_option Elab.async false
set_option linter.all false
set_option maxRecDepth 100000
set_option maxHeartbeats 4000000
namespace Rw
open PySem PySem.Spec PyProof.Rows L2
section
variable {X : Cx}
def rReprA : List V → Hp → VK → Prop := fun xs H Q => ∃ (v : V) (d : PyData), xs = [v] ∧ Any H v d ∧ d.showable = true ∧ d.depth ≤ 60 ∧ d.shown.length ≤ sizeLine ∧ Q (.str d.shown) H
theorem call_reprA (gu : X.A.guards = some []) (hu : X.A.units + 64 < cLine) : CallR X (.builtin "repr") rReprA := by
  intro pins s σ H xs us Q I r h
  obtain ⟨v, d, rfl, an, sh, dp, sz, q⟩ := h
  cases v with
  | ref a => exact call_repr gu hu pins s σ H _ us Q I r ⟨a, d, rfl, an, sh, dp, sz, q⟩
  | _ =>
    obtain ⟨u, rfl, ru⟩ := vals1 r
    cases an <;> first
      | (cases (show u = Value.none from ru); exact PySem.P.repr_of_none ⟨V.str "None", H, I.tok _, ⟨_, rfl⟩, by simpa only [PyData.shown] using q⟩)
      | (cases (show u = Value.bool _ from ru); exact PySem.P.repr_of_bool ⟨V.str _, H, I.tok _, ⟨_, rfl⟩, by simpa only [PyData.shown] using q⟩)
      | (obtain ⟨t, rfl⟩ := (show ∃ t, u = Value.int _ t from ru); exact PySem.P.repr_of_int (by simpa [PyData.showable] using sh) ⟨V.str _, H, I.tok _, ⟨_, rfl⟩, by simpa only [PyData.shown] using q⟩)
      | (obtain ⟨t, rfl⟩ := (show ∃ t, u = Value.str _ t from ru); exact PySem.P.repr_of_str ⟨V.str _, H, I.tok _, ⟨_, rfl⟩, by simpa only [PyData.shown] using q⟩ (by simpa only [PyData.shown] using sz))
end
end Rw
set_option Elab.async false
set_option linter.all false
set_option maxRecDepth 100000
set_option maxHeartbeats 800000
namespace Rw
open PySem PySem.Spec PyProof.Rows L2
def msk (M : List Addr) (H : Hp) : Hp := fun b => if b ∈ M then none else H b
theorem msk_out {M : List Addr} {H : Hp} {b : Addr} (h : b ∉ M) : msk M H b = H b := if_neg h
theorem msk_at {M : List Addr} {H : Hp} {b : Addr} {o : HO} (e : msk M H b = some o) : b ∉ M ∧ H b = some o := by
  unfold msk at e
  by_cases z : b ∈ M
  · rw [if_pos z] at e; cases e
  · rw [if_neg z] at e; exact ⟨z, e⟩
theorem msk_same {M : List Addr} {H H' : Hp} (k : Same H H') : Same (msk M H) (msk M H') := fun b o e => by
  obtain ⟨z, e⟩ := msk_at e
  rw [msk_out z]
  exact k b o e
def MOk (M : List Addr) (H : Hp) : Prop := ∀ b, b ∈ M → ∃ o, H b = some o ∧ ∀ xs, o ≠ .tup xs
theorem MOk.new {M : List Addr} {H : Hp} {l : Addr} (m : MOk M H) (h : H l = none) : l ∉ M := fun z => by
  obtain ⟨o, e, _⟩ := m l z
  rw [h] at e
  cases e
theorem MOk.keep {M : List Addr} {H H' : Hp} (m : MOk M H) (k : Same H H') : MOk M H' := fun b hb => by
  obtain ⟨o, e, n⟩ := m b hb
  exact ⟨o, k _ _ e, n⟩
theorem MOk.grow {M : List Addr} {H H' : Hp} {p : Addr} {o : HO} (m : MOk M H) (g : Grow p H H') (hp : H' p = some o) (n : ∀ xs, o ≠ .tup xs) : MOk M H' := fun b hb => by
  by_cases z : b = p
  · rw [z]; exact ⟨o, hp, n⟩
  · obtain ⟨u, e, nu⟩ := m b hb
    exact ⟨u, g _ _ z e, nu⟩
theorem MOk.box {M : List Addr} {H H' : Hp} {p : Addr} {n : Nat} (m : MOk M H) (g : Grow p H H') (b : Bx H' p n) : MOk M H' := by
  obtain ⟨xs, e⟩ := bx_at b
  exact m.grow g e fun _ z => by cases z
theorem msk_new {M : List Addr} {H : Hp} {l : Addr} {o : HO} (m : MOk M H) (h : H l = none) : Same (msk M H) (msk M (upd H l o)) ∧ msk M (upd H l o) l = some o :=
  ⟨msk_same (same_new h), by rw [msk_out (m.new h)]; exact upd_same⟩
theorem GoodS.more {n m : Nat} {s : St} (g : GoodS n s) (h : n ≤ m) : GoodS m s := ⟨g.p, g.h, g.l, Nat.le_trans g.n h⟩
end Rw
set_option Elab.async false
set_option linter.all false
set_option maxRecDepth 100000
set_option maxHeartbeats 800000
namespace Rw
open PySem PySem.Spec PyProof.Rows L2
theorem lay {M : List Addr} {H : Hp} {l : Addr} {vs : List V} {ds : List PyData} (m : MOk M H) (hl : H l = none) (al : AnyL (msk M H) vs ds) : Any (msk M (upd H l (.lst vs))) (.ref l) (.list ds) ∧ Same H (upd H l (.lst vs)) ∧ MOk M (upd H l (.lst vs)) := by
  obtain ⟨k, e⟩ := msk_new (o := .lst vs) m hl
  exact ⟨.lst e (anyL_keep k al), same_new hl, m.keep (same_new hl)⟩
def z7 : List Int := [0, 0, 0, 0, 0, 0, 0]
theorem tq_fine {d : PyData} (h : Tq 4 d) : d.showable = true ∧ d.depth ≤ 60 ∧ d.shown.length ≤ sizeLine :=
  ⟨h.sh, by have := h.dp; omega, Nat.le_trans h.ln (by decide +kernel)⟩
end Rw
set_option Elab.async false
set_option linter.all false
set_option maxRecDepth 100000
set_option maxHeartbeats 800000
namespace Rw
open PySem PySem.Spec PyProof.Rows L2
end Rw
set_option Elab.async false
set_option linter.all false
set_option maxRecDepth 100000
set_option maxHeartbeats 800000
namespace Rw
open PySem PySem.Spec PyProof.Rows L2
end Rw
set_option Elab.async false
set_option linter.all false
set_option maxRecDepth 100000
set_option maxHeartbeats 800000
namespace Rw
open PySem PySem.Spec PyProof.Rows L2
/-- one entry of a locked dict with tuple keys, as it lies -/
theorem ent_T {X : Cx} {pins : List (Addr × Obj)} {σ : L2.St} {H : Hp} {s : Shared} {d : Addr} {o : Obj} {kvs : List (List L2.Key × V)} (I : Inv X pins σ H s) (h : H d = some (.frz o (.dT kvs))) :
    (d == sysModules) = false ∧ ∃ (es : Array DictEntry) (ep : Nat), DT.Raw s.heap d es ep ∧ o.data = .dict es ep ∧ o.ExactDict ∧ es.size = kvs.length ∧ kvs.length ≤ sizeLine ∧
      ∀ (i : Nat) (k : List L2.Key) (v : V), kvs[i]? = some (k, v) → ∃ (en : DictEntry) (q : Addr), es[i]? = some en ∧ en.key = .ref q ∧ RelV v en.val ∧ H q = some (.tup (k.map kV)) := by
  obtain ⟨g0, z0, m0, xs, rel, o2, es, ep, g1, ex, dat, ents, _⟩ := I.hok d _ h
  have same : o2 = o := Option.some.inj (g1.symm.trans g0)
  subst same
  have n1 : es.size = xs.length := size_of_entries ents
  have n2 : kvs.length = xs.length := Paired.length rel
  refine ⟨m0, es, ep, ⟨o2, g0, ex, dat⟩, dat, ex, n1.trans n2.symm, z0, fun i k v e => ?_⟩
  obtain ⟨b, hb, e1, e2, e3⟩ := paired_get rel e
  have w0 := entry_at ents i
  rw [hb] at w0
  exact ⟨_, b.2.1, w0, rfl, e3, e2⟩
/-- the pairs, each a new tuple of the key's own tuple and the value -/
def Itp (d : Addr) (o : Obj) (kvs : List (List L2.Key × V)) : It where
  go := fun i H => H d = some (.frz o (.dT kvs)) ∧ i < kvs.length
  yld := fun i H x H' => ∃ T k v q, kvs[i]? = some (k, v) ∧ H q = some (.tup (k.map kV)) ∧ x = .ref T ∧ H T = none ∧ H' = upd H T (.tup [.ref q, v])
  stop := fun i H => H d = some (.frz o (.dT kvs)) ∧ kvs.length ≤ i
theorem turn_p {P : Program} {w : World} {K : PySem.W.Frag} {d : Addr} {o : Obj} {es : Array DictEntry} {ep : Nat} {kvs : List (List L2.Key × V)} {elts : List Expr} {kk : Nat} {tpos : Pos} (it : Addr) (hod : o.data = .dict es ep) :
    Turn P w K (.Tuple elts kk tpos) (Itp d o kvs) [it] it (fun i h => ∃ ok ov, IsItemIter h it d i kvs.length ep ok ov) := by
  have mem : it ∈ [it] := List.mem_singleton.mpr rfl
  refine { mem := mem, obj := ?_, keep := ?_, item := ?_, done := ?_, self := ?_ }
  · rintro i h ⟨ok, ov, e⟩ b hb
    cases List.mem_singleton.mp hb
    exact ⟨_, e, fun v z => nomatch z⟩
  · rintro i h h' ⟨ok, ov, e⟩ k
    exact ⟨ok, ov, k it mem _ e⟩
  · rintro X rfl rfl rfl hc i pins s σ H E I fp ⟨ok, ov, e⟩ ⟨hd, hi⟩
    obtain ⟨nm, es1, ep1, raw, dat, ex, len, _, ents⟩ := ent_T I hd
    cases hod.symm.trans dat
    have hi2 : i < es.size := by rw [len]; exact hi
    obtain ⟨⟨k, v⟩, hkv⟩ : ∃ p, kvs[i]? = some p := ⟨_, List.getElem?_eq_getElem hi⟩
    obtain ⟨en, q, g1, g2, g3, g4⟩ := ents i k v hkv
    have g5 : es[i] = en := by
      rw [Array.getElem?_eq_getElem hi2] at g1
      exact Option.some.inj g1
    rw [← len] at e
    have low : it < s.heap.objs.size := Heap.lt_size e
    refine DT.nextI e raw hi2 fun h1 out tup sz old => ?_
    refine ⟨_, rfl, wpAny_letOwnedTupleGo_items (s := { s with heap := h1 }) out fun h2 back sb => ?_⟩
    have tup2 : h2.get? s.heap.objs.size = some { cls := .type "tuple", data := .seq #[es[i].key, es[i].val] } := (sb.2 _ (Nat.ne_of_gt low)).trans tup
    rw [g5] at tup2 back
    have made : ObjOk X.prog X.w (upd H s.heap.objs.size (.tup [.ref q, v])) h2 s.heap.objs.size (.tup [.ref q, v]) :=
      ⟨by show 2 ≤ sizeLine; decide, [en.key, en.val], .cons g2 (.cons g3 .nil), ⟨_, tup2, rfl, _, rfl⟩⟩
    have J := I.turnedNew (t' := s.toks) (ch := [it]) (h' := h2) (fun b ob hb z => (sb.2 b (fun y => hb (by rw [y]; exact mem))).trans (old b ob (fun y => hb (by rw [y]; exact mem)) z)) fp (Nat.le_refl _) made
    refine ⟨.ref s.heap.objs.size, _, J, rfl, ⟨_, k, v, q, hkv, g4, rfl, I.hok.fresh (Nat.le_refl _), rfl⟩, ⟨en.key, en.val, ?_⟩, fun b hb => ?_⟩
    · rw [← len]
      exact back
    · rw [List.mem_singleton.mp hb, upd_ne (Nat.ne_of_lt low)]
      exact (fp it mem).1
  · rintro X rfl rfl rfl hc i pins s σ H E I fp ⟨ok, ov, e⟩ ⟨hd, hi⟩
    obtain ⟨nm, es1, ep1, raw, dat, ex, len, _, ents⟩ := ent_T I hd
    cases hod.symm.trans dat
    obtain ⟨f0, f1, f2, f3, f4, f5⟩ := fp it mem
    rw [← len] at e hi
    exact DT.endI (I.ok.hd hc) e raw hi fun h1 eb => ⟨rfl, I.turned (t' := s.toks) (fun b ob hb z => eb b ob hb z) f0 f1 f3 f4 f5⟩
  · rintro A i s Q E ⟨ok, ov, e⟩ hq
    exact PySem.W.kcp_self e hq
/-- d.items() of a locked dict with tuple keys -/
def iItp (td : TE) : TI := fun σ H R => td σ H fun x H1 => ∃ d o kvs, x = .ref d ∧ H1 d = some (.frz o (.dT kvs)) ∧ R (Itp d o kvs) H1
theorem pi_itp {X : Cx} {e : Expr} {td : TE} {apos cpos : Pos} {elts : List Expr} {kk : Nat} {tpos : Pos} (he : PE X e td) (hb : attributeBase e "items" X.env (eval e X.env) = eval e X.env := by rfl) (hl : (apos.endLine == cpos.line) = true := by rfl) :
    PI X (.Tuple elts kk tpos) (.Call (.Attribute e "items" apos) [] [] cpos) (iItp td) := by
  constructor
  intro pins s σ H R I h
  refine wpAny_Call_method (T := "dict") (id := "dict.items") hb rfl hl F.plainAttrs_dict F.slot_dict_items F.type_dict_items (thn (he.run pins s σ H _ I h) ?_)
  rintro u s1 ⟨x, H1, J, rx, d, o, kvs, rfl, hd, q⟩
  cases rx
  obtain ⟨nm, es, ep, raw, dat, ex, len, _, ents⟩ := ent_T J hd
  refine ⟨raw.typeIs, ?_, ?_⟩
  · intro a e
    cases e
    obtain ⟨oo, g, ed, _⟩ := raw
    exact ⟨oo, g, ed.2.1⟩
  have J2 : Inv X pins σ H1 { s1 with heap := s1.heap.push { cls := .type "dict_items", data := .fields #[.ref d] } } := J.kept (t' := s1.toks) fun b ob z => Heap.get?_push_of_some _ z
  show wpAny _ _ (callWith cpos (.builtin "dict.items") [.ref d] [] []) _ X.xe s1
  refine method_meetsIn F.slot_dict_items F.entry_dict_items rfl (PySem.evalArgs_none ⟨rfl, raw.typeIs, F.args_dict_items_1 _, _, DT.meetsItems (es := es) (ep := ep) nm, ⟨raw, ?_⟩⟩)
  refine DT.iterI (d := d) ⟨_, Heap.get?_push_size _ rfl, rfl, rfl⟩ (raw.push _) (pi_one (tk := s1.toks) J2 _ (turn_p _ dat) ⟨.none, .none, ?_⟩ q)
  rw [← len]
  exact Heap.get?_push_size _ rfl
theorem walk_itp {d : Addr} {o : Obj} {kvs : List (List L2.Key × V)} : Walk (Itp d o kvs) kvs.length (fun H => H d = some (.frz o (.dT kvs))) (fun i H x H' => ∃ T k v q, kvs[i]? = some (k, v) ∧ H q = some (.tup (k.map kV)) ∧ x = .ref T ∧ H T = none ∧ H' = upd H T (.tup [.ref q, v])) :=
  ⟨fun i H hi q => ⟨q, hi⟩, fun H q => ⟨q, Nat.le_refl _⟩, fun i H x H' hi q y => y⟩
end Rw
set_option Elab.async false
set_option linter.all false
set_option maxRecDepth 100000
set_option maxHeartbeats 1500000
namespace Rw
open PySem PySem.Spec PyProof.Rows L2
section
variable {X : Cx}
/-- a tuple of ints and texts put as a key -/
theorem put_T {pins : List (Addr × Obj)} {σ : L2.St} {H : Hp} {s : Shared} {E : Value → Shared → Prop} {D q : Addr} {kvs : List (List L2.Key × V)} {k : List L2.Key} {v : V} {r : Value} {Q : Unit → Shared → Prop} (hu : X.A.units < cLine) (I : Inv X pins σ H s)
    (e : H D = some (.dT kvs)) (eq : H q = some (.tup (k.map kV))) (l : kvs.length < sizeLine) (rv : RelV v r) (h : ∀ s', Inv X pins σ (upd H D (.dT (putK kvs k v))) s' → Q () s') : wpAny (model X.prog X.w) X.A (dictSet D (.ref q) r) Q E s := by
  obtain ⟨_, nm, xs, rel, raw⟩ := dt_of I.hok e
  have few : xs.length ≤ sizeLine := by
    have := Paired.length rel
    omega
  have most : (putK kvs k v).length ≤ sizeLine := Nat.le_trans (length_putK kvs k v) l
  refine wpAny_dictSet_heap (hsz := few) hu (key_of I.hok eq) raw fun h1 raw1 sb => h _ ?_
  obtain ⟨ob, es, ep, g1, g2, g3, g4, _, g5⟩ := raw1
  refine d_write I (by rw [e]; exact True.intro) sb ⟨ob, g1⟩ ⟨most, nm, _, (rel.put k eq rv).keeps fun c ys ec => ?_, ob, es, ep, g1, g2, g3, g4, g5⟩
  have ne : c ≠ D := fun z => by rw [z, e] at ec; cases ec
  rw [upd_ne ne]
  exact ec
/-- what {k: v for target in iter if ..} asks, its keys tuples: D the new dict -/
def tDcT (wi : TI) (g : TG) (tt : TT) (tk tv : TE) (vs : List Nat) : TE := fun σ H Q => wi σ H fun J H1 => ∀ D, H1 D = none →
  ∃ W : Nat → Nat → Hp → Prop, (∃ m, W 0 m (upd H1 D (.dT []))) ∧ ∀ i m G, W i m G → (J.stop i G ∧ Q (.ref D) G) ∨ (J.go i G ∧ ∃ Nx : Hp → Prop, (∀ G', Nx G' → ∃ m', m' < m ∧ W (i + 1) m' G') ∧
    ∀ x G', J.yld i G x G' → g x (wipe σ vs) G' fun σ2 G2 => wipe σ2 vs = wipe σ vs ∧ tt σ2 G2 fun b G3 =>
      if b = true then tk σ2 G3 fun y G4 => tv σ2 G4 fun z G5 => ∃ kvs k q, y = .ref q ∧ G5 q = some (.tup (k.map kV)) ∧ G5 D = some (.dT kvs) ∧ kvs.length < sizeLine ∧ Nx (upd G5 D (.dT (putK kvs k z))) else Nx G3)
theorem pe_dcT {kx vx tg iter : Expr} {ifs : List Expr} {scope : Scope} {own : List (Str × Nat)} {pos : Pos} {wi : TI} {g : TG} {tt : TT} {tk tv : TE} (hu : X.A.units < cLine) (hc : X.calm = true) (hN : X.N.Nodup) (hi : PI X tg iter wi) (ok : BlkOk X.N X.env.scope scope own)
    (hg : ∀ (s : Shared) (H : Hp) (C : Addr) (cl : List (Str × Addr)) (fp : List Addr), PG (X.blk s H scope (compEnvC scope cl C X.env) fp) tg g)
    (ht : ∀ (s : Shared) (H : Hp) (C : Addr) (cl : List (Str × Addr)) (fp : List Addr), PTs (X.blk s H scope (compEnvC scope cl C X.env) fp) ifs tt) (hk : ∀ (s : Shared) (H : Hp) (C : Addr) (cl : List (Str × Addr)) (fp : List Addr), PE (X.blk s H scope (compEnvC scope cl C X.env) fp) kx tk)
    (he : ∀ (s : Shared) (H : Hp) (C : Addr) (cl : List (Str × Addr)) (fp : List Addr), PE (X.blk s H scope (compEnvC scope cl C X.env) fp) vx tv)
    (hs : ∀ x, foldedSetIterable iter X.env x = pure x := by intro _; rfl) : PE X (.DictComp kx vx [⟨tg, iter, ifs, 0⟩] scope pos) (tDcT wi g tt tk tv (own.map (·.2))) := by
  constructor
  intro pins s σ H Q I h
  rw [arm_eval_DictComp]
  have cells : ∀ y ∈ scope.names, y.2 = .free → ∃ c, X.env.cells.lookup y.1 = some c := fun y hy e => (ok.free y hy e).elim (fun k => I.ok.has _ (.inl k)) fun k => I.ok.has _ (.inr k)
  refine wpAny_comprehension_free (use := none) rfl hs (closure_ok cells) ok.kind (fun y hy e => by rw [ok.uniq y hy, e]) (thn (hi.run pins s σ H _ I h) fun src s1 w1 => thn w1 fun itr s2 w2 => ?_)
  obtain ⟨it, fp, tn, J, G, rfl, I2, T, st2, f2, q⟩ := w2
  refine wpAny_newObj_type ?_
  refine newEnv_comp ?_
  obtain ⟨D, eD⟩ : ∃ D, s2.heap.objs.size = D := ⟨_, rfl⟩
  have freeD : G D = none := I2.hok.fresh (Nat.le_of_eq eD)
  obtain ⟨W, ⟨m0, first⟩, turn⟩ := q D freeD
  rw [eD]
  -- the dict is laid
  have I3 : Inv X pins σ (upd G D (.dT [])) { s2 with heap := s2.heap.push { cls := .type "dict", data := .dict #[] } } := by
    refine I2.laid (t' := s2.toks) (fun b o e => Heap.get?_push_of_some _ e) (Nat.le_of_eq eD) ?_
    have := dt_empty (P := X.prog) (w := X.w) (H := upd G D (.dT [])) s2.heap I2.big
    rw [eD] at this
    exact this
  obtain ⟨s3, e3⟩ : ∃ s3 : Shared, s3 = { s2 with heap := s2.heap.push { cls := .type "dict", data := .dict #[] } } := ⟨_, rfl⟩
  have hp3 : s3.heap = s2.heap.push { cls := .type "dict", data := .dict #[] } := by rw [e3]
  rw [← e3] at I3 ⊢
  have low : ∀ b ∈ fp, b < s2.heap.objs.size := fun b hb => (T.obj _ _ st2 b hb).elim fun o e => Heap.lt_size e.1
  have ne0 : ∀ b ∈ fp, b ≠ D := fun b hb z => Nat.lt_irrefl D (by have := low b hb; rw [eD, z] at this; exact this)
  have f3 : ∀ b ∈ fp, FpOk X pins (upd G D (.dT [])) b ∧ b < s3.heap.objs.size := fun b hb =>
    ⟨⟨by rw [upd_ne (ne0 b hb)]; exact (f2 b hb).1, (f2 b hb).2⟩, by rw [hp3, Heap.size_push]; exact Nat.lt_succ_of_lt (low b hb)⟩
  have st3 : tn 0 s3.heap := T.keep _ _ _ st2 fun b _ o e => by rw [hp3]; exact Heap.get?_push_of_some _ e
  have B4 := block_start I3 ok hN f3
  have qg := hg s3 (upd G D (.dT [])) s3.heap.objs.size (cellsFrom (s3.heap.objs.size + 1) scope.names (cloFrom X.env.cells scope.names [])) fp
  have qt := ht s3 (upd G D (.dT [])) s3.heap.objs.size (cellsFrom (s3.heap.objs.size + 1) scope.names (cloFrom X.env.cells scope.names [])) fp
  have qk := hk s3 (upd G D (.dT [])) s3.heap.objs.size (cellsFrom (s3.heap.objs.size + 1) scope.names (cloFrom X.env.cells scope.names [])) fp
  have qe := he s3 (upd G D (.dT [])) s3.heap.objs.size (cellsFrom (s3.heap.objs.size + 1) scope.names (cloFrom X.env.cells scope.names [])) fp
  have off : ∀ b ∈ fp, (upd G D (.dT [])) b = none := fun b hb => (f3 b hb).1.1
  obtain ⟨ce, ece⟩ : ∃ ce, ce = compEnvC scope (cellsFrom (s3.heap.objs.size + 1) scope.names (cloFrom X.env.cells scope.names [])) s3.heap.objs.size X.env := ⟨_, rfl⟩
  have loc : ce.locals = s3.heap.objs.size := by rw [ece] <;> rfl
  show codeAny (model X.prog X.w) X.A (.compStart (.DictComp kx vx [⟨tg, iter, ifs, 0⟩] scope pos) 0 (.ref it) (.ref D) (compEnvC scope (cellsFrom (s3.heap.objs.size + 1) scope.names (cloFrom X.env.cells scope.names [])) s3.heap.objs.size X.env)) (compPost (model X.prog X.w) X.A X.xe none (EP X pins σ Q) (.ref D) s3.heap.objs.size) { s3 with heap := pushCells (s3.heap.push { cls := .type "dict", data := .dict #[] }) scope.names }
  rw [← ece] at B4 qg qt qk qe ⊢
  obtain ⟨G3, eG3⟩ : ∃ G3, G3 = upd G D (.dT []) := ⟨_, rfl⟩
  rw [← eG3] at I3 B4 qg qt qk qe first off f3
  obtain ⟨s4, e4⟩ : ∃ s4 : Shared, s4 = { s3 with heap := pushCells (s3.heap.push { cls := .type "dict", data := .dict #[] }) scope.names } := ⟨_, rfl⟩
  rw [← e4] at B4 ⊢
  have st4 : tn 0 s4.heap := T.keep _ _ _ st3 fun b _ o e => by rw [e4]; exact pushCells_keeps _ _ _ _ (Heap.get?_push_of_some _ e)
  have own4 : ∀ {τ : L2.St} {G' : Hp} {s' : Shared}, Inv (X.blk s3 G3 scope ce fp) [] τ G' s' → (∀ b ∈ fp, G' b = none) → ∀ b ∈ fp, FpOk (X.blk s3 G3 scope ce fp) [] G' b := fun {τ G' s'} L hn b hb =>
    ⟨hn b hb, (L.ok.exf b hb).1, L.ok.exfs b hb, .inl hb, (L.ok.exf b hb).2, fun p hp => absurd (show p ∈ ([] : List (Addr × Obj)) ++ [] from hp) (by simp)⟩
  have loop : codeAny (model X.prog X.w) X.A (.compLoop (.DictComp kx vx [⟨tg, iter, ifs, 0⟩] scope pos) 0 (.ref it) (.ref D) ce) (compPost (model X.prog X.w) X.A X.xe none (EP X pins σ Q) (.ref D) s3.heap.objs.size) s4 := by
    refine compLoop_anyD (fun n s' => ∃ i G', Inv (X.blk s3 G3 scope ce fp) [] (wipe σ (own.map (·.2))) G' s' ∧ tn i s'.heap ∧ (∀ b ∈ fp, G' b = none) ∧ W i n G') ?_ m0 ⟨0, G3, B4, st4, off, first⟩
    rintro n s5 ⟨i, G5, I5, st5, n5, w5⟩
    rcases turn i n G5 w5 with ⟨over, res⟩ | ⟨more, Nx, hNx, step⟩
    · refine thnF (T.done (X.blk s3 G3 scope ce fp) rfl rfl rfl hc i [] s5 _ G5 (fun _ _ => False) I5 (own4 I5 n5) st5 over) ?_
      rintro r s6 ⟨rfl, I6⟩
      have back : Inv X pins σ G5 s6 := I3.call' (ch := fp) I6.os I6.base I6.hok I6.bare fun b hb =>
        let z := (f3 b hb).1.2
        ⟨z.2.2.1, z.1, z.2.2.2.1, z.2.2.2.2⟩
      have nl : G5 s3.heap.objs.size = none := by rw [← loc]; exact I6.free
      obtain ⟨mm, hn, _⟩ := I6.loc
      have hn : s6.heap.Ns ce.locals mm := hn
      rw [loc] at hn
      obtain ⟨f0, f1, f2', f3', f4, f5⟩ := I3.fpOk (Nat.le_refl _) nl
      exact ⟨mm, hn, fun h'' sb => ⟨.ref D, G5, back.turned (t' := s6.toks) (fun b o hb e => (sb.2 b hb).trans e) f0 f1 f3' f4 f5, rfl, res⟩⟩
    · refine thnF (T.item (X.blk s3 G3 scope ce fp) rfl rfl rfl hc i [] s5 _ G5 (fun _ _ => False) I5 (own4 I5 n5) st5 more) ?_
      rintro r s6 ⟨u, rfl, h6⟩
      refine thnF h6 ?_
      rintro _ s7 ⟨x, G7, I7, r7, y7, st7, n7⟩
      have I7p := I7.pinned (own4 I7 n7) (T.obj _ _ st7)
      refine thnF (qg.run _ s7 _ G7 x u _ I7p r7 (step x G7 y7)) ?_
      rintro _ s8 ⟨τ, G8, I8, wip, q8⟩
      refine thnF (qt.run _ s8 τ G8 _ I8 q8) ?_
      rintro b s9 ⟨G9, I9, q9⟩
      have finish : ∀ {s' : Shared} {G' : Hp}, Inv (X.blk s3 G3 scope ce fp) ([] ++ pinsAt fp s7.heap) τ G' s' → Nx G' → ∃ m, m < n ∧ ∃ i G', Inv (X.blk s3 G3 scope ce fp) [] (wipe σ (own.map (·.2))) G' s' ∧ tn i s'.heap ∧ (∀ b ∈ fp, G' b = none) ∧ W i m G' := fun {s' G'} I' nx => by
        obtain ⟨m', hm, w'⟩ := hNx G' nx
        have same : ∀ b ∈ fp, ∀ o, s7.heap.get? b = some o → s'.heap.get? b = some o ∧ G' b = none := fun b hb o e =>
          have z := I'.pin (b, o) (List.mem_append_right _ (List.mem_append_right _ (mem_pinsAt hb e))); ⟨z.1, z.2.1⟩
        have len : (wipe σ (own.map (·.2))).length = τ.length := by rw [← wip, wipe_length]
        refine ⟨m', hm, i + 1, G', (I'.unpinned (pins := [])).weak len (fun j v e => ?_), T.keep _ _ _ st7 fun b hb o e => (same b hb o e).1, fun b hb => ?_, w'⟩
        · rw [← wip] at e
          exact (wipe_some e).1
        · obtain ⟨ob, eb, _⟩ := T.obj _ _ st7 b hb
          exact (same b hb ob eb).2
      cases b with
      | false => exact finish I9 q9
      | true =>
        have q9' : tk τ G9 _ := q9
        refine thnF (qk.run _ s9 τ G9 _ I9 q9') ?_
        rintro z s10 ⟨yk, G10, I10, r10, q10⟩
        refine thnF (qe.run _ s10 τ G10 _ I10 q10) ?_
        rintro z2 s11 ⟨yv, G11, I11, r11, kvs, k, qa, rfl, hq, hD11, hz, nx⟩
        cases r10
        exact put_T (X := X.blk s3 G3 scope ce fp) hu I11 hD11 hq hz r11 fun s12 I12 => finish I12 nx
  refine codeAny_compStart_dict loop ?_
  exact T.self X.A 0 _ _ _ st4 loop
end
end Rw
set_option Elab.async false
set_option linter.all false
set_option maxRecDepth 100000
set_option maxHeartbeats 4000000
namespace Rw
open PySem PySem.Spec PyProof.Rows L2
end Rw
set_option Elab.async false
set_option linter.all false
set_option maxRecDepth 100000
set_option maxHeartbeats 4000000
namespace Rw
open PySem PySem.Spec PyProof.Rows L2
end Rw
set_option Elab.async false
set_option linter.all false
set_option maxRecDepth 100000
set_option maxHeartbeats 4000000
namespace Rw
open PySem PySem.Spec PyProof.Rows L2
def isTupD : PyData → Bool
  | .tuple _ => true | _ => false
theorem kit_tup {K : PySem.W.Frag} (d : PyData) : PySem.W.kitOne K (.type (kindS d)) (.type "tuple") = some (isTupD d) := by
  cases d with
  | none => exact kit_ty (show kitB "NoneType" "tuple" = some false by decide +kernel)
  | bool b => exact kit_ty (show kitB "bool" "tuple" = some false by decide +kernel)
  | int i => exact kit_ty (show kitB "int" "tuple" = some false by decide +kernel)
  | str x => exact kit_ty (show kitB "str" "tuple" = some false by decide +kernel)
  | list xs => exact kit_ty (show kitB "list" "tuple" = some false by decide +kernel)
  | tuple xs => exact kit_ty (show kitB "tuple" "tuple" = some true by decide +kernel)
  | dict kvs => exact kit_ty (show kitB "dict" "tuple" = some false by decide +kernel)
/-- a bar of a pattern with k arrows -/
def isBarD (k : Nat) : PyData → Bool
  | .tuple [a, b] => inB a (.int 0) (.int (k : Nat)) && inB b a (.int (k : Nat))
  | _ => false
theorem bar_of {k : Nat} {d : PyData} (h : isBarD k d = true) : ∃ b e : Nat, d = barD (b, e) ∧ b ≤ e ∧ e ≤ k := by
  match d, h with
  | .tuple [a, b], h =>
    have h2 : (inB a (.int 0) (.int (k : Nat)) && inB b a (.int (k : Nat))) = true := h
    rw [Bool.and_eq_true] at h2
    obtain ⟨h3, h4⟩ := h2
    cases a with
    | int i =>
      cases b with
      | int j =>
        have h5 : (decide ((0 : Int) ≤ i) && decide (i ≤ (k : Nat))) = true := h3
        have h6 : (decide (i ≤ j) && decide (j ≤ (k : Nat))) = true := h4
        rw [Bool.and_eq_true] at h5 h6
        have a1 := of_decide_eq_true h5.1
        have a2 := of_decide_eq_true h6.1
        have a3 := of_decide_eq_true h6.2
        refine ⟨i.toNat, j.toNat, ?_, by omega, by omega⟩
        show PyData.tuple [.int i, .int j] = .tuple [.int (i.toNat : Nat), .int (j.toNat : Nat)]
        rw [Int.toNat_of_nonneg a1, Int.toNat_of_nonneg (by omega)]
      | _ => cases h4
    | _ => cases h3
theorem bar_is {k b e : Nat} (h1 : b ≤ e) (h2 : e ≤ k) : isBarD k (barD (b, e)) = true := by
  show (inB (.int (b : Nat)) (.int 0) (.int (k : Nat)) && inB (.int (e : Nat)) (.int (b : Nat)) (.int (k : Nat))) = true
  show ((decide ((0 : Int) ≤ (b : Nat)) && decide (((b : Nat) : Int) ≤ (k : Nat))) && (decide (((b : Nat) : Int) ≤ (e : Nat)) && decide (((e : Nat) : Int) ≤ (k : Nat)))) = true
  rw [Bool.and_eq_true, Bool.and_eq_true, Bool.and_eq_true]
  exact ⟨⟨decide_eq_true (by omega), decide_eq_true (by omega)⟩, ⟨decide_eq_true (by omega), decide_eq_true (by omega)⟩⟩
/-- a pair of ints that lies at p -/
def PairAt (H : Hp) (p : Addr) (b e : Nat) : Prop := H p = some (.tup [.int (b : Nat), .int (e : Nat)])
theorem PairAt.keep {H H' : Hp} {p : Addr} {b e : Nat} (h : PairAt H p b e) (k : Same H H') : PairAt H' p b e := k _ _ h
theorem PairAt.any {H : Hp} {p : Addr} {b e : Nat} (h : PairAt H p b e) : Any H (.ref p) (barD (b, e)) := .tup h (.cons (.int _) (.cons (.int _) .nil))
def spBarP : Sp := fun vs H Q _ => ∃ x v d, vs = [.str x, v] ∧ x.length ≤ 1000 ∧ Any H v d ∧ Q (.bl (isBarD x.length d)) H
end Rw
set_option Elab.async false
set_option linter.all false
set_option maxRecDepth 100000
set_option maxHeartbeats 4000000
namespace Rw
open PySem PySem.Spec PyProof.Rows L2
end Rw
set_option Elab.async false
set_option linter.all false
set_option maxRecDepth 100000
set_option maxHeartbeats 4000000
namespace Rw
open PySem PySem.Spec PyProof.Rows L2
end Rw
set_option Elab.async false
set_option linter.all false
set_option maxRecDepth 100000
set_option maxHeartbeats 4000000
namespace Rw
open PySem PySem.Spec PyProof.Rows L2
section
variable {K : PySem.W.Frag} {σ : L2.St} {H : Hp} {Q : VK}
abbrev rLe : R2 := rI0 fun i j => .bl (decide (i ≤ j))
theorem chain_go {ta tb tc : TE} {i j k : Nat} (ha : ∀ Q : VK, Q (.int (i : Nat)) H → ta σ H Q) (hb : ∀ Q : VK, Q (.int (j : Nat)) H → tb σ H Q) (hc : ∀ Q : VK, Q (.int (k : Nat)) H → tc σ H Q) (q : Q (.bl (decide (i ≤ j ∧ j ≤ k))) H) : tChain rLe rLe ta tb tc σ H Q := by
  refine ha _ (hb _ ⟨_, _, rfl, rfl, _, rfl, ite2 (fun z => ?_) (fun z => ?_)⟩)
  · refine hc _ ⟨_, _, rfl, rfl, ?_⟩
    have z2 : i ≤ j := by have := of_decide_eq_true z; omega
    have e : decide (i ≤ j ∧ j ≤ k) = decide ((j : Int) ≤ (k : Int)) := by
      by_cases h : j ≤ k
      · rw [decide_eq_true (⟨z2, h⟩ : i ≤ j ∧ j ≤ k), decide_eq_true (by omega)]
      · rw [decide_eq_false (fun y => h y.2), decide_eq_false (by omega)]
    rw [e] at q
    exact q
  · have z2 : ¬ i ≤ j := fun y => z (decide_eq_true (by omega))
    rw [decide_eq_false (fun y => z2 y.1)] at q
    exact q
theorem var_go {v : Nat} {x : V} (h : σ[v]? = some (some x)) : ∀ Q : VK, Q x H → tVar v σ H Q := fun Q q => ⟨_, h, q⟩
end
theorem isPat_of {x : Str} (px : Pat x 6) : isPatD (.str x) = true := by
  show (decide (x.length ≤ 6) && x.cps.toList.all isArr) = true
  rw [decide_eq_true px.l, px.a] <;> rfl
end Rw
set_option Elab.async false
set_option linter.all false
set_option maxRecDepth 100000
set_option maxHeartbeats 4000000
namespace Rw
open PySem PySem.Spec PyProof.Rows L2
theorem op_mulS {X : Cx} : OpR X (binaryOp .Mult) (fun x y H Q => ∃ (z : Str) (n : Int), x = .str z ∧ y = .int n ∧ PySem.MulOk z n ∧ Q (.str (Txt.mul z n)) H) := by
  intro pins s σ H x y v u Q I rx ry h
  obtain ⟨z, n, rfl, rfl, hz, q⟩ := h
  obtain ⟨t, rfl⟩ := rx
  obtain ⟨t', rfl⟩ := ry
  exact PySem.SB.mul hz fun t' k => ⟨.str (Txt.mul z n), H, I.tok k, ⟨_, rfl⟩, q⟩
end Rw
set_option Elab.async false
set_option linter.all false
set_option maxRecDepth 100000
set_option maxHeartbeats 1500000
namespace Rw
open PySem PySem.Spec PyProof.Rows L2
/-- a line of a table -/
def lineB (n i : Nat) (r : PyData) : Bool := isSeqD r && (decide ((itemsD r).length + i = n) && (itemsD r).all isSzD)
def isTabD (d : PyData) : Bool := isSeqD d && ((decide (1 ≤ (itemsD d).length) && decide ((itemsD d).length ≤ 7)) && (List.range (itemsD d).length).all fun i => lineB (itemsD d).length i (atD d i))
structure WideD (d : PyData) : Prop where
  len : (itemsD d).length ≤ 1000
  sub : ∀ e, e ∈ itemsD d → (itemsD e).length ≤ 1000
structure CN (c n : Nat) : Prop where
  c : c ≤ 6
  n0 : 0 < n
  n : n ≤ 7
/-- the arrows between n places -/
def patX (k : Nat) : Str := Txt.mul ">" ((k : Nat) : Int)
def okPatX (k : Nat) : Bool := decide ((patX k).length = k) && (isPatD (.str (patX k)) && (List.range k).all fun i => isR (patX k) i)
theorem all_patX : ((List.range 7).all okPatX) = true := by decide +kernel
theorem pat_X {k : Nat} (h : k ≤ 6) : (patX k).length = k ∧ isPatD (.str (patX k)) = true ∧ ∀ i, i < k → isR (patX k) i = true := by
  have h1 := List.all_eq_true.mp all_patX k (List.mem_range.mpr (by omega))
  unfold okPatX at h1
  rw [Bool.and_eq_true, Bool.and_eq_true] at h1
  exact ⟨of_decide_eq_true h1.1, h1.2.1, fun i hi => List.all_eq_true.mp h1.2.2 i (List.mem_range.mpr hi)⟩
def keyT (q : Nat × Nat) : List Key := [.inl ((q.1 : Nat) : Int), .inl ((q.2 : Nat) : Int)]
theorem bars_mem {n : Nat} {q : Nat × Nat} (h : q ∈ barsL n) : q.1 ≤ q.2 ∧ q.2 < n := by
  unfold barsL preL partL at h
  obtain ⟨a, h1, h2⟩ := List.mem_flatMap.mp h
  obtain ⟨b, h3, rfl⟩ := List.mem_map.mp h2
  rw [List.mem_filter, List.mem_range] at h3
  exact ⟨of_decide_eq_true h3.2, h3.1⟩
def nodupB (n : Nat) : Bool := (List.range (barsL n).length).all fun i => decide ((barsL n)[i]?.getD (9, 9) ∉ (barsL n).take i)
theorem all_nodup : ((List.range 8).all nodupB) = true := by decide +kernel
theorem bars_new {n i : Nat} {q : Nat × Nat} (h : n ≤ 7) (e : (barsL n)[i]? = some q) : q ∉ (barsL n).take i := by
  have h1 := List.all_eq_true.mp all_nodup n (List.mem_range.mpr (by omega))
  have hi : i < (barsL n).length := (List.getElem?_eq_some_iff.mp e).1
  have h2 := of_decide_eq_true (List.all_eq_true.mp h1 i (List.mem_range.mpr hi))
  rw [e] at h2
  exact h2
theorem keyT_inj {q r : Nat × Nat} (h : keyT q = keyT r) : q = r := by
  unfold keyT at h
  injection h with h1 h2
  injection h2 with h3 _
  injection h1 with h4
  injection h3 with h5
  exact Prod.ext (Int.ofNat.inj h4) (Int.ofNat.inj h5)
theorem val_none {κ : Type} [DecidableEq κ] {kvs : List (κ × V)} {k : κ} (h : ∀ p, p ∈ kvs → p.1 ≠ k) : valV kvs k = none := by
  unfold valV
  rw [List.find?_eq_none.mpr (fun p hp => by simpa using h p hp)] <;> rfl
theorem put_map {f : Nat × Nat → V} {q : Nat × Nat} {l : List (Nat × Nat)} (h : q ∉ l) : putK (l.map fun r => (keyT r, f r)) (keyT q) (f q) = (l ++ [q]).map fun r => (keyT r, f r) := by
  rw [putK_new _ (val_none fun p hp z => ?_), List.map_append] <;> try rfl
  obtain ⟨r, hr, rfl⟩ := List.mem_map.mp hp
  exact h (keyT_inj z ▸ hr)
/-- a bar as it lies -/
theorem bar_ref {H : Hp} {v : V} {q : Nat × Nat} (h : Any H v (barD q)) : ∃ t, v = .ref t ∧ H t = some (.tup [.int ((q.1 : Nat) : Int), .int ((q.2 : Nat) : Int)]) := by
  cases h with
  | tup e al =>
    cases al with
    | cons a al =>
      cases al with
      | cons b al =>
        cases al
        cases a
        cases b
        exact ⟨_, rfl, e⟩
def spIsTab : Sp := fun vs H Q _ => ∃ v d, vs = [v] ∧ Any H v d ∧ WideD d ∧ ∀ H', Same H H' → Q (.bl (isTabD d)) H'
def spCTab (CB : Addr) : Sp := fun vs H Q E => ∃ v d, vs = [v] ∧ Any H v d ∧ WideD d ∧ (isTabD d = true → ∀ H', Same H H' → Q .non H') ∧ (isTabD d = false → Thrown CB v H E)
end Rw
set_option Elab.async false
set_option linter.all false
set_option maxRecDepth 100000
set_option maxHeartbeats 1500000
namespace Rw
open PySem PySem.Spec PyProof.Rows L2
section
variable {X : Cx}
/-- isinstance(d, c) of such a dict -/
theorem call_isiZ : CallR X (.builtin "isinstance") (fun xs H Q => ∃ (d : Addr) (o : Obj) (kvs : List (List L2.Key × V)) (c : V) (u : Value) (b : Bool), xs = [.ref d, c] ∧ H d = some (.frz o (.dT kvs)) ∧ ClsV c u ∧ PySem.W.kitOne X.K (.type "dict") u = some b ∧ Q (.bl b) H) := by
  intro pins s σ H xs us Q I r h
  obtain ⟨d, o, kvs, c, u, b, rfl, hd, k, e, q⟩ := h
  obtain ⟨u1, u2, rfl, r1, r2⟩ := vals2 r
  have e2 := k.eq r2
  subst e2
  cases (show u1 = Value.ref d from r1)
  obtain ⟨_, _, _, xs, _, o2, es, ep, h1, h2, _⟩ := (show ObjOk X.prog X.w H s.heap d (.frz o (.dT kvs)) from I.hok d _ hd)
  exact PySem.W.kia_one PySem.W.kitx_dict I.kIn ⟨o2, h1, h2.1⟩ e (fun z => nomatch z) fun tk => ⟨.bl b, H, I.tok tk, rfl, q⟩
def tupK (k : List L2.Key) : PyData := .tuple (k.map keyD)
theorem any_key {H : Hp} : ∀ k : L2.Key, Any H (kV k) (keyD k)
  | .inl i => .int i
  | .inr x => .str x
theorem any_keys {H : Hp} : ∀ ks : List L2.Key, AnyL H (ks.map kV) (ks.map keyD)
  | [] => .nil
  | k :: ks => .cons (any_key k) (any_keys ks)
theorem any_tupK {H : Hp} {b : Addr} {k : List L2.Key} (e : H b = some (.tup (k.map kV))) : Any H (.ref b) (tupK k) := .tup e (any_keys k)
end
end Rw
set_option Elab.async false
set_option linter.all false
set_option maxRecDepth 100000
set_option maxHeartbeats 1500000
namespace Rw
open PySem PySem.Spec PyProof.Rows L2
/-- the entries of a dict of numbers -/
def nmE (q : (Nat × Nat) × Nat) : List L2.Key × V := (keyT q.1, .int ((q.2 : Nat) : Int))
def nmT (T : Nums) : List (List L2.Key × V) := T.map nmE
def nmD (T : Nums) : List PyData := T.map fun q => natD q.2
def NumAt (H : Hp) (d : Addr) (T : Nums) : Prop := ∃ o, H d = some (.frz o (.dT (nmT T)))
theorem NumAt.keep {H H' : Hp} {d : Addr} {T : Nums} (h : NumAt H d T) (k : Same H H') : NumAt H' d T := by
  obtain ⟨o, e⟩ := h
  exact ⟨o, k _ _ e⟩
theorem nm_any {H : Hp} : ∀ T : Nums, AnyL H ((nmT T).map (·.2)) (nmD T)
  | [] => .nil
  | q :: T => .cons (.int _) (nm_any T)
structure GoodB (n : Nat) (T : Nums) : Prop where
  ok : ∀ q ∈ T, q.1.1 ≤ q.1.2 ∧ q.1.2 ≤ n
  lo : ∀ q ∈ T, q.2 ≤ 6
/-- bars and numbers alone -/
def numOkB (n : Nat) (k : List L2.Key) (d : PyData) : Bool := isBarD n (tupK k) && inB d (.int 0) (.int 6)
def numsOk (n : Nat) (kvs : List (List L2.Key × V)) (ds : List PyData) : Bool := (kvs.zip ds).all fun q => numOkB n q.1.1 q.2
theorem key_data : ∀ {k : L2.Key} {i : Int}, keyD k = .int i → k = .inl i
  | .inl j, i, h => by cases h; rfl
  | .inr y, i, h => by cases h
theorem key_of_bar {n : Nat} {k : List L2.Key} (h : isBarD n (tupK k) = true) : ∃ q : Nat × Nat, k = keyT q ∧ q.1 ≤ q.2 ∧ q.2 ≤ n := by
  obtain ⟨b, e, h1, h2, h3⟩ := bar_of h
  have h4 : k.map keyD = [.int (b : Nat), .int (e : Nat)] := by
    have : PyData.tuple (k.map keyD) = .tuple [.int (b : Nat), .int (e : Nat)] := h1
    injection this
  refine ⟨(b, e), ?_, h2, h3⟩
  match k, h4 with
  | [k1, k2], h4 =>
    rw [List.map_cons, List.map_cons] at h4
    injection h4 with a1 a2
    injection a2 with a2 _
    rw [key_data a1, key_data a2] <;> rfl
theorem num_of {d : PyData} (h : inB d (.int 0) (.int 6) = true) : ∃ m : Nat, d = natD m ∧ m ≤ 6 := by
  cases d with
  | int i =>
    have h5 : (decide ((0 : Int) ≤ i) && decide (i ≤ 6)) = true := h
    rw [Bool.and_eq_true] at h5
    have a1 := of_decide_eq_true h5.1
    have a2 := of_decide_eq_true h5.2
    refine ⟨i.toNat, ?_, by omega⟩
    unfold natD
    rw [Int.toNat_of_nonneg a1]
  | _ => cases h
theorem nums_of {n : Nat} {H : Hp} : ∀ {kvs : List (List L2.Key × V)} {ds : List PyData}, AnyL H (kvs.map (·.2)) ds → numsOk n kvs ds = true → ∃ T, kvs = nmT T ∧ GoodB n T
  | [], ds, _, _ => ⟨[], rfl, ⟨(fun q h => by cases h), (fun q h => by cases h)⟩⟩
  | (k, v) :: kvs, ds, a, h => by
    cases a with
    | @cons _ _ d ds' a1 a2 =>
      have h2 : (numOkB n k d && numsOk n kvs ds') = true := h
      rw [Bool.and_eq_true] at h2
      obtain ⟨T, e1, g⟩ := nums_of a2 h2.2
      have h3 : (isBarD n (tupK k) && inB d (.int 0) (.int 6)) = true := h2.1
      rw [Bool.and_eq_true] at h3
      obtain ⟨q, rfl, q1, q2⟩ := key_of_bar h3.1
      obtain ⟨m, rfl, m6⟩ := num_of h3.2
      have ev : v = .int ((m : Nat) : Int) := by
        have a1 : Any H v (.int ((m : Nat) : Int)) := a1
        cases a1
        rfl
      subst ev
      refine ⟨(q, m) :: T, by rw [e1] <;> rfl, ⟨fun r hr => ?_, fun r hr => ?_⟩⟩
      · rcases List.mem_cons.mp hr with z | z
        · rw [z]; exact ⟨q1, q2⟩
        · exact g.ok r z
      · rcases List.mem_cons.mp hr with z | z
        · rw [z]; exact m6
        · exact g.lo r z
theorem nums_ok {n : Nat} : ∀ {T : Nums}, GoodB n T → numsOk n (nmT T) (nmD T) = true
  | [], _ => rfl
  | q :: T, g => by
    show (numOkB n (keyT q.1) (natD q.2) && numsOk n (nmT T) (nmD T)) = true
    rw [nums_ok ⟨fun r hr => g.ok r (List.mem_cons_of_mem _ hr), fun r hr => g.lo r (List.mem_cons_of_mem _ hr)⟩, Bool.and_true]
    obtain ⟨q1, q2⟩ := g.ok q List.mem_cons_self
    have h1 := bar_is q1 q2
    have h2 := g.lo q List.mem_cons_self
    show (isBarD n (barD (q.1.1, q.1.2)) && inB (natD q.2) (.int 0) (.int 6)) = true
    rw [h1, Bool.true_and]
    exact inB_yes (by omega) (by omega)
def spCNumsT (CN : Addr) : Sp := fun vs H Q E => ∃ x d o kvs ds, vs = [.str x, .ref d] ∧ x.length ≤ 6 ∧ H d = some (.frz o (.dT kvs)) ∧ AnyL H (kvs.map (·.2)) ds ∧ kvs.length ≤ 900 ∧
  (numsOk x.length kvs ds = true → ∀ H', Same H H' → Q .non H') ∧ (numsOk x.length kvs ds = false → Thrown CN (.ref d) H E)
def sizesT (n : Nat) (T : Nums) : List Int := (List.range (n + 1)).map fun i => ((szN T i : Nat) : Int)
def spLowSzT (CN CG : Addr) : Sp := fun vs H Q E => ∃ x d o kvs ds, vs = [.str x, .ref d] ∧ x.length ≤ 6 ∧ H d = some (.frz o (.dT kvs)) ∧ AnyL H (kvs.map (·.2)) ds ∧ kvs.length ≤ 900 ∧
  (numsOk x.length kvs ds = false → Thrown CN (.ref d) H E) ∧ (∀ T, kvs = nmT T → GoodB x.length T →
    ((∀ i, i ≤ x.length → szN T i ≤ 6) → ∀ l H', H l = none → Same H H' → H' l = some (.lst ((sizesT x.length T).map V.int)) → Q (.ref l) H') ∧
    (∀ i, i ≤ x.length → 6 < szN T i → (∀ j, j < i → szN T j ≤ 6) → ∀ H', Same H H' → Thrown CG (.int ((szN T i : Nat) : Int)) H' E))
/-- what of a list is taken -/
theorem take_flt {α : Type} {f : α → Bool} {l : List α} {i : Nat} {b : α} (h : l[i]? = some b) : (l.take (i + 1)).filter f = (l.take i).filter f ++ (if f b then [b] else []) := by
  rw [List.take_add_one, h, List.filter_append]
  cases e : f b
  · simp [e]
  · simp [e]
theorem nm_get {T : Nums} {i : Nat} {k : List L2.Key} {v : V} (h : (nmT T)[i]? = some (k, v)) : ∃ q, T[i]? = some q ∧ k = keyT q.1 ∧ v = .int ((q.2 : Nat) : Int) := by
  unfold nmT at h
  rw [List.getElem?_map] at h
  obtain ⟨q, h1, h2⟩ := Option.map_eq_some_iff.mp h
  cases h2
  exact ⟨q, h1, rfl, rfl⟩
theorem sz_filter (T : Nums) (i : Nat) : ((T.filter fun q => covB q.1 i).map fun q => ((q.2 : Nat) : Int)).sum = ((szN T i : Nat) : Int) := by
  induction T with
  | nil => rfl
  | cons q T ih =>
    have e : szN (q :: T) i = (if covB q.1 i then q.2 else 0) + szN T i := by unfold szN; rw [List.map_cons, List.sum_cons]
    rw [e, List.filter_cons]
    by_cases c : covB q.1 i = true
    · rw [if_pos c, if_pos c, List.map_cons, List.sum_cons, ih]
      omega
    · rw [if_neg c, if_neg c, ih, Nat.zero_add]
end Rw
set_option Elab.async false
set_option linter.all false
set_option maxRecDepth 100000
set_option maxHeartbeats 1500000
set_option exponentiation.threshold 3000
namespace Rw
open PySem PySem.Spec PyProof.Rows L2
end Rw
set_option Elab.async false
set_option linter.all false
set_option maxRecDepth 100000
set_option maxHeartbeats 1500000
namespace Rw
open PySem PySem.Spec PyProof.Rows L2
theorem MOk.cons {M : List Addr} {D : Addr} {H : Hp} {xs : List V} (m : MOk M H) (e : H D = some (.lst xs)) : MOk (D :: M) H := fun b hb => by
  rcases List.mem_cons.mp hb with z | z
  · rw [z]; exact ⟨_, e, fun _ y => by cases y⟩
  · exact m b z
theorem MOk.put {M : List Addr} {D : Addr} {H : Hp} {xs : List V} (m : MOk M H) : MOk M (upd H D (.lst xs)) := fun b hb => by
  by_cases z : b = D
  · rw [z]; exact ⟨_, upd_same, fun _ y => by cases y⟩
  · rw [upd_ne z]; exact m b hb
structure Tbl (m : Nat) (rows : List (List Int)) : Prop where
  l : rows.length = m
  m1 : 1 ≤ m
  m7 : m ≤ 7
  w : ∀ i r, rows[i]? = some r → r.length + i = m
  e : ∀ r, r ∈ rows → ∀ x, x ∈ r → 0 ≤ x ∧ x < 7
theorem Tbl.len {m : Nat} {rows : List (List Int)} (t : Tbl m rows) {r : List Int} (h : r ∈ rows) : r.length ≤ 7 := by
  obtain ⟨i, hi⟩ := List.getElem?_of_mem h
  have := t.w i r hi
  have := t.m7
  omega
end Rw
set_option Elab.async false
set_option linter.all false
set_option maxRecDepth 100000
set_option maxHeartbeats 1500000
set_option exponentiation.threshold 3000
namespace Rw
open PySem PySem.Spec PyProof.Rows L2
theorem nmE_inj {a b : (Nat × Nat) × Nat} (h : nmE a = nmE b) : a = b := by
  obtain ⟨⟨b1, e1⟩, m1⟩ := a
  obtain ⟨⟨b2, e2⟩, m2⟩ := b
  simp [nmE, keyT] at h
  obtain ⟨⟨h1, h2⟩, h3⟩ := h
  rw [Int.ofNat.inj h1, Int.ofNat.inj h2]
  first | rw [Int.ofNat.inj h3] | rw [h3]
theorem nmT_inj : ∀ {T U : Nums}, nmT T = nmT U → T = U
  | [], [], _ => rfl
  | [], _ :: _, h => by cases h
  | _ :: _, [], h => by cases h
  | a :: T, b :: U, h => by
    have h : nmE a :: nmT T = nmE b :: nmT U := h
    injection h with h1 h2
    rw [nmE_inj h1, nmT_inj h2]
structure PrN (p : Nat) : Prop where
  m : ((p : Nat) : Int) ∈ primesL
  l : 2 ≤ p
  h : p ≤ 13
theorem pr_nat {q : Int} (h : q ∈ primesL) : ∃ p : Nat, q = ((p : Nat) : Int) ∧ PrN p := by
  have : q = 2 ∨ q = 3 ∨ q = 5 ∨ q = 7 ∨ q = 11 ∨ q = 13 := by
    unfold primesL at h
    simpa using h
  refine ⟨q.toNat, by omega, by rw [show ((q.toNat : Nat) : Int) = q by omega]; exact h, by omega, by omega⟩
theorem PrN.d {p : Nat} (h : PrN p) : isPr (.int ((p : Nat) : Int)) = true := decide_eq_true h.m
/-- numbers whose rows have sizes up to six -/
structure LowM (n : Nat) (M : Nums) : Prop where
  g : GoodB n M
  s : ∀ i, i ≤ n → szN M i ≤ 6
  l : M.length ≤ 900
end Rw
set_option Elab.async false
set_option linter.all false
set_option maxRecDepth 100000
set_option maxHeartbeats 1500000
namespace Rw
open PySem PySem.Spec PyProof.Rows L2
theorem bxB_put {H : Hp} {p a : Addr} {n : Nat} {o : HO} (b : Bx H p n) (ne : a ≠ p) : Bx (upd H a o) p n := by
  obtain ⟨x, y, z, h, r⟩ := b
  exact ⟨x, y, z, by rw [upd_ne ne.symm]; exact h, r⟩
end Rw
set_option Elab.async false
set_option linter.all false
set_option maxRecDepth 100000
set_option maxHeartbeats 1500000
namespace Rw
open PySem PySem.Spec PyProof.Rows L2
def getN : Nums → Nat × Nat → Nat
  | [], _ => 0
  | (r, m) :: T, q => if r = q then m else getN T q
theorem val_nm : ∀ (T : Nums) (q : Nat × Nat), (valV (nmT T) (keyT q)).getD (.int 0) = .int ((getN T q : Nat) : Int)
  | [], q => rfl
  | (r, m) :: T, q => by
    show (valV (nmE (r, m) :: nmT T) (keyT q)).getD (.int 0) = _
    by_cases e : r = q
    · rw [valV_pos (show (nmE (r, m)).1 = keyT q from congrArg keyT e)]
      unfold getN
      rw [if_pos e] <;> rfl
    · rw [valV_neg (show ¬ (nmE (r, m)).1 = keyT q from fun z => e (keyT_inj z)), val_nm T q]
      conv => rhs; unfold getN
      rw [if_neg e]
theorem getN_none : ∀ {T : Nums} {q : Nat × Nat}, q ∉ T.map (·.1) → getN T q = 0
  | [], q, _ => rfl
  | (r, k) :: T, q, h => by
    rw [List.map_cons, List.mem_cons, not_or] at h
    unfold getN
    rw [if_neg (fun z => h.1 z.symm)]
    exact getN_none h.2
/-- numbers drawn -/
structure DrawN (n h : Nat) (T : Nums) : Prop where
  nd : (T.map (·.1)).Nodup
  ok : ∀ q ∈ T, q.1.1 ≤ q.1.2 ∧ q.1.2 ≤ n
  one : ∀ q ∈ T, 1 ≤ q.2
  s : ∀ i, i ≤ n → szN T i ≤ h
theorem cov_first {b e : Nat} (h : b ≤ e) : covB (b, e) b = true := by
  unfold covB
  rw [decide_eq_true (Nat.le_refl _), decide_eq_true h] <;> rfl
theorem sz_ge {T : Nums} {q : (Nat × Nat) × Nat} {i : Nat} (h : q ∈ T) (c : covB q.1 i = true) : q.2 ≤ szN T i := by
  have := sum_one (f := fun q : (Nat × Nat) × Nat => if covB q.1 i then q.2 else 0) h
  simp only [c, if_true] at this
  exact this
theorem DrawN.low {n : Nat} {T : Nums} (d : DrawN n 6 T) (l : T.length ≤ 900) : LowM n T := ⟨⟨d.ok, fun q hq => by
  obtain ⟨q1, q2⟩ := d.ok q hq
  have h1 : q.2 ≤ szN T q.1.1 := sz_ge hq (cov_first q1)
  have := d.s q.1.1 (by omega)
  omega⟩, d.s, l⟩
end Rw
set_option Elab.async false
set_option linter.all false
set_option maxRecDepth 100000
set_option maxHeartbeats 1500000
set_option exponentiation.threshold 3000
namespace Rw
open PySem PySem.Spec PyProof.Rows L2
abbrev Lds := Nat × Nat → Nat × Nat → Bool
end Rw
set_option Elab.async false
set_option linter.all false
set_option maxRecDepth 100000
set_option maxHeartbeats 1500000
set_option exponentiation.threshold 3000
namespace Rw
open PySem PySem.Spec PyProof.Rows L2
/-- shown, of a depth, by so many signs -/
structure Tz (k b : Nat) (d : PyData) : Prop where
  sh : d.showable = true
  dp : d.depth ≤ k
  ln : d.shown.length ≤ b
theorem Tz.up {k b k2 b2 : Nat} {d : PyData} (h : Tz k b d) (l : k ≤ k2) (l2 : b ≤ b2) : Tz k2 b2 d := ⟨h.sh, Nat.le_trans h.dp l, Nat.le_trans h.ln l2⟩
theorem Tz.ok {k b : Nat} {d : PyData} (h : Tz k b d) (l : k ≤ 60) (l2 : b ≤ 1000000) : d.showable = true ∧ d.depth ≤ 60 ∧ d.shown.length ≤ sizeLine := ⟨h.sh, Nat.le_trans h.dp l, Nat.le_trans h.ln (Nat.le_trans l2 (by decide))⟩
theorem tz_all {k b : Nat} : ∀ {ds : List PyData}, (∀ d ∈ ds, Tz k b d) → PyData.showableAll ds = true ∧ PyData.depthAll ds ≤ k ∧ ∀ t ∈ PyData.shownAll ds, t.length ≤ b
  | [], _ => ⟨by simp only [PyData.showableAll], by simp only [PyData.depthAll]; omega, fun t ht => by simp only [PyData.shownAll] at ht; cases ht⟩
  | d :: ds, h => by
    obtain ⟨a, b, c⟩ := tz_all (ds := ds) fun x hx => h x (List.mem_cons_of_mem _ hx)
    have e := h d List.mem_cons_self
    refine ⟨?_, ?_, ?_⟩
    · simp only [PyData.showableAll, e.sh, a, Bool.and_self]
    · simp only [PyData.depthAll]
      have := e.dp
      omega
    · intro t ht
      simp only [PyData.shownAll] at ht
      rcases List.mem_cons.mp ht with z | z
      · rw [z]
        exact e.ln
      · exact c t z
theorem tz_sum {b : Nat} : ∀ {ts : List Str}, (∀ t ∈ ts, t.length ≤ b) → (ts.map (·.length)).sum ≤ ts.length * b
  | [], _ => Nat.zero_le _
  | t :: ts, h => by
    rw [List.map_cons, List.sum_cons, List.length_cons, Nat.succ_mul]
    have := h t List.mem_cons_self
    have := tz_sum fun u (hu : u ∈ ts) => h u (List.mem_cons_of_mem _ hu)
    omega
theorem tz_list {k b m : Nat} {ds : List PyData} (l : ds.length ≤ m) (h : ∀ d ∈ ds, Tz k b d) : Tz (k + 1) (m * b + 2 * m + 3) (.list ds) := by
  obtain ⟨a, c, e⟩ := tz_all h
  refine ⟨by simp only [PyData.showable]; exact a, by simp only [PyData.depth]; omega, ?_⟩
  simp only [PyData.shown]
  have h1 := listText_len_le (PyData.shownAll ds)
  have h2 := tz_sum e
  have h3 : (PyData.shownAll ds).length = ds.length := by rw [shownAll_map, List.length_map]
  rw [h3] at h1 h2
  have h4 : ds.length * b ≤ m * b := Nat.mul_le_mul_right _ l
  omega
theorem tz_tup {k b m : Nat} {ds : List PyData} (l : ds.length ≤ m) (h : ∀ d ∈ ds, Tz k b d) : Tz (k + 1) (m * b + 2 * m + 3) (.tuple ds) := by
  obtain ⟨a, c, e⟩ := tz_all h
  refine ⟨by simp only [PyData.showable]; exact a, by simp only [PyData.depth]; omega, ?_⟩
  simp only [PyData.shown]
  have h1 := tupleText_len_le (PyData.shownAll ds)
  have h2 := tz_sum e
  have h3 : (PyData.shownAll ds).length = ds.length := by rw [shownAll_map, List.length_map]
  rw [h3] at h1 h2
  have h4 : ds.length * b ≤ m * b := Nat.mul_le_mul_right _ l
  omega
theorem tz_int {n : Int} (h : n.natAbs < 2 ^ 1016) : Tz 0 401 (.int n) := by
  refine ⟨?_, by simp only [PyData.depth]; omega, ?_⟩
  · simp only [PyData.showable]
    exact decide_eq_true (Nat.lt_trans (PySem.Flt.log2_lt_of (by decide) h) (by decide))
  · simp only [PyData.shown]
    show (Str.ofString (toString n)).length ≤ 401
    rw [PySem.ofString_length]
    exact int_text_length_le10 (k := 400) (by decide) (Nat.lt_trans h (by decide +kernel))
theorem tz_nat {n : Nat} (h : n < 2 ^ 1016) : Tz 0 401 (.int ((n : Nat) : Int)) := tz_int (by simpa using h)
end Rw
set_option Elab.async false
set_option linter.all false
set_option maxRecDepth 100000
set_option maxHeartbeats 1500000
set_option exponentiation.threshold 3000
namespace Rw
open PySem PySem.Spec PyProof.Rows L2
theorem NumAt.grow {H H' : Hp} {d p : Addr} {T : Nums} {n : Nat} (h : NumAt H d T) (b : Bx H p n) (g : Grow p H H') : NumAt H' d T := by
  obtain ⟨o, e⟩ := h
  obtain ⟨_, _, _, e1, _⟩ := b
  exact ⟨o, g _ _ (ne_of e e1 (fun z => by cases z)) e⟩
/-- the same numbers but for order and zeros -/
structure Form (n : Nat) (T M : Nums) : Prop where
  low : LowM n M
  pm : (posN M).Perm T
theorem Form.keep {n p : Nat} {T M : Nums} {L : Lds} (f : Form n T M) : keepN L p (posN M) = keepN L p T := keep_perm f.pm
/-- the sum over all arrows -/
theorem zip_fst {α β : Type} : ∀ {l : List α} {m : List β}, l.length = m.length → (l.zip m).map (·.1) = l
  | [], _, _ => by simp
  | a :: l, [], h => by cases h
  | a :: l, b :: m, h => by
    rw [List.zip_cons_cons, List.map_cons, zip_fst (by simpa using h)]
theorem zip_snd {α β : Type} : ∀ {l : List α} {m : List β}, l.length = m.length → (l.zip m).map (·.2) = m
  | [], [], _ => rfl
  | [], b :: m, h => by cases h
  | a :: l, [], h => by cases h
  | a :: l, b :: m, h => by
    rw [List.zip_cons_cons, List.map_cons, zip_snd (by simpa using h)]
end Rw
set_option Elab.async false
set_option linter.all false
set_option maxRecDepth 100000
set_option maxHeartbeats 1500000
namespace Rw
open PySem PySem.Spec PyProof.Rows L2
end Rw
set_option Elab.async false
set_option linter.all false
set_option maxRecDepth 100000
set_option maxHeartbeats 1500000
namespace Rw
open PySem PySem.Spec PyProof.Rows L2
/-- the items of a dict's object, in order -/
def ItemsO (o : Obj) (its : List (V × V)) : Prop := ∃ (es : Array DictEntry) (ep : Nat), o.ExactDict ∧ o.data = .dict es ep ∧ Paired (fun (q : V × V) (e : DictEntry) => RelV q.1 e.key ∧ RelV q.2 e.val) its es.toList
/-- a dict whose object is known -/
def DicO (H : Hp) (d : Addr) (its : List (V × V)) : Prop := (d == sysModules) = false ∧ its.length ≤ 1000 ∧ ∃ o u, H d = some (.frz o u) ∧ ItemsO o its
theorem DicO.keep {H H' : Hp} {d : Addr} {its : List (V × V)} (h : DicO H d its) (k : Same H H') : DicO H' d its := by
  obtain ⟨a, b, o, u, e, i⟩ := h
  exact ⟨a, b, o, u, k _ _ e, i⟩
section
variable {X : Cx} {pins : List (Addr × Obj)} {σ : L2.St} {H : Hp} {s : Shared}
theorem DicO.at (I : Inv X pins σ H s) {d : Addr} {its : List (V × V)} (h : DicO H d its) : (d == sysModules) = false ∧ its.length ≤ 1000 ∧ ∃ (o : Obj) (es : Array DictEntry) (ep : Nat), s.heap.get? d = some o ∧ o.ExactDict ∧ o.data = .dict es ep ∧ Paired (fun (q : V × V) (e : DictEntry) => RelV q.1 e.key ∧ RelV q.2 e.val) its es.toList := by
  obtain ⟨a, b, o, u, e, es, ep, h1, h2, h3⟩ := h
  exact ⟨a, b, o, es, ep, (I.hok d _ e).1, h1, h2, h3⟩
end
theorem kt_items {H : Hp} {knd : HeapKind P' w' (List L2.Key)} : ∀ {kvs : List (List L2.Key × V)} {xs : List (List L2.Key × Addr × Value)}, KT H kvs xs → Paired (fun (q : V × V) (e : DictEntry) => RelV q.1 e.key ∧ RelV q.2 e.val) (((xs.map fun x => x.2.1).zip kvs).map fun z => (V.ref z.1, z.2.2)) (xs.map (entryOfKey knd))
  | _, _, .nil => .nil
  | _, _, .cons h t => .cons ⟨rfl, h.2.2⟩ (kt_items t)
/-- the items of a dict with tuple keys, their addresses told -/
def itemsT (bs : List Addr) (kvs : List (List L2.Key × V)) : List (V × V) := (bs.zip kvs).map fun z => (V.ref z.1, z.2.2)
end Rw
set_option Elab.async false
set_option linter.all false
set_option maxRecDepth 100000
set_option maxHeartbeats 1500000
namespace Rw
open PySem PySem.Spec PyProof.Rows L2
section
open PySem.SeqAt AutoSeq1 MeetsSeq MeetsSeq2 MeetsSeq3 SeqRoads2
variable {prog : Program} {w : World} {A : Around} {R : Result → Shared → Prop}
theorem ne_turnsV {l b : Addr} {N : Nat} {I : Nat → Shared → Prop} (hl : GQ.ListI prog w A (fun e s' => R (.error e) s') l b N I) (fin : ∀ s, I N s → R (.ok (.ret (.bool false))) s) :
    ∀ (k i : Nat), N - i = k → i ≤ N → ∀ s, I i s → wpAny (model prog w) A.in1 (Builtin.«list.__eq__.loop» ⟨[.ref l, .ref b, rawInt i, rawInt 3], []⟩) (GQ.FinOf prog w A R) (fun e s' => R (.error e) s') s
  | 0, i, hk, hi, s, h => by
    obtain ⟨ys, zs, n, m, g1, g2, z1, z2, _⟩ := hl _ _ h
    have e : i = N := by omega
    have q : R (.ok (.ret (.bool false))) s := fin s (e ▸ h)
    obtain ⟨hp, g, d, tk, os⟩ := s
    wp_walk using wpAny_loadPart' g1, wpAny_loadPart' g2
    rw [show ys[((i : Nat) : Int).toNat]? = none by simp; omega, show zs[((i : Nat) : Int).toNat]? = none by simp; omega]
    wp_walk using wpAny_loadPart' g1, wpAny_loadPart' g2
    show R (.ok (.ret (.bool (ys.size != zs.size)))) _
    rw [z1, z2]; simpa using q
  | k + 1, i, hk, hi, s, h => by
    obtain ⟨ys, zs, n, m, g1, g2, z1, z2, turn⟩ := hl _ _ h
    have l1 : i < ys.size := by omega
    have l2 : i < zs.size := by omega
    have ht := turn l1 l2
    obtain ⟨hp, g, d, tk, os⟩ := s
    wp_walk using wpAny_loadPart' g1, wpAny_loadPart' g2
    rw [show ys[((i : Nat) : Int).toNat]? = some ys[i] by simp [l1], show zs[((i : Nat) : Int).toNat]? = some zs[i] by simp [l2]]
    refine wpAny_bind (wpAny_mono ht (fun r s2 y => ?_) fun _ _ x => x)
    obtain ⟨rfl, y⟩ := y
    have rec_ := ne_turnsV hl fin k (i + 1) (by omega) (by omega) s2 y
    obtain ⟨hp2, g2', d2, tk2, os2⟩ := s2
    wp_walk
    rw [show ((i : Int) + 1) = ((i + 1 : Nat) : Int) by omega]
    exact ⟨plainId_quiet plain_eq_loop _, codeAny_builtin entry_eq_loop (by rw [Around.under_plainId plain_eq_loop _]; exact rec_)⟩
theorem ne_runV {l b : Addr} {N : Nat} {I : Nat → Shared → Prop} (hl : GQ.ListI prog w A (fun e s' => R (.error e) s') l b N I) (fin : ∀ s, I N s → R (.ok (.ret (.bool false))) s) {s : Shared} (h : I 0 s) :
    wpAny (model prog w) A.in1 (Builtin.«list.__ne__» ⟨[.ref l, .ref b], []⟩) (GQ.FinOf prog w A R) (fun e s' => R (.error e) s') s := by
  obtain ⟨ys, zs, n, m, g1, g2, z1, z2, _⟩ := hl _ _ h
  have rec_ := ne_turnsV (A := A) (R := R) hl fin _ 0 rfl (Nat.zero_le _) s h
  obtain ⟨hp, g, d, tk, os⟩ := s
  have f3 := AutoSeq1.sub_list_list
  have ne : ¬ (ys.size != zs.size) = true := by simp [z1, z2]
  wp_walk using wpAny_loadPart' g1, wpAny_loadPart' g2
  exact ⟨plainId_quiet plain_eq_loop _, codeAny_builtin entry_eq_loop (by rw [Around.under_plainId plain_eq_loop _]; exact rec_)⟩
theorem ne_listsV {E : Value → Shared → Prop} {s : Shared} {l b : Addr} {N : Nat} {Q : Value → Shared → Prop} (hu : A.units < cLine) (I : Nat → Shared → Prop) (hl : GQ.ListI prog w A E l b N I)
    (fin : ∀ s, I N s → Q (.bool false) s) (h : I 0 s) : wpAny (model prog w) A (richCompare .NotEq (.ref l) (.ref b)) Q E s := by
  obtain ⟨ys, zs, n, m, g1, g2, _, _, _⟩ := hl _ _ h
  refine wpAny_richCompare_same_room (op := .NotEq) ⟨_, g1, rfl⟩ ⟨_, g2, rfl⟩ F.slot_list_ne (GQ.call_here F.slot_list_ne ⟨_, g1, rfl⟩ F.entry_list_ne (F.args_list_ne_2 _ _) ?_) hu
  exact ne_runV (R := wants (fun v s' => v ≠ .notImplemented ∧ Q v s') E) hl (fun s' q => ⟨(fun x => nomatch x), fin s' q⟩) h
end
section
variable {X : Cx}
theorem call_isiM : CallR X (.builtin "isinstance") (fun xs H Q => ∃ (d : Addr) (its : List (V × V)) (c : V) (u : Value) (b : Bool), xs = [.ref d, c] ∧ DicO H d its ∧ ClsV c u ∧ PySem.W.kitOne X.K (.type "dict") u = some b ∧ Q (.bl b) H) := by
  intro pins s σ H xs us Q I r h
  obtain ⟨d, its, c, u, b, rfl, hd, k, e, q⟩ := h
  obtain ⟨u1, u2, rfl, r1, r2⟩ := vals2 r
  have e2 := k.eq r2
  subst e2
  cases (show u1 = Value.ref d from r1)
  obtain ⟨_, _, o2, es, ep, h1, h2, _⟩ := hd.at I
  exact PySem.W.kia_one PySem.W.kitx_dict I.kIn ⟨o2, h1, h2.1⟩ e (fun z => nomatch z) fun tk => ⟨.bl b, H, I.tok tk, rfl, q⟩
/-- of data, or of a known dict -/
def rIsiX (K : PySem.W.Frag) : List V → Hp → VK → Prop := fun xs H Q => rIsi K xs H Q ∨ ∃ (d : Addr) (its : List (V × V)) (c : V) (u : Value) (b : Bool), xs = [.ref d, c] ∧ DicO H d its ∧ ClsV c u ∧ PySem.W.kitOne K (.type "dict") u = some b ∧ Q (.bl b) H
theorem call_isiX : CallR X (.builtin "isinstance") (rIsiX X.K) := by
  intro pins s σ H xs us Q I r h
  rcases h with h | h
  · exact call_isi pins s σ H xs us Q I r h
  · exact call_isiM pins s σ H xs us Q I r h
end
def DicA (H : Hp) (d : Addr) (o : Obj) (its : List (V × V)) : Prop := (d == sysModules) = false ∧ its.length ≤ 1000 ∧ ItemsO o its ∧ ∃ u, H d = some (.frz o u)
theorem DicO.a {H : Hp} {d : Addr} {its : List (V × V)} (h : DicO H d its) : ∃ o, DicA H d o its := by
  obtain ⟨a, b, o, u, e, i⟩ := h
  exact ⟨o, a, b, i, u, e⟩
theorem DicA.keep {H H' : Hp} {d : Addr} {o : Obj} {its : List (V × V)} (h : DicA H d o its) (k : Same H H') : DicA H' d o its := by
  obtain ⟨a, b, i, u, e⟩ := h
  exact ⟨a, b, i, u, k _ _ e⟩
theorem DicA.o {H : Hp} {d : Addr} {o : Obj} {its : List (V × V)} (h : DicA H d o its) : DicO H d its := by
  obtain ⟨a, b, i, u, e⟩ := h
  exact ⟨a, b, o, u, e, i⟩
theorem ent_M {X : Cx} {pins : List (Addr × Obj)} {σ : L2.St} {H : Hp} {s : Shared} {d : Addr} {o : Obj} {its : List (V × V)} (I : Inv X pins σ H s) (h : DicA H d o its) :
    (d == sysModules) = false ∧ ∃ (es : Array DictEntry) (ep : Nat), DT.Raw s.heap d es ep ∧ o.data = .dict es ep ∧ es.size = its.length ∧ ∀ (i : Nat) (k v : V), its[i]? = some (k, v) → ∃ en : DictEntry, es[i]? = some en ∧ RelV k en.key ∧ RelV v en.val := by
  obtain ⟨nm, _, ⟨es, ep, ex, dat, pr⟩, u, e⟩ := h
  refine ⟨nm, es, ep, ⟨o, (I.hok d _ e).1, ex, dat⟩, dat, ?_, fun i k v hi => ?_⟩
  · rw [← Array.length_toList]
    exact (Paired.length pr).symm
  · obtain ⟨b, hb, h1, h2⟩ := paired_get pr hi
    exact ⟨b, by rw [← Array.getElem?_toList]; exact hb, h1, h2⟩
def Itm (d : Addr) (o : Obj) (its : List (V × V)) : It where
  go := fun i H => DicA H d o its ∧ i < its.length
  yld := fun i H x H' => ∃ T k v, its[i]? = some (k, v) ∧ x = .ref T ∧ H T = none ∧ H' = upd H T (.tup [k, v])
  stop := fun i H => DicA H d o its ∧ its.length ≤ i
theorem turn_m {P : Program} {w : World} {K : PySem.W.Frag} {d : Addr} {o : Obj} {es : Array DictEntry} {ep : Nat} {its : List (V × V)} {elts : List Expr} {kk : Nat} {tpos : Pos} (it : Addr) (hod : o.data = .dict es ep) :
    Turn P w K (.Tuple elts kk tpos) (Itm d o its) [it] it (fun i h => ∃ ok ov, IsItemIter h it d i its.length ep ok ov) := by
  have mem : it ∈ [it] := List.mem_singleton.mpr rfl
  refine { mem := mem, obj := ?_, keep := ?_, item := ?_, done := ?_, self := ?_ }
  · rintro i h ⟨ok, ov, e⟩ b hb
    cases List.mem_singleton.mp hb
    exact ⟨_, e, fun v z => nomatch z⟩
  · rintro i h h' ⟨ok, ov, e⟩ k
    exact ⟨ok, ov, k it mem _ e⟩
  · rintro X rfl rfl rfl hc i pins s σ H E I fp ⟨ok, ov, e⟩ ⟨hd, hi⟩
    obtain ⟨nm, es1, ep1, raw, dat, len, ents⟩ := ent_M I hd
    cases hod.symm.trans dat
    have hi2 : i < es.size := by rw [len]; exact hi
    obtain ⟨⟨k, v⟩, hkv⟩ : ∃ p, its[i]? = some p := ⟨_, List.getElem?_eq_getElem hi⟩
    obtain ⟨en, g1, g2, g3⟩ := ents i k v hkv
    have g5 : es[i] = en := by
      rw [Array.getElem?_eq_getElem hi2] at g1
      exact Option.some.inj g1
    rw [← len] at e
    have low : it < s.heap.objs.size := Heap.lt_size e
    refine DT.nextI e raw hi2 fun h1 out tup sz old => ?_
    refine ⟨_, rfl, wpAny_letOwnedTupleGo_items (s := { s with heap := h1 }) out fun h2 back sb => ?_⟩
    have tup2 : h2.get? s.heap.objs.size = some { cls := .type "tuple", data := .seq #[es[i].key, es[i].val] } := (sb.2 _ (Nat.ne_of_gt low)).trans tup
    rw [g5] at tup2 back
    have made : ObjOk X.prog X.w (upd H s.heap.objs.size (.tup [k, v])) h2 s.heap.objs.size (.tup [k, v]) :=
      ⟨by show 2 ≤ sizeLine; decide, [en.key, en.val], .cons g2 (.cons g3 .nil), ⟨_, tup2, rfl, _, rfl⟩⟩
    have J := I.turnedNew (t' := s.toks) (ch := [it]) (h' := h2) (fun b ob hb z => (sb.2 b (fun y => hb (by rw [y]; exact mem))).trans (old b ob (fun y => hb (by rw [y]; exact mem)) z)) fp (Nat.le_refl _) made
    refine ⟨.ref s.heap.objs.size, _, J, rfl, ⟨_, k, v, hkv, rfl, I.hok.fresh (Nat.le_refl _), rfl⟩, ⟨en.key, en.val, ?_⟩, fun b hb => ?_⟩
    · rw [← len]
      exact back
    · rw [List.mem_singleton.mp hb, upd_ne (Nat.ne_of_lt low)]
      exact (fp it mem).1
  · rintro X rfl rfl rfl hc i pins s σ H E I fp ⟨ok, ov, e⟩ ⟨hd, hi⟩
    obtain ⟨nm, es1, ep1, raw, dat, len, ents⟩ := ent_M I hd
    cases hod.symm.trans dat
    obtain ⟨f0, f1, f2, f3, f4, f5⟩ := fp it mem
    rw [← len] at e hi
    exact DT.endI (I.ok.hd hc) e raw hi fun h1 eb => ⟨rfl, I.turned (t' := s.toks) (fun b ob hb z => eb b ob hb z) f0 f1 f3 f4 f5⟩
  · rintro A i s Q E ⟨ok, ov, e⟩ hq
    exact PySem.W.kcp_self e hq
def iItm (td : TE) : TI := fun σ H R => td σ H fun x H1 => ∃ d o its, x = .ref d ∧ DicA H1 d o its ∧ R (Itm d o its) H1
theorem pi_itm {X : Cx} {e : Expr} {td : TE} {apos cpos : Pos} {elts : List Expr} {kk : Nat} {tpos : Pos} (he : PE X e td) (hb : attributeBase e "items" X.env (eval e X.env) = eval e X.env := by rfl) (hl : (apos.endLine == cpos.line) = true := by rfl) :
    PI X (.Tuple elts kk tpos) (.Call (.Attribute e "items" apos) [] [] cpos) (iItm td) := by
  constructor
  intro pins s σ H R I h
  refine wpAny_Call_method (T := "dict") (id := "dict.items") hb rfl hl F.plainAttrs_dict F.slot_dict_items F.type_dict_items (thn (he.run pins s σ H _ I h) ?_)
  rintro u s1 ⟨x, H1, J, rx, d, o, its, rfl, hd, q⟩
  cases rx
  obtain ⟨nm, es, ep, raw, dat, len, ents⟩ := ent_M J hd
  refine ⟨raw.typeIs, ?_, ?_⟩
  · intro a e
    cases e
    obtain ⟨oo, g, ed, _⟩ := raw
    exact ⟨oo, g, ed.2.1⟩
  have J2 : Inv X pins σ H1 { s1 with heap := s1.heap.push { cls := .type "dict_items", data := .fields #[.ref d] } } := J.kept (t' := s1.toks) fun b ob z => Heap.get?_push_of_some _ z
  show wpAny _ _ (callWith cpos (.builtin "dict.items") [.ref d] [] []) _ X.xe s1
  refine method_meetsIn F.slot_dict_items F.entry_dict_items rfl (PySem.evalArgs_none ⟨rfl, raw.typeIs, F.args_dict_items_1 _, _, DT.meetsItems (es := es) (ep := ep) nm, ⟨raw, ?_⟩⟩)
  refine DT.iterI (d := d) ⟨_, Heap.get?_push_size _ rfl, rfl, rfl⟩ (raw.push _) (pi_one (tk := s1.toks) J2 _ (turn_m _ dat) ⟨.none, .none, ?_⟩ q)
  rw [← len]
  exact Heap.get?_push_size _ rfl
theorem walk_itm {d : Addr} {o : Obj} {its : List (V × V)} : Walk (Itm d o its) its.length (fun H => DicA H d o its) (fun i H x H' => ∃ T k v, its[i]? = some (k, v) ∧ x = .ref T ∧ H T = none ∧ H' = upd H T (.tup [k, v])) :=
  ⟨fun i H hi q => ⟨q, hi⟩, fun H q => ⟨q, Nat.le_refl _⟩, fun i H x H' hi q y => y⟩
/-- lists of data and known dicts -/
inductive Ax (H : Hp) : V → PyData → Prop
  | any {v : V} {d : PyData} : Any H v d → Ax H v d
  | dic {a : Addr} {its : List (V × V)} {ks vs : List PyData} : DicO H a its → AnyL H (its.map (·.1)) ks → AnyL H (its.map (·.2)) vs → Ax H (.ref a) (.dict (ks.zip vs))
theorem Ax.keep {H H' : Hp} {v : V} {d : PyData} (h : Ax H v d) (k : Same H H') : Ax H' v d := by
  cases h with
  | any a => exact .any (a.keep k)
  | dic a b c => exact .dic (a.keep k) (anyL_keep k b) (anyL_keep k c)
end Rw
set_option Elab.async false
set_option linter.all false
set_option maxRecDepth 100000
set_option maxHeartbeats 1500000
namespace Rw
open PySem PySem.Spec PyProof.Rows L2
end Rw
set_option Elab.async false
set_option linter.all false
set_option maxRecDepth 100000
set_option maxHeartbeats 1500000
set_option exponentiation.threshold 3000
namespace Rw
open PySem PySem.Spec PyProof.Rows L2
theorem pi_or {X : Cx} {tg e : Expr} {a b : TI} (h1 : PI X tg e a) (h2 : PI X tg e b) : PI X tg e (fun σ H R => a σ H R ∨ b σ H R) :=
  ⟨fun pins s σ H R I h => h.elim (h1.run pins s σ H R I) (h2.run pins s σ H R I)⟩
theorem cr_or {X : Cx} {f : Value} {a b : List V → Hp → VK → Prop} (h1 : CallR X f a) (h2 : CallR X f b) : CallR X f (fun xs H Q => a xs H Q ∨ b xs H Q) :=
  fun pins s σ H xs us Q I r h => h.elim (h1 pins s σ H xs us Q I r) (h2 pins s σ H xs us Q I r)
theorem kit_dic {K : PySem.W.Frag} (d : PyData) : PySem.W.kitOne K (.type (kindS d)) (.type "dict") = some (match d with | .dict _ => true | _ => false) := by
  cases d with
  | none => exact kit_ty (show kitB "NoneType" "dict" = some false by decide +kernel)
  | bool b => exact kit_ty (show kitB "bool" "dict" = some false by decide +kernel)
  | int i => exact kit_ty (show kitB "int" "dict" = some false by decide +kernel)
  | str x => exact kit_ty (show kitB "str" "dict" = some false by decide +kernel)
  | list xs => exact kit_ty (show kitB "list" "dict" = some false by decide +kernel)
  | tuple xs => exact kit_ty (show kitB "tuple" "dict" = some false by decide +kernel)
  | dict kvs => exact kit_ty (show kitB "dict" "dict" = some true by decide +kernel)
def notDic : PyData → Bool
  | .dict _ => false
  | _ => true
/-- one item of numbers of a pattern -/
def numItm (n : Nat) (q : PyData × PyData) : Bool := isBarD n q.1 && inB q.2 (.int 0) (.int 6)
/-- no numbers of a pattern with n arrows -/
def BadN (n : Nat) (H : Hp) (v : V) : Prop := (∃ d, Any H v d ∧ notDic d = true) ∨
  ∃ a its ks vs, v = .ref a ∧ DicO H a its ∧ AnyL H (its.map (·.1)) ks ∧ AnyL H (its.map (·.2)) vs ∧ (ks.zip vs).all (numItm n) = false
theorem BadN.keep {n : Nat} {H H' : Hp} {v : V} (h : BadN n H v) (k : Same H H') : BadN n H' v := by
  rcases h with ⟨d, an, e⟩ | ⟨a, its, ks, vs, e, hd, a1, a2, b⟩
  · exact .inl ⟨d, an.keep k, e⟩
  · exact .inr ⟨a, its, ks, vs, e, hd.keep k, anyL_keep k a1, anyL_keep k a2, b⟩
def spCNumsG (CN : Addr) : Sp := fun vs H Q E => (∃ x v, vs = [.str x, v] ∧ x.length ≤ 6 ∧ BadN x.length H v ∧ Thrown CN v H E) ∨ spCNumsT CN vs H Q E
def spLowSzG (CN CG : Addr) : Sp := fun vs H Q E => (∃ x v, vs = [.str x, v] ∧ x.length ≤ 6 ∧ BadN x.length H v ∧ Thrown CN v H E) ∨ spLowSzT CN CG vs H Q E
/-- numbers of a pattern; some place may be great -/
structure NumM (n : Nat) (M : Nums) : Prop where
  g : GoodB n M
  l : M.length ≤ 900
/-- what keepers, alike_count tell of or refuse: pattern, prime, numbers, a place, told -/
def AskD (v1 v2 v3 : V) (H : Hp) (qt qp qn : Prop) (qg : Int → Prop) (qk : Prop) : Prop := ∃ d1, Any H v1 d1 ∧ Short d1 ∧ ((isPatD d1 = false ∧ qt) ∨
  ∃ x d2, v1 = .str x ∧ Pat x 6 ∧ Any H v2 d2 ∧ ((isPr d2 = false ∧ qp) ∨
    ∃ p : Nat, v2 = .int ((p : Nat) : Int) ∧ PrN p ∧ ((BadN x.length H v3 ∧ qn) ∨
      ∃ d M, v3 = .ref d ∧ NumAt H d M ∧ NumM x.length M ∧ ((∀ i, i ≤ x.length → szN M i ≤ 6) → qk) ∧
        (∀ i, i ≤ x.length → 6 < szN M i → (∀ j, j < i → szN M j ≤ 6) → qg ((szN M i : Nat) : Int)))))
theorem AskD.imp {v1 v2 v3 : V} {H : Hp} {qt qp qn : Prop} {qg : Int → Prop} {qk qt' qp' qn' : Prop} {qg' : Int → Prop} {qk' : Prop} (h : AskD v1 v2 v3 H qt qp qn qg qk) (ht : qt → qt') (hp : qp → qp') (hn : qn → qn') (hg : ∀ k, qg k → qg' k) (hk : qk → qk') : AskD v1 v2 v3 H qt' qp' qn' qg' qk' := by
  obtain ⟨d1, an1, sh, h⟩ := h
  refine ⟨d1, an1, sh, ?_⟩
  rcases h with ⟨e1, q⟩ | ⟨x, d2, e, px, an2, h⟩
  · exact .inl ⟨e1, ht q⟩
  refine .inr ⟨x, d2, e, px, an2, ?_⟩
  rcases h with ⟨e2, q⟩ | ⟨p, ep, pp, h⟩
  · exact .inl ⟨e2, hp q⟩
  refine .inr ⟨p, ep, pp, ?_⟩
  rcases h with ⟨bad, q⟩ | ⟨d, M, ed, nd, nm, q1, q2⟩
  · exact .inl ⟨bad, hn q⟩
  · exact .inr ⟨d, M, ed, nd, nm, fun z => hk (q1 z), fun i a b c => hg _ (q2 i a b c)⟩
/-- what row_count refuses -/
def AskR (v1 v2 v3 : V) (H : Hp) (qt qp qz : Prop) : Prop := ∃ d1, Any H v1 d1 ∧ Short d1 ∧ ((isPatD d1 = false ∧ qt) ∨
  ∃ x d2, v1 = .str x ∧ Pat x 6 ∧ Any H v2 d2 ∧ ((isPr d2 = false ∧ qp) ∨
    ∃ p : Nat, v2 = .int ((p : Nat) : Int) ∧ PrN p ∧ ∃ d3, Any H v3 d3 ∧ (itemsD d3).length ≤ 1000 ∧ sizesOk x.length d3 = false ∧ qz))
theorem AskR.imp {v1 v2 v3 : V} {H : Hp} {qt qp qz qt' qp' qz' : Prop} (h : AskR v1 v2 v3 H qt qp qz) (ht : qt → qt') (hp : qp → qp') (hz : qz → qz') : AskR v1 v2 v3 H qt' qp' qz' := by
  obtain ⟨d1, an1, sh, h⟩ := h
  refine ⟨d1, an1, sh, ?_⟩
  rcases h with ⟨e1, q⟩ | ⟨x, d2, e, px, an2, h⟩
  · exact .inl ⟨e1, ht q⟩
  refine .inr ⟨x, d2, e, px, an2, ?_⟩
  rcases h with ⟨e2, q⟩ | ⟨p, ep, pp, d3, an3, i3, bad, q⟩
  · exact .inl ⟨e2, hp q⟩
  · exact .inr ⟨p, ep, pp, d3, an3, i3, bad, hz q⟩
/-- a new list -/
def Out (H : Hp) (Q : VK) (xs : List V) : Prop := ∀ l H', H l = none → Same H H' → H' l = some (.lst xs) → Q (.ref l) H'
end Rw
set_option Elab.async false
set_option linter.all false
set_option maxRecDepth 100000
set_option maxHeartbeats 1500000
set_option exponentiation.threshold 3000
namespace Rw
open PySem PySem.Spec PyProof.Rows L2
/-- data that is short -/
def Dat (H : Hp) (v : V) : Prop := ∃ d, Any H v d ∧ Tz 5 1500 d
theorem Dat.keep {H H' : Hp} {v : V} (h : Dat H v) (k : Same H H') : Dat H' v := by
  obtain ⟨d, a, t⟩ := h
  exact ⟨d, a.keep k, t⟩
/-- no numbers of a pattern with n arrows, told by repr -/
def OddV (n : Nat) (H : Hp) (v : V) : Prop := ∃ d, Ax H v d ∧ Tz 6 50000 d ∧ BadN n H v
theorem OddV.keep {n : Nat} {H H' : Hp} {v : V} (h : OddV n H v) (k : Same H H') : OddV n H' v := by
  obtain ⟨d, a, t, b⟩ := h
  exact ⟨d, a.keep k, t, b.keep k⟩
end Rw
set_option Elab.async false
set_option linter.all false
set_option maxRecDepth 100000
set_option maxHeartbeats 1500000
set_option exponentiation.threshold 3000
namespace Rw
open PySem PySem.Spec PyProof.Rows L2
theorem isKeys_to {H G : Hp} {kvs : List (List L2.Key × V)} {bs : List Addr} (h : IsKeys H kvs bs) (k : ∀ b ys, H b = some (.tup ys) → G b = some (.tup ys)) : IsKeys G kvs bs := Paired.mapP h fun _ _ e => k _ _ e
/-- no number of a bar: -1, 7, True, None, "1", [1], 10 ** 29 -/
def BadVal (G : Hp) (v : V) : Prop := (∃ i : Int, v = .int i ∧ (i < 0 ∨ 6 < i) ∧ i.natAbs < 2 ^ 1016) ∨ (∃ b, v = .bl b) ∨ v = .non ∨ (∃ x : Str, v = .str x ∧ x.length ≤ 9 ∧ Tz 0 401 (.str x)) ∨ ∃ a, v = .ref a ∧ G a = some (.lst [.int 1])
theorem BadVal.keep {G G' : Hp} {v : V} (h : BadVal G v) (k : Same G G') : BadVal G' v := by
  rcases h with h | h | h | h | ⟨a, e, g⟩
  · exact .inl h
  · exact .inr (.inl h)
  · exact .inr (.inr (.inl h))
  · exact .inr (.inr (.inr (.inl h)))
  · exact .inr (.inr (.inr (.inr ⟨a, e, k _ _ g⟩)))
theorem BadVal.dat {G : Hp} {v : V} (h : BadVal G v) : Dat G v := by
  rcases h with ⟨i, rfl, _, h⟩ | ⟨b, rfl⟩ | rfl | ⟨x, rfl, _, h⟩ | ⟨a, rfl, g⟩
  · exact ⟨_, .int i, (tz_int h).up (by decide) (by decide)⟩
  · exact ⟨_, .bl b, by cases b <;> exact ⟨rfl, by decide +kernel, by decide +kernel⟩⟩
  · exact ⟨_, .non, ⟨rfl, by decide +kernel, by decide +kernel⟩⟩
  · exact ⟨_, .str x, h.up (by decide) (by decide)⟩
  · exact ⟨_, .lst g (.cons (.int 1) .nil), (tz_list (k := 0) (b := 401) (m := 1) (ds := [.int 1]) (by show 1 ≤ 1; decide) fun d hd => by
      obtain rfl : d = .int 1 := by simpa using hd
      exact tz_int (by decide +kernel)).up (by decide) (by decide)⟩
/-- a dict that has been frozen beside a list -/
theorem DicO.del {H : Hp} {a l : Addr} {its : List (V × V)} (h : DicO H a its) (ne : a ≠ l) : DicO (del H l) a its := by
  obtain ⟨x, y, o, u, e, i⟩ := h
  exact ⟨x, y, o, u, by rw [del_ne ne]; exact e, i⟩
/-- a key that no bar has: a tuple, a number, a text -/
def KeyV (n : Nat) (G : Hp) (y : V) : Prop := (∃ t k, y = .ref t ∧ G t = some (.tup (k.map kV)) ∧ Tz 5 1500 (tupK k) ∧ isBarD n (tupK k) = false) ∨ ∃ k, y = kV k ∧ Tz 5 1500 (keyD k)
theorem KeyV.keep {n : Nat} {G G' : Hp} {y : V} (h : KeyV n G y) (k : Same G G') : KeyV n G' y := by
  rcases h with ⟨t, ks, e, g, z⟩ | h
  · exact .inl ⟨t, ks, e, k _ _ g, z⟩
  · exact .inr h
/-- the list l so far, of m values that are no numbers -/
structure AccO (n : Nat) (l : Addr) (m : Nat) (H : Hp) : Prop where
  has : ∃ acc, H l = some (.lst acc) ∧ acc.length = m ∧ ∀ v ∈ acc, OddV n (del H l) v
theorem AccO.keep {n m : Nat} {l : Addr} {H H' : Hp} (h : AccO n l m H) (k : Same H H') (d : Same (del H l) (del H' l)) : AccO n l m H' := by
  obtain ⟨acc, h1, h2, h3⟩ := h
  exact ⟨acc, k _ _ h1, h2, fun v hv => (h3 v hv).keep d⟩
end Rw
set_option Elab.async false
set_option linter.all false
set_option maxRecDepth 100000
set_option maxHeartbeats 1500000
namespace Rw
open PySem PySem.Spec PyProof.Rows L2
end Rw
set_option Elab.async false
set_option linter.all false
set_option maxRecDepth 100000
set_option maxHeartbeats 2000000
namespace Rw
open PySem PySem.Spec PyProof.Rows L2
end Rw
set_option Elab.async false
set_option linter.all false
set_option maxRecDepth 100000
set_option maxHeartbeats 2000000
namespace Rw
open PySem PySem.Spec PyProof.Rows L2
/-- a dict with tuple keys and, behind them, a key that is an int or a text -/
def MixM (P : Program) (w : World) (H : Hp) (a : Addr) (kvs : List (List L2.Key × V)) (k0 : L2.Key) (v0 : V) : Prop := ∃ o u xs, H a = some (.frz o u) ∧ (a == sysModules) = false ∧ KT H kvs xs ∧ (xs.map (·.1)).Nodup ∧
  ∃ (es : Array DictEntry) (ep : Nat) (h0 : Int) (u0 r0 : Value), o.ExactDict ∧ o.data = .dict es ep ∧ es.toList = xs.map (entryOfKey (tupleKind (mixKind P w))) ++ [⟨h0, u0, r0⟩] ∧ RelV (kV k0) u0 ∧ RelV v0 r0
theorem MixM.keep {P : Program} {w : World} {H H' : Hp} {a : Addr} {kvs : List (List L2.Key × V)} {k0 : L2.Key} {v0 : V} (h : MixM P w H a kvs k0 v0) (k : Same H H') : MixM P w H' a kvs k0 v0 := by
  obtain ⟨o, u, xs, e, nm, kt, nd, r⟩ := h
  exact ⟨o, u, xs, k _ _ e, nm, kt.keeps fun b ys z => k _ _ z, nd, r⟩
end Rw
set_option Elab.async false
set_option linter.all false
set_option maxRecDepth 100000
set_option maxHeartbeats 1500000
namespace Rw
open PySem PySem.Spec PyProof.Rows L2
end Rw
set_option Elab.async false
set_option linter.all false
set_option maxRecDepth 100000
set_option maxHeartbeats 1500000
namespace Rw
open PySem PySem.Spec PyProof.Rows L2
def StT (v : V) (H : Hp) (qt : Prop) (k : Str → Prop) : Prop := ∃ d, Any H v d ∧ Short d ∧ ((isPatD d = false ∧ qt) ∨ ∃ x, v = .str x ∧ Pat x 6 ∧ k x)
def StP (v : V) (H : Hp) (qp : Prop) (k : Nat → Prop) : Prop := ∃ d, Any H v d ∧ ((isPr d = false ∧ qp) ∨ ∃ p : Nat, v = .int ((p : Nat) : Int) ∧ PrN p ∧ k p)
def StN (n : Nat) (v : V) (H : Hp) (qn : Prop) (qg : Int → Prop) (k : Addr → Nums → Prop) : Prop := (BadN n H v ∧ qn) ∨
  ∃ d M, v = .ref d ∧ NumAt H d M ∧ NumM n M ∧ ((∀ i, i ≤ n → szN M i ≤ 6) → k d M) ∧ (∀ i, i ≤ n → 6 < szN M i → (∀ j, j < i → szN M j ≤ 6) → qg ((szN M i : Nat) : Int))
def StA (n : Nat) (v : V) (H : Hp) (qw : Prop) (qg : Int → Prop) (k : Prop) : Prop := ∃ d, Any H v d ∧ ((isArD d = false ∧ qw) ∨ (isArD d = true ∧ n = 6 ∧ qg 7) ∨ (isArD d = true ∧ n < 6 ∧ k))
def StS (v : V) (H : Hp) (qs : Prop) : Prop := ∃ d, Any H v d ∧ isSzD d = false ∧ qs
theorem StT.imp {v : V} {H : Hp} {qt qt' : Prop} {k k' : Str → Prop} (h : StT v H qt k) (a : qt → qt') (b : ∀ x, k x → k' x) : StT v H qt' k' := by
  obtain ⟨d, an, sh, h | ⟨x, e, px, q⟩⟩ := h
  · exact ⟨d, an, sh, .inl ⟨h.1, a h.2⟩⟩
  · exact ⟨d, an, sh, .inr ⟨x, e, px, b x q⟩⟩
theorem StP.imp {v : V} {H : Hp} {qt qt' : Prop} {k k' : Nat → Prop} (h : StP v H qt k) (a : qt → qt') (b : ∀ x, k x → k' x) : StP v H qt' k' := by
  obtain ⟨d, an, h | ⟨x, e, px, q⟩⟩ := h
  · exact ⟨d, an, .inl ⟨h.1, a h.2⟩⟩
  · exact ⟨d, an, .inr ⟨x, e, px, b x q⟩⟩
theorem StN.imp {n : Nat} {v : V} {H : Hp} {qn qn' : Prop} {qg qg' : Int → Prop} {k k' : Addr → Nums → Prop} (h : StN n v H qn qg k) (a : qn → qn') (g : ∀ i, qg i → qg' i) (b : ∀ d M, k d M → k' d M) : StN n v H qn' qg' k' := by
  rcases h with h | ⟨d, M, e, nd, nm, q1, q2⟩
  · exact .inl ⟨h.1, a h.2⟩
  · exact .inr ⟨d, M, e, nd, nm, fun z => b _ _ (q1 z), fun i x y z => g _ (q2 i x y z)⟩
theorem StA.imp {n : Nat} {v : V} {H : Hp} {qw qw' : Prop} {qg qg' : Int → Prop} {k k' : Prop} (h : StA n v H qw qg k) (a : qw → qw') (g : ∀ i, qg i → qg' i) (b : k → k') : StA n v H qw' qg' k' := by
  obtain ⟨d, an, h | h | h⟩ := h
  · exact ⟨d, an, .inl ⟨h.1, a h.2⟩⟩
  · exact ⟨d, an, .inr (.inl ⟨h.1, h.2.1, g _ h.2.2⟩)⟩
  · exact ⟨d, an, .inr (.inr ⟨h.1, h.2.1, b h.2.2⟩)⟩
theorem StS.imp {v : V} {H : Hp} {q q' : Prop} (h : StS v H q) (a : q → q') : StS v H q' := by
  obtain ⟨d, an, e, h⟩ := h
  exact ⟨d, an, e, a h⟩
/-- what numbers_after refuses, iterated over -/
def AskG (v1 v2 v3 v4 : V) (H : Hp) (qt qn qw qs : Prop) (qg : Int → Prop) : Prop := StT v1 H qt fun x => StN x.length v2 H qn qg fun _ _ => StA x.length v3 H qw qg (StS v4 H qs)
theorem AskG.imp {v1 v2 v3 v4 : V} {H : Hp} {qt qn qw qs qt' qn' qw' qs' : Prop} {qg qg' : Int → Prop} (h : AskG v1 v2 v3 v4 H qt qn qw qs qg) (a : qt → qt') (b : qn → qn') (c : qw → qw') (d : qs → qs') (g : ∀ k, qg k → qg' k) : AskG v1 v2 v3 v4 H qt' qn' qw' qs' qg' :=
  StT.imp h a fun _ h => StN.imp h b g fun _ _ h => StA.imp h c g fun h => StS.imp h d
end Rw
set_option Elab.async false
set_option linter.all false
set_option maxRecDepth 100000
set_option maxHeartbeats 1500000
set_option exponentiation.threshold 3000
namespace Rw
open PySem PySem.Spec PyProof.Rows L2
/-- no number at a bar -/
def Nil0 (T : Nums) (n : Nat) : Prop := ∀ b e, b ≤ e → b ≤ n → e ≤ n + 1 → getN T (b, e) = 0
/-- what ways_after refuses, and where it tells nothing of note -/
def AskW (v1 v2 v3 v4 v5 : V) (H : Hp) (qt qp qn qw qm : Prop) (qg : Int → Prop) (qk : Prop) : Prop := StT v1 H qt fun x => StP v2 H qp fun _ => StN x.length v3 H qn qg fun _ _ => StA x.length v4 H qw qg (StN (x.length + 1) v5 H qm qg fun _ T => Nil0 T x.length ∧ qk)
theorem AskW.imp {v1 v2 v3 v4 v5 : V} {H : Hp} {qt qp qn qw qm qt' qp' qn' qw' qm' : Prop} {qg qg' : Int → Prop} {qk qk' : Prop} (h : AskW v1 v2 v3 v4 v5 H qt qp qn qw qm qg qk) (a : qt → qt') (b : qp → qp') (c : qn → qn') (d : qw → qw') (e : qm → qm') (g : ∀ k, qg k → qg' k) (l : qk → qk') :
    AskW v1 v2 v3 v4 v5 H qt' qp' qn' qw' qm' qg' qk' := StT.imp h a fun _ h => StP.imp h b fun _ h => StN.imp h c g fun _ _ h => StA.imp h d g fun h => StN.imp h e g fun _ _ h => ⟨h.1, l h.2⟩
end Rw
set_option Elab.async false
set_option linter.all false
set_option maxRecDepth 100000
set_option maxHeartbeats 4000000
namespace Rw
open PySem PySem.Spec PyProof.Rows L2
end Rw
set_option Elab.async false
set_option linter.all false
set_option maxRecDepth 100000
set_option maxHeartbeats 4000000
namespace Rw
open PySem PySem.Spec PyProof.Rows L2
end Rw
set_option Elab.async false
set_option linter.all false
set_option maxRecDepth 100000
set_option maxHeartbeats 4000000
namespace Rw
open PySem PySem.Spec PyProof.Rows L2
end Rw
set_option Elab.async false
set_option linter.all false
set_option maxRecDepth 100000
set_option maxHeartbeats 4000000
namespace Rw
open PySem PySem.Spec PyProof.Rows L2
end Rw
set_option Elab.async false
set_option linter.all false
set_option maxRecDepth 100000
set_option maxHeartbeats 1500000
namespace Rw
open PySem PySem.Spec PyProof.Rows L2
/-- the bars as often as told, ascending -/
def tolB (n : Nat) (M : Nums) : List (Nat × Nat) := (barsL (n + 1)).flatMap fun b => List.replicate (getN M b) b
def covAt (ts : List (Nat × Nat)) (k j : Nat) : Bool := covB (ts[j]?.getD (1, 0)) k
def helN (ts : List (Nat × Nat)) (k i : Nat) : List Nat := (List.range i).filter (covAt ts k)
def helB (ts : List (Nat × Nat)) (k : Nat) : List Nat := helN ts k ts.length
theorem helN_succ (ts : List (Nat × Nat)) (k i : Nat) : helN ts k (i + 1) = if covAt ts k i = true then helN ts k i ++ [i] else helN ts k i := by
  unfold helN
  rw [List.range_succ, List.filter_append]
  by_cases h : covAt ts k i = true
  · rw [if_pos h]
    simp [h]
  · rw [if_neg h]
    simp [h]
theorem held_len {ts : List (Nat × Nat)} {k : Nat} : ∀ {i : Nat}, i ≤ ts.length → (helN ts k i).length = ((ts.take i).filter fun b => covB b k).length
  | 0, _ => rfl
  | i + 1, h => by
    have ih := held_len (ts := ts) (k := k) (i := i) (by omega)
    have e : ts[i]? = some ts[i] := List.getElem?_eq_getElem (by omega)
    have ec : covAt ts k i = covB ts[i] k := by unfold covAt; rw [e] <;> rfl
    rw [helN_succ, List.take_add_one, e, ec, List.filter_append, List.length_append, ← ih]
    by_cases c : covB ts[i] k = true
    · rw [if_pos c, List.length_append]
      simp [c]
    · rw [if_neg c]
      simp [c]
theorem part_nodup (a j : Nat) : (partL a j).Nodup := by
  unfold partL
  refine List.Pairwise.map _ (fun x y h z => ?_) ((List.nodup_range).filter _)
  cases z
  exact h rfl
theorem pre_fst {n i : Nat} {b : Nat × Nat} (h : b ∈ preL n i) : b.1 < i ∧ b.1 ≤ b.2 ∧ b.2 < n := by
  unfold preL at h
  obtain ⟨a, ha, hb⟩ := List.mem_flatMap.mp h
  unfold partL at hb
  obtain ⟨c, hc, rfl⟩ := List.mem_map.mp hb
  obtain ⟨h1, h2⟩ := List.mem_filter.mp hc
  exact ⟨List.mem_range.mp ha, of_decide_eq_true h2, List.mem_range.mp h1⟩
theorem pre_nodup (n : Nat) : ∀ i, (preL n i).Nodup
  | 0 => by simp [preL]
  | i + 1 => by
    rw [pre_succ]
    refine List.nodup_append.mpr ⟨pre_nodup n i, part_nodup i n, fun x hx y hy e => ?_⟩
    have h1 := (pre_fst hx).1
    unfold partL at hy
    obtain ⟨c, _, rfl⟩ := List.mem_map.mp hy
    subst e
    exact absurd h1 (Nat.lt_irrefl _)
theorem in_bars {n : Nat} {b : Nat × Nat} (h : b.1 ≤ b.2) (h2 : b.2 ≤ n) : b ∈ barsL (n + 1) := by
  unfold barsL preL
  refine List.mem_flatMap.mpr ⟨b.1, List.mem_range.mpr (by omega), ?_⟩
  unfold partL
  exact List.mem_map.mpr ⟨b.2, List.mem_filter.mpr ⟨List.mem_range.mpr (by omega), decide_eq_true h⟩, rfl⟩
theorem sum_zeroB : ∀ (l : List (Nat × Nat)), (l.map fun _ => 0).sum = 0
  | [] => rfl
  | _ :: l => by rw [List.map_cons, List.sum_cons, sum_zeroB l]
theorem sum_oneB {c : Nat} {r : Nat × Nat} : ∀ {bs : List (Nat × Nat)}, bs.Nodup → r ∈ bs → (bs.map fun b => if r = b then c else 0).sum = c
  | b :: bs, nd, h => by
    rw [List.nodup_cons] at nd
    rw [List.map_cons, List.sum_cons]
    by_cases e : r = b
    · subst e
      rw [if_pos rfl]
      have z : (bs.map fun b => if r = b then c else 0).sum = 0 := by
        have : bs.map (fun b => if r = b then c else 0) = bs.map fun _ => 0 := List.map_congr_left fun b hb => if_neg fun z => nd.1 (by rw [z]; exact hb)
        rw [this, sum_zeroB]
      omega
    · rw [if_neg e, sum_oneB nd.2 ((List.mem_cons.mp h).resolve_left e)]
      omega
theorem cov_sumB {bs : List (Nat × Nat)} (nb : bs.Nodup) (k : Nat) : ∀ {M : Nums}, (M.map (·.1)).Nodup → (∀ q ∈ M, q.1 ∈ bs) → (bs.map fun b => if covB b k then getN M b else 0).sum = szN M k
  | [], _, _ => by
    have : bs.map (fun b => if covB b k then getN [] b else 0) = bs.map fun _ => 0 := List.map_congr_left fun b _ => by
      show (if _ then 0 else 0) = 0
      split <;> rfl
    rw [this, sum_zeroB] <;> rfl
  | (r, m) :: T, nd, h => by
    rw [List.map_cons, List.nodup_cons] at nd
    have ih := cov_sumB nb k nd.2 fun q hq => h q (List.mem_cons_of_mem _ hq)
    have z : getN T r = 0 := getN_none nd.1
    have e : bs.map (fun b => if covB b k then getN ((r, m) :: T) b else 0) = bs.map fun b => (if r = b then (if covB r k then m else 0) else 0) + (if covB b k then getN T b else 0) := List.map_congr_left fun b _ => by
      by_cases e : r = b
      · subst e
        rw [if_pos rfl, z]
        unfold getN
        rw [if_pos rfl]
        split <;> rfl
      · rw [if_neg e, Nat.zero_add]
        conv => lhs; unfold getN
        rw [if_neg e]
    rw [e]
    have s : ∀ (f g : Nat × Nat → Nat) (l : List (Nat × Nat)), (l.map fun b => f b + g b).sum = (l.map f).sum + (l.map g).sum := fun f g l => by
      induction l with
      | nil => rfl
      | cons a l ih => simp only [List.map_cons, List.sum_cons, ih]; omega
    rw [s, sum_oneB nb (h _ List.mem_cons_self), ih]
    unfold szN
    rw [List.map_cons, List.sum_cons]
theorem told_size {n k : Nat} {M : Nums} (nd : (M.map (·.1)).Nodup) (g : ∀ q ∈ M, q.1.1 ≤ q.1.2 ∧ q.1.2 ≤ n) : ((tolB n M).filter fun b => covB b k).length = szN M k := by
  rw [← cov_sumB (pre_nodup (n + 1) (n + 1)) k nd fun q hq => in_bars (g q hq).1 (g q hq).2]
  unfold tolB barsL
  generalize preL (n + 1) (n + 1) = bs
  induction bs with
  | nil => rfl
  | cons b bs ih =>
    rw [List.flatMap_cons, List.filter_append, List.length_append, ih, List.map_cons, List.sum_cons]
    congr 1
    rw [List.filter_replicate]
    split
    · exact List.length_replicate
    · rfl
theorem held_size {n k : Nat} {M : Nums} (nd : (M.map (·.1)).Nodup) (g : ∀ q ∈ M, q.1.1 ≤ q.1.2 ∧ q.1.2 ≤ n) : (helB (tolB n M) k).length = szN M k := by
  unfold helB
  rw [held_len (Nat.le_refl _), List.take_length, told_size nd g]
theorem get_le6 : ∀ {M : Nums} {b : Nat × Nat}, (∀ q ∈ M, q.2 ≤ 6) → getN M b ≤ 6
  | [], _, _ => Nat.zero_le _
  | (r, m) :: T, b, h => by
    unfold getN
    split
    · exact h _ List.mem_cons_self
    · exact get_le6 fun q hq => h q (List.mem_cons_of_mem _ hq)
theorem flat_le {bs : List (Nat × Nat)} {M : Nums} (h : ∀ q ∈ M, q.2 ≤ 6) : (bs.flatMap fun b => List.replicate (getN M b) b).length ≤ bs.length * 6 := by
  induction bs with
  | nil => exact Nat.le_refl _
  | cons b bs ih =>
    rw [List.flatMap_cons, List.length_append, List.length_replicate, List.length_cons]
    have := get_le6 (M := M) (b := b) h
    omega
theorem told_le {n : Nat} {M : Nums} (n6 : n ≤ 6) (h : ∀ q ∈ M, q.2 ≤ 6) : (tolB n M).length ≤ 294 := by
  have h1 : (tolB n M).length ≤ (barsL (n + 1)).length * 6 := flat_le h
  have h2 := pre_len (n + 1) (n + 1)
  have h3 : (n + 1) * (n + 1) ≤ 7 * 7 := Nat.mul_le_mul (by omega) (by omega)
  unfold barsL at h1
  omega
/-- 1 where the number of a row is the number of a column -/
def sameM (rs cs : List Nat) : List (List Int) := rs.map fun r => cs.map fun c => if r = c then 1 else 0
def rowSs (n : Nat) (M : Nums) : List Nat := (List.range (n + 1)).map (szN M)
def mapsB (x : Str) (ts : List (Nat × Nat)) : List (List (List Int)) := (List.range x.length).map fun i => sameM (helB ts (stA x i)) (helB ts (goA x i))
def rowMs (x : Str) (M : Nums) : List (List (List Int)) := mapsB x (tolB x.length M)
theorem same_ok {q : Int} {rs cs : List Nat} (h : 2 ≤ q) : MatOk q rs.length cs.length (sameM rs cs) := ⟨List.length_map _, fun r hr => by
  obtain ⟨a, _, rfl⟩ := List.mem_map.mp hr
  refine ⟨List.length_map _, fun e he => ?_⟩
  obtain ⟨c, _, rfl⟩ := List.mem_map.mp he
  split <;> omega⟩
theorem st_le3 {x : Str} {i : Nat} (h : i < x.length) : stA x i ≤ x.length ∧ goA x i ≤ x.length := by
  unfold stA goA
  constructor <;> split <;> omega
theorem ss_at {n i : Nat} {M : Nums} (h : i ≤ n) : (rowSs n M)[i]?.getD 0 = szN M i := by
  unfold rowSs
  rw [List.getElem?_map, List.getElem?_range (by omega)] <;> rfl
theorem bars_draft {x : Str} {q : Int} {M : Nums} (q2 : 2 ≤ q) (nd : (M.map (·.1)).Nodup) (g : ∀ r ∈ M, r.1.1 ≤ r.1.2 ∧ r.1.2 ≤ x.length) (low : ∀ i, i ≤ x.length → szN M i ≤ 6) : Draft x q 6 (rowSs x.length M) (rowMs x M) := by
  refine ⟨by unfold rowSs; rw [List.length_map, List.length_range], fun s hs => ?_, by unfold rowMs mapsB; rw [List.length_map, List.length_range], fun i m hm => ?_⟩
  · obtain ⟨i, hi, rfl⟩ := List.mem_map.mp hs
    exact low i (by have := List.mem_range.mp hi; omega)
  · have hi : i < x.length := by
      have := (List.getElem?_eq_some_iff.mp hm).1
      unfold rowMs mapsB at this
      rw [List.length_map, List.length_range] at this
      exact this
    unfold rowMs mapsB at hm
    rw [List.getElem?_map, List.getElem?_range hi] at hm
    cases Option.some.inj hm
    obtain ⟨h1, h2⟩ := st_le3 hi
    have := same_ok (q := q) (rs := helB (tolB x.length M) (stA x i)) (cs := helB (tolB x.length M) (goA x i)) q2
    rw [held_size nd g, held_size nd g] at this
    rw [ss_at h1, ss_at h2]
    exact this
def StNd (n : Nat) (v : V) (H : Hp) (qn : Prop) (qg : Int → Prop) (k : Nums → Prop) : Prop := (BadN n H v ∧ qn) ∨
  ∃ d M, v = .ref d ∧ NumAt H d M ∧ NumM n M ∧ (M.map (·.1)).Nodup ∧ ((∀ i, i ≤ n → szN M i ≤ 6) → k M) ∧ (∀ i, i ≤ n → 6 < szN M i → (∀ j, j < i → szN M j ≤ 6) → qg ((szN M i : Nat) : Int))
theorem StNd.imp {n : Nat} {v : V} {H : Hp} {qn qn' : Prop} {qg qg' : Int → Prop} {k k' : Nums → Prop} (h : StNd n v H qn qg k) (a : qn → qn') (g : ∀ i, qg i → qg' i) (b : ∀ M, k M → k' M) : StNd n v H qn' qg' k' := by
  rcases h with h | ⟨d, M, e, nd, nm, nk, q1, q2⟩
  · exact .inl ⟨h.1, a h.2⟩
  · exact .inr ⟨d, M, e, nd, nm, nk, fun z => b _ (q1 z), fun i x y z => g _ (q2 i x y z)⟩
def StB (n : Nat) (v : V) (H : Hp) (qb : Prop) (k : Nat × Nat → Prop) : Prop := (∃ d, Any H v d ∧ isBarD n d = false ∧ qb) ∨
  ∃ (b : Nat × Nat) (a : Addr), v = .ref a ∧ H a = some (.tup [.int ((b.1 : Nat) : Int), .int ((b.2 : Nat) : Int)]) ∧ b.1 ≤ b.2 ∧ b.2 ≤ n ∧ k b
theorem StB.imp {n : Nat} {v : V} {H : Hp} {qb qb' : Prop} {k k' : Nat × Nat → Prop} (h : StB n v H qb k) (a : qb → qb') (b : ∀ M, k M → k' M) : StB n v H qb' k' := by
  rcases h with ⟨d, an, e, h⟩ | ⟨c, t, e, et, h1, h2, h⟩
  · exact .inl ⟨d, an, e, a h⟩
  · exact .inr ⟨c, t, e, et, h1, h2, b _ h⟩
/-- what row_with asks of its arguments, in order -/
def AskRw (v1 v2 v3 : V) (H : Hp) (qt qp qn : Prop) (qg : Int → Prop) (qk : Str → Nat → Nums → Prop) : Prop := StT v1 H qt fun x => StP v2 H qp fun p => StNd x.length v3 H qn qg fun M => qk x p M
theorem AskRw.imp {v1 v2 v3 : V} {H : Hp} {qt qp qn qt' qp' qn' : Prop} {qg qg' : Int → Prop} {qk qk' : Str → Nat → Nums → Prop} (h : AskRw v1 v2 v3 H qt qp qn qg qk) (a : qt → qt') (b : qp → qp') (c : qn → qn') (g : ∀ k, qg k → qg' k) (d : ∀ x p M, qk x p M → qk' x p M) : AskRw v1 v2 v3 H qt' qp' qn' qg' qk' :=
  StT.imp h a fun x h => StP.imp h b fun p h => StNd.imp h c g fun M h => d x p M h
/-- what bar_row asks of its arguments, in order -/
def AskBr (v1 v2 v3 : V) (H : Hp) (qt qp qb : Prop) (qk : Str → Nat → Nums → Prop) : Prop := StT v1 H qt fun x => StP v2 H qp fun p => StB x.length v3 H qb fun b => qk x p [(b, 1)]
theorem AskBr.imp {v1 v2 v3 : V} {H : Hp} {qt qp qb qt' qp' qb' : Prop} {qk qk' : Str → Nat → Nums → Prop} (h : AskBr v1 v2 v3 H qt qp qb qk) (a : qt → qt') (b : qp → qp') (c : qb → qb') (d : ∀ x p M, qk x p M → qk' x p M) : AskBr v1 v2 v3 H qt' qp' qb' qk' :=
  StT.imp h a fun x h => StP.imp h b fun p h => StB.imp h c fun M h => d x p _ h
def RowOut (C : Addr) (H : Hp) (Q : VK) (x : Str) (p : Nat) (M : Nums) : Prop := ∀ o H', H o = none → Same H H' → RowOf C H' o x ((p : Nat) : Int) (rowSs x.length M) (rowMs x M) → Q (.ref o) H'
def spRowWith (C CT CP CN CG : Addr) : Sp := fun vs H Q E => ∃ v1 v2 v3, vs = [v1, v2, v3] ∧ AskRw v1 v2 v3 H (Thrown CT v1 H E) (Thrown CP v2 H E) (Thrown CN v3 H E) (fun k => Thrown CG (.int k) H E) (RowOut C H Q)
def spSameI : Sp := fun vs H Q _ => ∃ (a b : Addr) (rs cs : List Nat), vs = [.ref a, .ref b] ∧ H a = some (.lst (rs.map fun r => V.int ((r : Nat) : Int))) ∧ H b = some (.lst (cs.map fun r => V.int ((r : Nat) : Int))) ∧ rs.length ≤ 6 ∧ cs.length ≤ 6 ∧
  ∀ l acc H', H l = none → Same H H' → H' l = some (.lst acc) → AnyL (del H' l) acc ((sameM rs cs).map tupI) → Q (.ref l) H'
end Rw
set_option Elab.async false
set_option linter.all false
set_option maxRecDepth 100000
set_option maxHeartbeats 2000000
namespace Rw
open PySem PySem.Spec PyProof.Rows L2
/-- numbers of bars, their dict's items known -/
def NumA (H : Hp) (d : Addr) (M : Nums) : Prop := ∃ o bs, H d = some (.frz o (.dT (nmT M))) ∧ IsKeys H (nmT M) bs ∧ DicO H d (itemsT bs (nmT M))
theorem NumA.at {H : Hp} {d : Addr} {M : Nums} (h : NumA H d M) : NumAt H d M := by
  obtain ⟨o, bs, e, _⟩ := h
  exact ⟨o, e⟩
theorem NumA.keep {H H' : Hp} {d : Addr} {M : Nums} (h : NumA H d M) (k : Same H H') : NumA H' d M := by
  obtain ⟨o, bs, e, ik, hd⟩ := h
  exact ⟨o, bs, k _ _ e, isKeys_to ik fun b ys e => k _ _ e, hd.keep k⟩
/-- a dict with tuple keys that is no numbers -/
def BadT (n : Nat) (H : Hp) (a : Addr) : Prop := ∃ o kvs bs ds, H a = some (.frz o (.dT kvs)) ∧ IsKeys H kvs bs ∧ DicO H a (itemsT bs kvs) ∧ AnyL H (kvs.map (·.2)) ds ∧ (kvs.map (·.1)).Nodup ∧ (∀ q ∈ kvs, q.1.length ≤ 9) ∧ kvs.length ≤ 900 ∧ numsOk n kvs ds = false
/-- a dict with a last key that is an int or a text -/
def BadX (P : Program) (w : World) (H : Hp) (a : Addr) : Prop := ∃ kvs bs ds k0 v0 d0, DicO H a (itemsT bs kvs ++ [(kV k0, v0)]) ∧ IsKeys H kvs bs ∧ (kvs ≠ [] → MixM P w H a kvs k0 v0) ∧ AnyL H (kvs.map (·.2)) ds ∧ (kvs.map (·.1)).Nodup ∧ (∀ q ∈ kvs, q.1.length ≤ 9) ∧ Any H v0 d0
def BadL (P : Program) (w : World) (n : Nat) (H : Hp) (v : V) : Prop := (∃ d, Any H v d ∧ notDic d = true) ∨ ∃ a, v = .ref a ∧ (BadT n H a ∨ BadX P w H a)
theorem BadL.keep {P : Program} {w : World} {n : Nat} {H H' : Hp} {v : V} (h : BadL P w n H v) (k : Same H H') : BadL P w n H' v := by
  rcases h with ⟨d, an, e⟩ | ⟨a, rfl, h⟩
  · exact .inl ⟨d, an.keep k, e⟩
  refine .inr ⟨a, rfl, ?_⟩
  rcases h with ⟨o, kvs, bs, ds, e, ik, hd, al, nd, n9, l9, b⟩ | ⟨kvs, bs, ds, k0, v0, d0, hd, ik, mm, al, nd, n9, a0⟩
  · exact .inl ⟨o, kvs, bs, ds, k _ _ e, isKeys_to ik fun b ys e => k _ _ e, hd.keep k, anyL_keep k al, nd, n9, l9, b⟩
  · exact .inr ⟨kvs, bs, ds, k0, v0, d0, hd.keep k, isKeys_to ik fun b ys e => k _ _ e, fun z => (mm z).keep k, anyL_keep k al, nd, n9, a0.keep k⟩
theorem items_fst {bs : List Addr} {kvs : List (List L2.Key × V)} (h : kvs.length = bs.length) : (itemsT bs kvs).map (·.1) = bs.map V.ref ∧ (itemsT bs kvs).map (·.2) = kvs.map (·.2) := by
  unfold itemsT
  rw [List.map_map, List.map_map]
  constructor
  · have : (List.map ((fun x => x.fst) ∘ fun (z : Addr × List L2.Key × V) => (V.ref z.1, z.2.2)) (bs.zip kvs)) = ((bs.zip kvs).map (·.1)).map V.ref := by rw [List.map_map] <;> rfl
    rw [this, zip_fst h.symm]
  · have : (List.map ((fun x => x.snd) ∘ fun (z : Addr × List L2.Key × V) => (V.ref z.1, z.2.2)) (bs.zip kvs)) = ((bs.zip kvs).map (·.2)).map (·.2) := by rw [List.map_map] <;> rfl
    rw [this, zip_snd h.symm]
theorem keys_any {H : Hp} {kvs : List (List L2.Key × V)} {bs : List Addr} (ik : IsKeys H kvs bs) : AnyL H (bs.map V.ref) (kvs.map fun q => tupK q.1) := by
  induction ik with
  | nil => exact .nil
  | cons h t ih => exact .cons (any_tupK h) ih
theorem BadL.n {P : Program} {w : World} {n : Nat} {H : Hp} {v : V} (h : BadL P w n H v) : BadN n H v := by
  rcases h with ⟨d, an, e⟩ | ⟨a, rfl, h⟩
  · exact .inl ⟨d, an, e⟩
  rcases h with ⟨o, kvs, bs, ds, e, ik, hd, al, nd, n9, l9, b⟩ | ⟨kvs, bs, ds, k0, v0, d0, hd, ik, mm, al, nd, n9, a0⟩
  · have lb := Paired.length ik
    obtain ⟨f1, f2⟩ := items_fst lb
    refine .inr ⟨a, _, kvs.map fun q => tupK q.1, ds, rfl, hd, by rw [f1]; exact keys_any ik, by rw [f2]; exact al, ?_⟩
    rw [← b]
    unfold numsOk
    have : ∀ (kvs : List (List L2.Key × V)) (ds : List PyData), ((kvs.map fun q => tupK q.1).zip ds).all (numItm n) = (kvs.zip ds).all fun q => numOkB n q.1.1 q.2 := fun kvs => by
      induction kvs with
      | nil => intro ds; rfl
      | cons q kvs ih =>
        intro ds
        cases ds with
        | nil => rfl
        | cons d ds =>
          rw [List.map_cons, List.zip_cons_cons, List.zip_cons_cons, List.all_cons, List.all_cons, ih ds] <;> rfl
    exact this kvs ds
  · have lb := Paired.length ik
    have ll := anyL_len al
    rw [List.length_map] at ll
    obtain ⟨f1, f2⟩ := items_fst lb
    refine .inr ⟨a, _, (kvs.map fun q => tupK q.1) ++ [keyD k0], ds ++ [d0], rfl, hd, ?_, ?_, ?_⟩
    · rw [List.map_append, f1]
      refine anyL_app (keys_any ik) (.cons ?_ .nil)
      cases k0 with
      | inl i => exact .int _
      | inr x => exact .str _
    · rw [List.map_append, f2]
      exact anyL_app al (.cons a0 .nil)
    · rw [List.zip_append (by rw [List.length_map]; exact ll), List.all_append]
      have : ([keyD k0].zip [d0]).all (numItm n) = false := by
        cases k0 <;> rfl
      rw [this, Bool.and_false]
def StNdL (P : Program) (w : World) (n : Nat) (v : V) (H : Hp) (qn : Prop) (qg : Int → Prop) (k : Nums → Prop) : Prop := (BadL P w n H v ∧ qn) ∨
  ∃ d M, v = .ref d ∧ NumA H d M ∧ NumM n M ∧ (M.map (·.1)).Nodup ∧ ((∀ i, i ≤ n → szN M i ≤ 6) → k M) ∧ (∀ i, i ≤ n → 6 < szN M i → (∀ j, j < i → szN M j ≤ 6) → qg ((szN M i : Nat) : Int))
theorem StNdL.nd {P : Program} {w : World} {n : Nat} {v : V} {H : Hp} {qn : Prop} {qg : Int → Prop} {k : Nums → Prop} (h : StNdL P w n v H qn qg k) : StNd n v H qn qg k := by
  rcases h with ⟨b, q⟩ | ⟨d, M, e, nd, r⟩
  · exact .inl ⟨b.n, q⟩
  · exact .inr ⟨d, M, e, nd.at, r⟩
def TolD (H : Hp) (Q : VK) (x : Str) (p : Nat) (M : Nums) : Prop := ∀ l H', H l = none → Same H H' → Any H' (.ref l) (wD "told" (draftD x ((p : Nat) : Int) (rowSs x.length M) (rowMs x M))) → Q (.ref l) H'
theorem Out.mono {H H' : Hp} {Q : VK} {xs : List V} (h : Out H Q xs) (k : Same H H') : Out H' Q xs := fun l H2 hl k2 e => h l H2 (k.free hl) (k.trans k2) e
theorem TolD.mono {H H' : Hp} {Q : VK} {x : Str} {p : Nat} {M : Nums} (h : TolD H Q x p M) (k : Same H H') : TolD H' Q x p M := fun l H2 hl k2 e => h l H2 (k.free hl) (k.trans k2) e
end Rw
set_option Elab.async false
set_option linter.all false
set_option maxRecDepth 100000
set_option maxHeartbeats 2000000
set_option exponentiation.threshold 3000
namespace Rw
open PySem PySem.Spec PyProof.Rows L2
/-- data that is very short -/
def Tny (H : Hp) (v : V) : Prop := ∃ d, Any H v d ∧ Tz 1 60 d
theorem Tny.keep {H H' : Hp} {v : V} (h : Tny H v) (k : Same H H') : Tny H' v := by
  obtain ⟨d, a, t⟩ := h
  exact ⟨d, a.keep k, t⟩
/-- a thing held against a pattern: its size for repr, and whether it is numbers -/
def ThB (P : Program) (w : World) (n : Nat) (H : Hp) (v : V) : Prop := ∃ d, Ax H v d ∧ Tz 6 50000 d ∧ (BadL P w n H v ∨ ∃ a M, v = .ref a ∧ NumA H a M ∧ NumM n M ∧ (M.map (·.1)).Nodup)
theorem ThB.keep {P : Program} {w : World} {n : Nat} {H H' : Hp} {v : V} (h : ThB P w n H v) (k : Same H H') : ThB P w n H' v := by
  obtain ⟨d, ax, tz, h⟩ := h
  exact ⟨d, ax.keep k, tz, h.elim (fun b => .inl (b.keep k)) fun ⟨a, M, e, na, r⟩ => .inr ⟨a, M, e, na.keep k, r⟩⟩
end Rw
set_option Elab.async false
set_option linter.all false
set_option maxRecDepth 100000
set_option maxHeartbeats 2000000
namespace Rw
open PySem PySem.Spec PyProof.Rows L2
end Rw
set_option Elab.async false
set_option linter.all false
set_option maxRecDepth 100000
set_option maxHeartbeats 2000000
namespace Rw
open PySem PySem.Spec PyProof.Rows L2
open AutoSeq1 (wpAny_loadPart')
open SeqAt
/-- a thing that is no numbers, or an empty dict -/
def ThE (P : Program) (w : World) (n : Nat) (H : Hp) (v : V) : Prop := ∃ d, Ax H v d ∧ Tz 6 50000 d ∧ (BadL P w n H v ∨ ∃ a, v = .ref a ∧ NumA H a [])
theorem ThE.keep {P : Program} {w : World} {n : Nat} {H H' : Hp} {v : V} (h : ThE P w n H v) (k : Same H H') : ThE P w n H' v := by
  obtain ⟨d, ax, tz, h⟩ := h
  exact ⟨d, ax.keep k, tz, h.elim (fun b => .inl (b.keep k)) fun ⟨a, e, na⟩ => .inr ⟨a, e, na.keep k⟩⟩
end Rw
set_option Elab.async false
set_option linter.all false
set_option maxRecDepth 100000
set_option maxHeartbeats 4000000
namespace Rw
open PySem PySem.Spec PyProof.Rows L2
/-- a pair of an int and an object in the memory -/
def IrAt (h : Heap) (v : Value) (x : Int) (r : Addr) : Prop := ∃ b ob tk m, v = .ref b ∧ h.get? b = some ob ∧ ob.cls = .type "tuple" ∧ ob.data = .seq #[.int x tk, .ref r] m
theorem IrAt.over {h h2 : Heap} {v : Value} {x : Int} {r : Addr} (g : IrAt h v x r) (k : ∀ b ob, h.get? b = some ob → ob.cls = .type "tuple" → h2.get? b = some ob) : IrAt h2 v x r := by
  obtain ⟨b, ob, tk, m, e1, e2, e3, e4⟩ := g
  exact ⟨b, ob, tk, m, e1, k b ob e2 e3, e3, e4⟩
end Rw
set_option Elab.async false
set_option linter.all false
set_option maxRecDepth 100000
set_option maxHeartbeats 4000000
namespace Rw
open PySem PySem.Spec PyProof.Rows L2 Srt SrtO
end Rw
set_option Elab.async false
set_option linter.all false
namespace Rw
theorem S_single {g : Nat → Int} {j : Nat} : ∀ {n : Nat}, j < n → (∀ i, i < n → i ≠ j → g i = 0) → S n g = g j
  | 0, h, _ => absurd h (Nat.not_lt_zero j)
  | n + 1, h, z => by
    show S n g + g n = g j
    by_cases e : j = n
    · subst e
      have h0 : S j g = S j (fun _ => 0) := S_congr fun i hi => z i (by omega) (by omega)
      rw [h0, S_zero]
      omega
    · rw [S_single (n := n) (by omega) fun i hi ne => z i (by omega) ne, z n (by omega) (fun y => e y.symm)]
      omega
/-- n rows of width w, reduced modulo p, with their leading places -/
structure Red (p : Int) (w n : Nat) (A : Nat → Nat → Int) (L : Nat → Nat) : Prop where
  lt : ∀ i, i < n → L i < w
  mono : ∀ i j, i < j → j < n → L i < L j
  one : ∀ i, i < n → A i (L i) = 1
  zero : ∀ i j, i < n → j < n → i ≠ j → A i (L j) = 0
  low : ∀ i c, i < n → c < L i → A i c = 0
  rng : ∀ i c, i < n → c < w → 0 ≤ A i c ∧ A i c < p
/-- a vector is a sum of multiples of the rows -/
def InSpan (p : Int) (w n : Nat) (A : Nat → Nat → Int) (v : Nat → Int) : Prop := ∃ f : Nat → Int, ∀ c, c < w → v c % p = S n (fun i => f i * A i c) % p
variable {p : Int} {w n m : Nat} {A B : Nat → Nat → Int} {L M : Nat → Nat}
theorem Red.coef (R : Red p w n A L) {f : Nat → Int} {v : Nat → Int} (h : ∀ c, c < w → v c % p = S n (fun i => f i * A i c) % p) {j : Nat} (hj : j < n) : f j % p = v (L j) % p := by
  rw [h (L j) (R.lt j hj), S_single (j := j) hj fun i hi ne => ?_]
  · show f j % p = (f j * A j (L j)) % p
    rw [R.one j hj, Int.mul_one]
  · show f i * A i (L j) = 0
    rw [R.zero i j hi hj ne, Int.mul_zero]
theorem least {P : Nat → Prop} : ∀ n : Nat, (∃ i, i < n ∧ P i) → ∃ i, i < n ∧ P i ∧ ∀ k, k < i → ¬ P k
  | 0, h => by
    obtain ⟨i, hi, _⟩ := h
    exact absurd hi (Nat.not_lt_zero i)
  | n + 1, h => by
    by_cases e : ∃ i, i < n ∧ P i
    · obtain ⟨i, h1, h2, h3⟩ := least n e
      exact ⟨i, by omega, h2, h3⟩
    · obtain ⟨i, hi, hp⟩ := h
      have : i = n := by
        by_cases y : i < n
        · exact absurd ⟨i, y, hp⟩ e
        · omega
      subst this
      exact ⟨i, by omega, hp, fun k hk hpk => e ⟨k, hk, hpk⟩⟩
theorem Red.lead (R : Red p w n A L) (T : Red p w m B M) (hp : 1 < p) (h : ∀ j, j < m → InSpan p w n A (B j)) {j : Nat} (hj : j < m) : ∃ i, i < n ∧ L i = M j := by
  obtain ⟨f, hf⟩ := h j hj
  have one : (1 : Int) % p = 1 := Int.emod_eq_of_lt (by decide) hp
  have ex : ∃ i, i < n ∧ ¬ f i % p = 0 := by
    refine Classical.byContradiction fun no => ?_
    have all : ∀ i, i < n → f i % p = 0 := fun i hi => Classical.byContradiction fun y => no ⟨i, hi, y⟩
    have e := hf (M j) (T.lt j hj)
    rw [T.one j hj, one, S_mod p (f := fun i => f i * A i (M j)) (g := fun _ => 0) (fun i hi => by
      show (f i * A i (M j)) % p = 0 % p
      rw [Int.mul_emod, all i hi, Int.zero_mul]), S_zero] at e
    simp at e
  obtain ⟨i, hi, ni, lo⟩ := least n ex
  have lo' : ∀ k, k < i → f k % p = 0 := fun k hk => Classical.byContradiction fun y => lo k hk y
  refine ⟨i, hi, ?_⟩
  have c1 : ¬ L i < M j := fun y => by
    have e := R.coef hf hi
    rw [T.low j (L i) hj y] at e
    exact ni (by rw [e]; simp)
  have c2 : ¬ M j < L i := fun y => by
    have e := hf (M j) (T.lt j hj)
    rw [T.one j hj, one, S_mod p (f := fun k => f k * A k (M j)) (g := fun _ => 0) (fun k hk => by
      show (f k * A k (M j)) % p = 0 % p
      by_cases z : k < i
      · rw [Int.mul_emod, lo' k z, Int.zero_mul]
      · have : M j < L k := by
          by_cases q : k = i
          · rw [q]; exact y
          · exact Nat.lt_trans y (R.mono i k (by omega) hk)
        rw [R.low k (M j) hk this, Int.mul_zero]), S_zero] at e
    simp at e
  omega
theorem same_leads (R : Red p w n A L) (T : Red p w m B M) (h1 : ∀ j, j < m → ∃ i, i < n ∧ L i = M j) (h2 : ∀ i, i < n → ∃ j, j < m ∧ M j = L i) : ∀ k i, i < k → i < n → i < m ∧ L i = M i
  | 0, i, h, _ => absurd h (Nat.not_lt_zero i)
  | k + 1, i, h, hi => by
    have ih := same_leads R T h1 h2 k
    obtain ⟨j, hj, ej⟩ := h2 i hi
    have ji : ¬ j < i := fun y => by
      obtain ⟨_, e⟩ := ih j (by omega) (by omega)
      have := R.mono j i y hi
      omega
    have im : i < m := by omega
    obtain ⟨q, hq, eq⟩ := h1 i im
    have qi : ¬ q < i := fun y => by
      obtain ⟨_, e⟩ := ih q (by omega) (by omega)
      have := T.mono q i y im
      omega
    refine ⟨im, ?_⟩
    have a1 : L i ≤ L q := by
      by_cases z : i = q
      · rw [z]; exact Nat.le_refl _
      · exact Nat.le_of_lt (R.mono i q (by omega) hq)
    have a2 : M i ≤ M j := by
      by_cases z : i = j
      · rw [z]; exact Nat.le_refl _
      · exact Nat.le_of_lt (T.mono i j (by omega) hj)
    omega
/-- two reduced bases of one space are the same -/
theorem red_unique (R : Red p w n A L) (T : Red p w m B M) (hp : 1 < p) (h1 : ∀ j, j < m → InSpan p w n A (B j)) (h2 : ∀ i, i < n → InSpan p w m B (A i)) : n = m ∧ (∀ i, i < n → L i = M i) ∧ ∀ i c, i < n → c < w → A i c = B i c := by
  have l1 := fun j (hj : j < m) => R.lead T hp h1 hj
  have l2 := fun i (hi : i < n) => T.lead R hp h2 hi
  have s1 := fun i hi => same_leads R T l1 l2 (i + 1) i (Nat.lt_succ_self i) hi
  have s2 := fun j hj => same_leads T R l2 l1 (j + 1) j (Nat.lt_succ_self j) hj
  have nm : n = m := by
    by_cases y : n < m
    · exact absurd (s2 n y).1 (Nat.lt_irrefl n)
    · by_cases z : m < n
      · exact absurd (s1 m z).1 (Nat.lt_irrefl m)
      · omega
  subst nm
  refine ⟨rfl, fun i hi => (s1 i hi).2, fun i c hi hc => ?_⟩
  obtain ⟨g, hg⟩ := h2 i hi
  have cf := fun j (hj : j < n) => T.coef hg hj
  have e : A i c % p = B i c % p := by
    rw [hg c hc, S_mod p (f := fun j => g j * B j c) (g := fun j => if j = i then B i c else 0) (fun j hj => ?_), S_single (j := i) hi fun k _ ne => if_neg ne]
    · show (if i = i then B i c else 0) % p = _
      rw [if_pos rfl]
    · show (g j * B j c) % p = (if j = i then B i c else 0) % p
      rw [Int.mul_emod, cf j hj, ← (s1 j hj).2]
      by_cases y : j = i
      · subst y
        rw [R.one j hj, if_pos rfl, ← Int.mul_emod, Int.one_mul]
      · rw [R.zero i j hi hj (fun z => y z.symm), if_neg y, ← Int.mul_emod, Int.zero_mul]
  obtain ⟨a1, a2⟩ := R.rng i c hi hc
  obtain ⟨b1, b2⟩ := T.rng i c hi hc
  rw [Int.emod_eq_of_lt a1 a2, Int.emod_eq_of_lt b1 b2] at e
  exact e
end Rw
set_option Elab.async false
set_option linter.all false
namespace Rw
def cl (r : List Int) (c : Nat) : Int := r[c]?.getD 0
/-- sums of multiples of the rows, modulo p -/
inductive InL (p : Int) (w : Nat) (rs : List (List Int)) : (Nat → Int) → Prop
  | zero {v : Nat → Int} : (∀ c, c < w → v c % p = 0) → InL p w rs v
  | step {u v : Nat → Int} {r : List Int} (a : Int) : r ∈ rs → InL p w rs u → (∀ c, c < w → v c % p = (u c + a * cl r c) % p) → InL p w rs v
section
variable {p : Int} {w : Nat} {rs rs' : List (List Int)} {u v : Nat → Int} {r : List Int}
theorem InL.congr (h : InL p w rs u) (e : ∀ c, c < w → v c % p = u c % p) : InL p w rs v := by
  cases h with
  | zero z => exact .zero fun c hc => (e c hc).trans (z c hc)
  | step a m hu hv => exact .step a m hu fun c hc => (e c hc).trans (hv c hc)
theorem InL.add (h : InL p w rs u) (k : InL p w rs v) : InL p w rs (fun c => u c + v c) := by
  induction h with
  | zero z =>
    refine k.congr fun c hc => ?_
    rw [Int.add_emod, z c hc, Int.zero_add, Int.emod_emod_of_dvd _ (Int.dvd_refl p)]
  | step a m hu hv ih =>
    refine .step a m ih fun c hc => ?_
    rw [Int.add_emod, hv c hc, ← Int.add_emod]
    exact congrArg (· % p) (by omega)
theorem InL.mul (b : Int) (h : InL p w rs u) : InL p w rs (fun c => b * u c) := by
  induction h with
  | zero z =>
    refine .zero fun c hc => ?_
    rw [Int.mul_emod, z c hc, Int.mul_zero, Int.zero_emod]
  | step a m hu hv ih =>
    refine .step (b * a) m ih fun c hc => ?_
    rw [Int.mul_emod, hv c hc, ← Int.mul_emod, Int.mul_add, Int.mul_assoc]
theorem InL.row (m : r ∈ rs) : InL p w rs (cl r) := .step 1 m (.zero (v := fun _ => 0) fun _ _ => Int.zero_emod p) fun c _ => by rw [Int.zero_add, Int.one_mul]
theorem InL.trans (h : InL p w rs v) (k : ∀ r, r ∈ rs → InL p w rs' (cl r)) : InL p w rs' v := by
  induction h with
  | zero z => exact .zero z
  | step a m hu hv ih => exact (ih.add ((k _ m).mul a)).congr hv
theorem inL_span (h : InL p w rs v) : InSpan p w rs.length (fun i c => cl (rs[i]?.getD []) c) v := by
  induction h with
  | zero z =>
    refine ⟨fun _ => 0, fun c hc => ?_⟩
    rw [z c hc, S_congr (g := fun _ => 0) fun i _ => Int.zero_mul _, S_zero, Int.zero_emod]
  | step a m hu hv ih =>
    rename_i u' v' r'
    obtain ⟨f, hf⟩ := ih
    obtain ⟨i, hi, e⟩ := List.mem_iff_getElem.mp m
    refine ⟨fun k => f k + if k = i then a else 0, fun c hc => ?_⟩
    have e1 : S rs.length (fun k => (f k + if k = i then a else 0) * cl (rs[k]?.getD []) c) = S rs.length (fun k => f k * cl (rs[k]?.getD []) c) + a * cl r' c := by
      rw [S_congr (g := fun k => f k * cl (rs[k]?.getD []) c + (if k = i then a else 0) * cl (rs[k]?.getD []) c) fun k _ => Int.add_mul _ _ _, S_add]
      rw [S_single (g := fun k => (if k = i then a else 0) * cl (rs[k]?.getD []) c) hi fun k _ ne => by
        show (if k = i then a else 0) * _ = 0
        rw [if_neg ne, Int.zero_mul]]
      show _ + (if i = i then a else 0) * cl (rs[i]?.getD []) c = _
      rw [if_pos rfl, List.getElem?_eq_getElem hi, Option.getD_some, e]
    rw [hv c hc, e1, Int.add_emod, hf c hc, ← Int.add_emod]
end
/-- a row less that multiple of the head that clears it at s -/
def lessR (p : Int) (head : List Int) (s : Nat) (r : List Int) : List Int := (List.range head.length).map fun k => (cl r k - cl r s * cl head k) % p
def unitR (p t : Int) (r : List Int) : List Int := r.map fun x => x * t % p
theorem cl_less {p : Int} {head r : List Int} {s c : Nat} (h : c < head.length) : cl (lessR p head s r) c = (cl r c - cl r s * cl head c) % p := by
  unfold lessR
  show ((List.map _ _)[c]?).getD 0 = _
  rw [List.getElem?_map, List.getElem?_range h] <;> rfl
theorem cl_unit {p t : Int} {r : List Int} {c : Nat} (h : c < r.length) : cl (unitR p t r) c = cl r c * t % p := by
  unfold unitR
  show ((List.map _ _)[c]?).getD 0 = ((r[c]?).getD 0) * t % p
  rw [List.getElem?_map, List.getElem?_eq_getElem h] <;> rfl
/-- where the law's elimination stands at the place s -/
structure Elim (p : Int) (w : Nat) (rows : List (List Int)) (s : Nat) (left found : List (List Int)) : Prop where
  len : ∀ r, r ∈ left ++ found → r.length = w
  rng : ∀ r, r ∈ left ++ found → ∀ c, c < w → 0 ≤ cl r c ∧ cl r c < p
  zero : ∀ r, r ∈ left → ∀ c, c < s → cl r c = 0
  red : ∃ L : Nat → Nat, Red p w found.length (fun i c => cl (found[i]?.getD []) c) L ∧ ∀ i, i < found.length → L i < s
  sp1 : ∀ r, r ∈ rows → InL p w (left ++ found) (cl r)
  sp2 : ∀ r, r ∈ left ++ found → InL p w rows (cl r)
section
variable {p : Int} {w s : Nat} {rows left found : List (List Int)}
theorem Elim.skip (e : Elim p w rows s left found) (h : ∀ r, r ∈ left → cl r s = 0) : Elim p w rows (s + 1) left found := by
  obtain ⟨L, R, lt⟩ := e.red
  refine ⟨e.len, e.rng, fun r hr c hc => ?_, ⟨L, R, fun i hi => Nat.lt_succ_of_lt (lt i hi)⟩, e.sp1, e.sp2⟩
  by_cases z : c = s
  · rw [z]; exact h r hr
  · exact e.zero r hr c (by omega)
end
end Rw
set_option Elab.async false
set_option linter.all false
namespace Rw
theorem mem_parts {rows : List (List Int)} {k : Nat} {h0 r : List Int} (hk : rows[k]? = some h0) (hr : r ∈ rows) : r = h0 ∨ r ∈ rows.eraseIdx k := by
  obtain ⟨i, hi, e⟩ := List.mem_iff_getElem.mp hr
  by_cases y : i = k
  · subst y
    rw [List.getElem?_eq_getElem hi] at hk
    exact .inl (e.symm.trans (Option.some.inj hk))
  · exact .inr (List.mem_eraseIdx_iff_getElem.mpr ⟨i, hi, y, e⟩)
section
variable {p : Int} {w s : Nat} {rows left found : List (List Int)}
theorem Elim.turn (e : Elim p w rows s left found) (hp : 1 < p) (hs : s < w) {k : Nat} {h0 : List Int} (hk : left[k]? = some h0) {t : Int} (ht : cl h0 s * t % p = 1) :
    Elim p w rows (s + 1) ((left.eraseIdx k).map (lessR p (unitR p t h0) s)) (found.map (lessR p (unitR p t h0) s) ++ [unitR p t h0]) := by
  have p0 : p ≠ 0 := by omega
  have hin : h0 ∈ left := List.mem_of_getElem? hk
  have hlen : h0.length = w := e.len h0 (List.mem_append_left _ hin)
  generalize hd' : unitR p t h0 = hd
  have dlen : hd.length = w := by
    rw [← hd']
    unfold unitR
    rw [List.length_map, hlen]
  have dcl : ∀ c, c < w → cl hd c = cl h0 c * t % p := fun c hc => by
    rw [← hd']
    exact cl_unit (by omega)
  have dz : ∀ c, c < s → cl hd c = 0 := fun c hc => by
    rw [dcl c (by omega), e.zero h0 hin c hc, Int.zero_mul, Int.zero_emod]
  have d1 : cl hd s = 1 := by rw [dcl s hs, ht]
  have lcl : ∀ r c, c < w → cl (lessR p hd s r) c = (cl r c - cl r s * cl hd c) % p := fun r c hc => cl_less (by omega)
  have llen : ∀ r, (lessR p hd s r).length = w := fun r => by
    unfold lessR
    rw [List.length_map, List.length_range, dlen]
  have sub : ∀ r, r ∈ left.eraseIdx k → r ∈ left := fun r hr => List.mem_of_mem_eraseIdx hr
  -- what a new row is
  have kinds : ∀ r, r ∈ (left.eraseIdx k).map (lessR p hd s) ++ (found.map (lessR p hd s) ++ [hd]) → r = hd ∨ ∃ r0, r0 ∈ left ++ found ∧ r = lessR p hd s r0 := by
    intro r hr
    rcases List.mem_append.mp hr with z | z
    · obtain ⟨r0, h1, h2⟩ := List.mem_map.mp z
      exact .inr ⟨r0, List.mem_append_left _ (sub r0 h1), h2.symm⟩
    · rcases List.mem_append.mp z with y | y
      · obtain ⟨r0, h1, h2⟩ := List.mem_map.mp y
        exact .inr ⟨r0, List.mem_append_right _ h1, h2.symm⟩
      · exact .inl (List.mem_singleton.mp y)
  have hdin : hd ∈ (left.eraseIdx k).map (lessR p hd s) ++ (found.map (lessR p hd s) ++ [hd]) := List.mem_append_right _ (List.mem_append_right _ (List.mem_singleton.mpr rfl))
  have drng : ∀ c, c < w → 0 ≤ cl hd c ∧ cl hd c < p := fun c hc => by
    rw [dcl c hc]
    exact ⟨Int.emod_nonneg _ p0, Int.emod_lt_of_pos _ (by omega)⟩
  obtain ⟨L, R, lt⟩ := e.red
  refine ⟨?_, ?_, ?_, ?_, ?_, ?_⟩
  · intro r hr
    rcases kinds r hr with rfl | ⟨r0, _, rfl⟩
    · exact dlen
    · exact llen r0
  · intro r hr c hc
    rcases kinds r hr with rfl | ⟨r0, _, rfl⟩
    · exact drng c hc
    · rw [lcl r0 c hc]
      exact ⟨Int.emod_nonneg _ p0, Int.emod_lt_of_pos _ (by omega)⟩
  · intro r hr c hc
    obtain ⟨r0, h1, rfl⟩ := List.mem_map.mp hr
    rw [lcl r0 c (by omega)]
    by_cases y : c = s
    · subst y
      rw [d1, Int.mul_one, Int.sub_self, Int.zero_emod]
    · rw [e.zero r0 (sub r0 h1) c (by omega), dz c (by omega), Int.mul_zero, Int.sub_zero, Int.zero_emod]
  · have n1 : (found.map (lessR p hd s) ++ [hd]).length = found.length + 1 := by rw [List.length_append, List.length_map] <;> rfl
    have at1 : ∀ i, i < found.length → (found.map (lessR p hd s) ++ [hd])[i]?.getD [] = lessR p hd s (found[i]?.getD []) := fun i hi => by
      rw [List.getElem?_append_left (by rw [List.length_map]; exact hi), List.getElem?_map, List.getElem?_eq_getElem hi] <;> rfl
    have at2 : (found.map (lessR p hd s) ++ [hd])[found.length]?.getD [] = hd := by
      rw [List.getElem?_append_right (by rw [List.length_map]; exact Nat.le_refl _), List.length_map, Nat.sub_self] <;> rfl
    have keep : ∀ i c, i < found.length → c < s → cl (lessR p hd s (found[i]?.getD [])) c = cl (found[i]?.getD []) c := fun i c hi hc => by
      rw [lcl _ c (by omega), dz c hc, Int.mul_zero, Int.sub_zero]
      obtain ⟨a1, a2⟩ := R.rng i c hi (by omega)
      exact Int.emod_eq_of_lt a1 a2
    refine ⟨fun i => if i < found.length then L i else s, ?_, ?_⟩
    · rw [n1]
      refine ⟨fun i hi => ?_, fun i j hij hj => ?_, fun i hi => ?_, fun i j hi hj ne => ?_, fun i c hi hc => ?_, fun i c hi hc => ?_⟩
      · show (if i < found.length then L i else s) < w
        split
        · exact R.lt i ‹_›
        · exact hs
      · show (if i < found.length then L i else s) < (if j < found.length then L j else s)
        rw [if_pos (by omega : i < found.length)]
        split
        · exact R.mono i j hij ‹_›
        · exact lt i (by omega)
      · show cl _ (if i < found.length then L i else s) = 1
        by_cases y : i < found.length
        · rw [if_pos y, at1 i y, keep i (L i) y (lt i y)]
          exact R.one i y
        · have : i = found.length := by omega
          subst this
          rw [if_neg (Nat.lt_irrefl _), at2]
          exact d1
      · show cl _ (if j < found.length then L j else s) = 0
        by_cases y : i < found.length
        · rw [at1 i y]
          by_cases z : j < found.length
          · rw [if_pos z, keep i (L j) y (lt j z)]
            exact R.zero i j y z ne
          · rw [if_neg z, lcl _ s hs, d1, Int.mul_one, Int.sub_self, Int.zero_emod]
        · have ei : i = found.length := by omega
          have z : j < found.length := by omega
          rw [if_pos z, ei, at2]
          exact dz (L j) (lt j z)
      · have hc' : c < (if i < found.length then L i else s) := hc
        show cl _ c = 0
        by_cases y : i < found.length
        · rw [if_pos y] at hc'
          have := lt i y
          rw [at1 i y, keep i c y (by omega)]
          exact R.low i c y hc'
        · rw [if_neg y] at hc'
          have ei : i = found.length := by omega
          rw [ei, at2]
          exact dz c hc'
      · show 0 ≤ cl _ c ∧ cl _ c < p
        by_cases y : i < found.length
        · rw [at1 i y, lcl _ c hc]
          exact ⟨Int.emod_nonneg _ p0, Int.emod_lt_of_pos _ (by omega)⟩
        · have ei : i = found.length := by omega
          rw [ei, at2]
          exact drng c hc
    · intro i hi
      show (if i < found.length then L i else s) < s + 1
      split
      · have := lt i ‹_›
        omega
      · omega
  · intro r hr
    refine (e.sp1 r hr).trans fun r0 h1 => ?_
    by_cases y : r0 = h0
    · subst y
      refine .step (cl r0 s) hdin (.zero (v := fun _ => 0) fun _ _ => Int.zero_emod p) fun c hc => ?_
      have z : cl r0 c * (cl r0 s * t) % p = cl r0 c % p := by
        rw [Int.mul_emod, ht, Int.mul_one, Int.emod_emod_of_dvd _ (Int.dvd_refl p)]
      rw [Int.zero_add, dcl c hc, Int.mul_emod, Int.emod_emod_of_dvd _ (Int.dvd_refl p), ← Int.mul_emod, ← z]
      exact congrArg (· % p) (by rw [← Int.mul_assoc, ← Int.mul_assoc, Int.mul_comm (cl r0 c) (cl r0 s)])
    · have hm : lessR p hd s r0 ∈ (left.eraseIdx k).map (lessR p hd s) ++ (found.map (lessR p hd s) ++ [hd]) := by
        rcases List.mem_append.mp h1 with z | z
        · rcases mem_parts hk z with q | q
          · exact absurd q y
          · exact List.mem_append_left _ (List.mem_map.mpr ⟨r0, q, rfl⟩)
        · exact List.mem_append_right _ (List.mem_append_left _ (List.mem_map.mpr ⟨r0, z, rfl⟩))
      refine .step (cl r0 s) hdin (InL.row hm) fun c hc => ?_
      rw [lcl r0 c hc, Int.emod_add_emod]
      exact congrArg (· % p) (by omega)
  · intro r hr
    have hh : InL p w rows (cl hd) := ((e.sp2 h0 (List.mem_append_left _ hin)).mul t).congr fun c hc => by
      rw [dcl c hc, Int.emod_emod_of_dvd _ (Int.dvd_refl p), Int.mul_comm]
    rcases kinds r hr with rfl | ⟨r0, h1, rfl⟩
    · exact hh
    · refine ((e.sp2 r0 h1).add (hh.mul (-(cl r0 s)))).congr fun c hc => ?_
      rw [lcl r0 c hc, Int.emod_emod_of_dvd _ (Int.dvd_refl p)]
      exact congrArg (· % p) (by rw [Int.neg_mul]; omega)
/-- behind the last place: a reduced basis of the same space -/
theorem Elim.done (e : Elim p w rows w left found) : (∃ L, Red p w found.length (fun i c => cl (found[i]?.getD []) c) L) ∧ (∀ r, r ∈ rows → InL p w found (cl r)) ∧ ∀ r, r ∈ found → InL p w rows (cl r) := by
  obtain ⟨L, R, _⟩ := e.red
  refine ⟨⟨L, R⟩, fun r hr => (e.sp1 r hr).trans fun r0 h1 => ?_, fun r hr => e.sp2 r (List.mem_append_right _ hr)⟩
  rcases List.mem_append.mp h1 with z | z
  · refine .zero fun c hc => ?_
    rw [e.zero r0 z c hc, Int.zero_emod]
  · exact InL.row z
/-- the start: the rows modulo p -/
theorem Elim.start (hp : 1 < p) (h : ∀ r, r ∈ rows → r.length = w) : Elim p w rows 0 (rows.map fun r => r.map fun x => x % p) [] := by
  have c1 : ∀ r c, c < r.length → cl (r.map fun x => x % p) c = cl r c % p := fun r c hc => by
    show ((List.map _ _)[c]?).getD 0 = (r[c]?).getD 0 % p
    rw [List.getElem?_map, List.getElem?_eq_getElem hc] <;> rfl
  have mem : ∀ r, r ∈ (rows.map fun r => r.map fun x => x % p) ++ [] → ∃ r0, r0 ∈ rows ∧ r = r0.map fun x => x % p := fun r hr => by
    rw [List.append_nil] at hr
    obtain ⟨r0, h1, h2⟩ := List.mem_map.mp hr
    exact ⟨r0, h1, h2.symm⟩
  refine ⟨fun r hr => ?_, fun r hr c hc => ?_, fun r hr c hc => absurd hc (Nat.not_lt_zero c), ⟨fun _ => 0, ⟨fun i hi => absurd hi (Nat.not_lt_zero i), fun i j _ hj => absurd hj (Nat.not_lt_zero j), fun i hi => absurd hi (Nat.not_lt_zero i), fun i j hi => absurd hi (Nat.not_lt_zero i), fun i c hi => absurd hi (Nat.not_lt_zero i), fun i c hi => absurd hi (Nat.not_lt_zero i)⟩, fun i hi => absurd hi (Nat.not_lt_zero i)⟩, fun r hr => ?_, fun r hr => ?_⟩
  · obtain ⟨r0, h1, rfl⟩ := mem r hr
    rw [List.length_map]
    exact h r0 h1
  · obtain ⟨r0, h1, rfl⟩ := mem r hr
    rw [c1 r0 c (by rw [h r0 h1]; exact hc)]
    exact ⟨Int.emod_nonneg _ (by omega), Int.emod_lt_of_pos _ (by omega)⟩
  · refine (InL.row (r := r.map fun x => x % p) (List.mem_append_left _ (List.mem_map.mpr ⟨r, hr, rfl⟩))).congr fun c hc => ?_
    rw [c1 r c (by rw [h r hr]; exact hc), Int.emod_emod_of_dvd _ (Int.dvd_refl p)]
  · obtain ⟨r0, h1, rfl⟩ := mem r hr
    refine (InL.row h1).congr fun c hc => ?_
    rw [c1 r0 c (by rw [h r0 h1]; exact hc), Int.emod_emod_of_dvd _ (Int.dvd_refl p)]
end
end Rw
set_option Elab.async false
set_option linter.all false
set_option maxRecDepth 100000
set_option maxHeartbeats 4000000
namespace Rw
open PySem PySem.Spec PyProof.Rows L2
def TupHere (K : PySem.W.Frag) (a : Addr) (us : List Value) : Prop := ∃ (dd : Option Addr) (n : Nat) (sl : Array (Option Value)), K.lookup a = some ⟨.type "tuple", dd, .seq us.toArray n, sl⟩
section
variable {K : PySem.W.Frag}
theorem TupHere.of {a : Addr} {us : List Value} {dd : Option Addr} {n : Nat} {sl : Array (Option Value)} (l : K.lookup a = some ⟨.type "tuple", dd, .seq us.toArray n, sl⟩) : TupHere K a us := ⟨dd, n, sl, l⟩
end
end Rw
set_option Elab.async false
set_option linter.all false
set_option maxRecDepth 100000
set_option maxHeartbeats 1000000
namespace Rw
open PySem PySem.Spec PyProof.Rows L2
abbrev PR := Nat × List Int
def leadR : List Int → Option Nat
  | [] => none
  | x :: xs => if x = 0 then (leadR xs).map (· + 1) else some 0
structure GS (p : Int) (w : Nat) (ps : List PR) : Prop where
  len : ∀ q, q ∈ ps → q.2.length = w
  lt : ∀ q, q ∈ ps → q.1 < w
  rng : ∀ q, q ∈ ps → ∀ c, c < w → 0 ≤ cl q.2 c ∧ cl q.2 c < p
  one : ∀ q, q ∈ ps → cl q.2 q.1 = 1
  low : ∀ q, q ∈ ps → ∀ c, c < q.1 → cl q.2 c = 0
  zero : ∀ (i j : Nat) (a b : PR), i ≠ j → ps[i]? = some a → ps[j]? = some b → cl a.2 b.1 = 0
abbrev rowsP (ps : List PR) : List (List Int) := ps.map (·.2)
theorem cl_ge {r : List Int} {c : Nat} (h : r.length ≤ c) : cl r c = 0 := by
  unfold cl
  rw [List.getElem?_eq_none h] <;> rfl
theorem cl_eq {r t : List Int} {w : Nat} (h1 : r.length = w) (h2 : t.length = w) (h : ∀ c, c < w → cl r c = cl t c) : r = t := by
  apply List.ext_getElem?
  intro c
  by_cases z : c < w
  · have := h c z
    unfold cl at this
    rw [List.getElem?_eq_getElem (by omega), List.getElem?_eq_getElem (by omega)] at this ⊢
    exact congrArg some this
  · rw [List.getElem?_eq_none (by omega), List.getElem?_eq_none (by omega)]
theorem lead_none : ∀ {r : List Int}, leadR r = none → ∀ c, cl r c = 0
  | [], _, c => cl_ge (Nat.zero_le c)
  | x :: xs, h, c => by
    unfold leadR at h
    by_cases z : x = 0
    · rw [if_pos z] at h
      cases e : leadR xs with
      | some l => rw [e] at h; cases h
      | none =>
        cases c with
        | zero => exact z
        | succ c => exact lead_none e c
    · rw [if_neg z] at h; cases h
theorem lead_some : ∀ {r : List Int} {l : Nat}, leadR r = some l → l < r.length ∧ cl r l ≠ 0 ∧ ∀ c, c < l → cl r c = 0
  | x :: xs, l, h => by
    unfold leadR at h
    by_cases z : x = 0
    · rw [if_pos z] at h
      cases e : leadR xs with
      | none => rw [e] at h; cases h
      | some k =>
        rw [e] at h
        cases h
        obtain ⟨h1, h2, h3⟩ := lead_some e
        refine ⟨Nat.succ_lt_succ h1, h2, fun c hc => ?_⟩
        cases c with
        | zero => exact z
        | succ c =>
          have hc2 : c + 1 < k + 1 := hc
          exact h3 c (by omega)
    · rw [if_neg z] at h
      cases h
      exact ⟨Nat.zero_lt_succ _, z, fun c hc => absurd hc (Nat.not_lt_zero c)⟩
end Rw
set_option Elab.async false
set_option linter.all false
set_option maxRecDepth 100000
set_option maxHeartbeats 1000000
namespace Rw
open PySem PySem.Spec PyProof.Rows L2
section
variable {p : Int} {w : Nat}
theorem GS.inj {ps : List PR} (g : GS p w ps) {i j : Nat} {a b : PR} (ha : ps[i]? = some a) (hb : ps[j]? = some b) (e : a.1 = b.1) : i = j := by
  by_cases z : i = j
  · exact z
  · have h1 := g.zero i j a b z ha hb
    have h2 := g.one a (List.mem_of_getElem? ha)
    rw [e, h1] at h2
    exact absurd h2 (by decide)
theorem GS.nodup {ps : List PR} (g : GS p w ps) : (ps.map (·.1)).Nodup := by
  refine List.pairwise_iff_getElem.mpr fun i j hi hj lt e => ?_
  rw [List.length_map] at hi hj
  rw [List.getElem_map, List.getElem_map] at e
  have := g.inj (List.getElem?_eq_getElem hi) (List.getElem?_eq_getElem hj) e
  omega
/-- a basis of the space of some vectors -/
structure Bas (p : Int) (w : Nat) (rows : List (List Int)) (ps : List PR) : Prop where
  g : GS p w ps
  in1 : ∀ r, r ∈ rows → InL p w (rowsP ps) (cl r)
  in2 : ∀ q, q ∈ ps → InL p w rows (cl q.2)
/-- ascending leads -/
def Asc (ps : List PR) : Prop := ps.Pairwise fun a b => a.1 ≤ b.1
/-- a reduced basis of the space of some rows -/
structure BaseR (p : Int) (w : Nat) (rows found : List (List Int)) : Prop where
  len : ∀ r, r ∈ found → r.length = w
  red : ∃ L, Red p w found.length (fun i c => cl (found[i]?.getD []) c) L
  in1 : ∀ r, r ∈ rows → InL p w found (cl r)
  in2 : ∀ r, r ∈ found → InL p w rows (cl r)
theorem Bas.base {rows : List (List Int)} {ps : List PR} (b : Bas p w rows ps) (s : Asc ps) : BaseR p w rows (rowsP ps) := by
  have at_ : ∀ i, (hi : i < ps.length) → ((rowsP ps)[i]?.getD []) = ps[i].2 := fun i hi => by
    rw [List.getElem?_map, List.getElem?_eq_getElem hi] <;> rfl
  have lt : ∀ i, i < (rowsP ps).length → i < ps.length := fun i h => by rwa [List.length_map] at h
  refine ⟨fun r hr => ?_, ⟨fun i => (ps[i]?.getD (0, [])).1, ?_⟩, b.in1, fun r hr => ?_⟩
  · obtain ⟨q, hq, rfl⟩ := List.mem_map.mp hr
    exact b.g.len q hq
  · have le : ∀ i, (hi : i < ps.length) → (ps[i]?.getD (0, [])).1 = ps[i].1 := fun i hi => by rw [List.getElem?_eq_getElem hi] <;> rfl
    constructor
    · intro i hi
      rw [le i (lt i hi)]
      exact b.g.lt _ (List.getElem_mem _)
    · intro i j hij hj
      have hj2 := lt j hj
      rw [le i (by omega), le j hj2]
      have h1 := List.pairwise_iff_getElem.mp s i j (by omega) hj2 hij
      have h2 : ps[i].1 ≠ ps[j].1 := fun z => by
        have := b.g.inj (List.getElem?_eq_getElem (by omega)) (List.getElem?_eq_getElem hj2) z
        omega
      omega
    · intro i hi
      rw [le i (lt i hi), at_ i (lt i hi)]
      exact b.g.one _ (List.getElem_mem _)
    · intro i j hi hj ne
      rw [le j (lt j hj), at_ i (lt i hi)]
      exact b.g.zero i j _ _ ne (List.getElem?_eq_getElem (lt i hi)) (List.getElem?_eq_getElem (lt j hj))
    · intro i c hi hc
      rw [le i (lt i hi)] at hc
      rw [at_ i (lt i hi)]
      exact b.g.low _ (List.getElem_mem _) c hc
    · intro i c hi hc
      rw [at_ i (lt i hi)]
      exact b.g.rng _ (List.getElem_mem _) c hc
  · obtain ⟨q, hq, rfl⟩ := List.mem_map.mp hr
    exact b.in2 q hq
theorem at_getD {l : List (List Int)} {i : Nat} (h : i < l.length) : l[i]?.getD [] = l[i] := by rw [List.getElem?_eq_getElem h] <;> rfl
/-- one space has one reduced basis -/
theorem base_one {rows rows2 a b : List (List Int)} (hp : 1 < p) (A : BaseR p w rows a) (B : BaseR p w rows2 b) (h1 : ∀ r, r ∈ rows → InL p w rows2 (cl r)) (h2 : ∀ r, r ∈ rows2 → InL p w rows (cl r)) : a = b := by
  obtain ⟨L, R⟩ := A.red
  obtain ⟨M, T⟩ := B.red
  have k1 : ∀ j, j < b.length → InSpan p w a.length (fun i c => cl (a[i]?.getD []) c) (fun c => cl (b[j]?.getD []) c) := fun j hj => by
    have m := List.getElem_mem hj
    rw [at_getD hj]
    exact inL_span (((B.in2 _ m).trans h2).trans A.in1)
  have k2 : ∀ i, i < a.length → InSpan p w b.length (fun i c => cl (b[i]?.getD []) c) (fun c => cl (a[i]?.getD []) c) := fun i hi => by
    have m := List.getElem_mem hi
    rw [at_getD hi]
    exact inL_span (((A.in2 _ m).trans h1).trans B.in1)
  obtain ⟨n1, _, n3⟩ := red_unique R T hp k1 k2
  apply List.ext_getElem n1
  intro i hi hj
  refine cl_eq (A.len _ (List.getElem_mem hi)) (B.len _ (List.getElem_mem hj)) fun c hc => ?_
  have := n3 i c hi hc
  rw [at_getD hi, at_getD hj] at this
  exact this
/-- the leads are told by the rows -/
theorem lead_of_row {ps : List PR} (g : GS p w ps) (hp : 1 < p) {q : PR} (hq : q ∈ ps) : leadR q.2 = some q.1 := by
  cases e : leadR q.2 with
  | none =>
    have h1 := g.one q hq
    rw [lead_none e] at h1
    exact absurd h1 (by decide)
  | some l =>
    obtain ⟨a1, a2, a3⟩ := lead_some e
    have h1 := g.one q hq
    rcases (by omega : l < q.1 ∨ l = q.1 ∨ q.1 < l) with z | z | z
    · exact absurd (g.low q hq l z) a2
    · rw [z]
    · rw [a3 q.1 z] at h1
      exact absurd h1 (by decide)
theorem pairs_of {ps qs : List PR} {v w2 : Nat} (g : GS p w ps) (k : GS p v qs) (hp : 1 < p) (e : rowsP ps = rowsP qs) : ps = qs := by
  have ln : ps.length = qs.length := by
    have := congrArg List.length e
    rwa [List.length_map, List.length_map] at this
  apply List.ext_getElem ln
  intro i hi hj
  have e2 : ps[i].2 = qs[i].2 := by
    have := congrArg (·[i]?) e
    simp only [List.getElem?_map, List.getElem?_eq_getElem hi, List.getElem?_eq_getElem hj, Option.map_some] at this
    exact Option.some.inj this
  have l1 := lead_of_row g hp (List.getElem_mem hi)
  have l2 := lead_of_row k hp (List.getElem_mem hj)
  rw [e2, l2] at l1
  exact Prod.ext (Option.some.inj l1).symm e2
end
end Rw
set_option Elab.async false
set_option linter.all false
set_option maxRecDepth 100000
set_option maxHeartbeats 2000000
namespace Rw
open PySem PySem.Spec PyProof.Rows L2
def VecD (r : List Int) (d : PyData) : Prop := d = lstI r ∨ d = tupI r
inductive LikeP : List PyData → List PR → Prop
  | nil : LikeP [] []
  | cons {q : PR} {d : PyData} {ds : List PyData} {ps : List PR} : VecD q.2 d → LikeP ds ps → LikeP (.tuple [natD q.1, d] :: ds) (q :: ps)
theorem LikeP.len : ∀ {ds : List PyData} {ps : List PR}, LikeP ds ps → ds.length = ps.length
  | _, _, .nil => rfl
  | _, _, .cons _ h => congrArg (· + 1) h.len
theorem LikeP.at_ : ∀ {ds : List PyData} {ps : List PR} {i : Nat} {d : PyData}, LikeP ds ps → ds[i]? = some d → ∃ q e, ps[i]? = some q ∧ d = .tuple [natD q.1, e] ∧ VecD q.2 e
  | _, _, i, d, .nil, h => by simp at h
  | _, _, 0, d, .cons a _, h => by
    cases h
    exact ⟨_, _, rfl, rfl, a⟩
  | _, _, i + 1, d, .cons _ b, h => by
    obtain ⟨q, e, h1, h2, h3⟩ := b.at_ (i := i) (by simpa using h)
    exact ⟨q, e, by simpa using h1, h2, h3⟩
theorem row_seq {H : Hp} {v : V} {r : List Int} {d : PyData} (h : Any H v d) (e : VecD r d) : ∃ (k : Bool) (a : Addr), v = .ref a ∧ ∀ {H' : Hp}, Same H H' → ∀ K, SqB K H' k a (r.map V.int) := by
  have e1 : isSeqD d = true ∧ itemsD d = r.map .int := by
    rcases e with z | z <;> rw [z] <;> exact ⟨rfl, rfl⟩
  obtain ⟨k, a, xs, rfl, hs, al⟩ := seq_of h e1.1
  rw [e1.2] at al
  rw [anyL_ints al] at hs
  exact ⟨k, a, rfl, hs⟩
/-- the item of a list or a tuple of ints -/
theorem ix_rowg {K : PySem.W.Frag} {H : Hp} {k : Bool} {a : Addr} {r : List Int} {j : Nat} {Q : VK} (h : SqB K H k a (r.map V.int)) (hj : j < r.length) (q : Q (.int (cl r j)) H) : rIx K (.ref a) (.int ((j : Nat) : Int)) H Q := by
  have e : (r.map V.int)[j]? = some (.int (cl r j)) := by
    unfold cl
    rw [List.getElem?_map, List.getElem?_eq_getElem hj] <;> rfl
  cases k with
  | true => exact .inl ⟨a, _, _, _, rfl, rfl, h, atI_nat e, q⟩
  | false => exact .inr (.inl ⟨a, _, _, _, rfl, rfl, h, atI_nat e, q⟩)
structure SmV (v : List Int) : Prop where
  sm : ∀ x, x ∈ v → x.natAbs < 10 ^ 40
theorem int_cl {r : List Int} {j : Nat} {y : V} (h : (r.map V.int)[j]? = some y) (hj : j < r.length) : y = .int (cl r j) := by
  unfold cl
  rw [List.getElem?_map, List.getElem?_eq_getElem hj] at h
  rw [List.getElem?_eq_getElem hj]
  exact (Option.some.inj h).symm
theorem at_cl {r : List Int} {c : Nat} (h : c < r.length) : r[c]? = some (cl r c) := by
  unfold cl
  rw [List.getElem?_eq_getElem h] <;> rfl
theorem nodup_le : ∀ (w : Nat) (l : List Nat), l.Nodup → (∀ x, x ∈ l → x < w) → l.length ≤ w
  | 0, [], _, _ => Nat.le_refl _
  | 0, x :: _, _, h => absurd (h x List.mem_cons_self) (Nat.not_lt_zero x)
  | w + 1, l, nd, h => by
    by_cases hw : w ∈ l
    · have h1 := nodup_le w (l.erase w) (nd.erase w) fun x hx => by
        obtain ⟨h1, h2⟩ := (List.Nodup.mem_erase_iff nd).mp hx
        have := h x h2
        omega
      rw [List.length_erase_of_mem hw] at h1
      omega
    · have h1 := nodup_le w l nd fun x hx => by
        have h1 := h x hx
        have h2 : x ≠ w := fun z => hw (z ▸ hx)
        omega
      omega
theorem GS.le {p : Int} {w : Nat} {ps : List PR} (g : GS p w ps) : ps.length ≤ w := by
  have h := nodup_le w (ps.map (·.1)) g.nodup fun x hx => by
    obtain ⟨q, hq, rfl⟩ := List.mem_map.mp hx
    exact g.lt q hq
  rwa [List.length_map] at h
/-- many vectors, as data -/
structure LikeV (ds : List PyData) (rows : List (List Int)) : Prop where
  len : ds.length = rows.length
  at_ : ∀ (i : Nat) (d : PyData), ds[i]? = some d → ∃ r, rows[i]? = some r ∧ VecD r d
def VecsD (rows : List (List Int)) (d : PyData) : Prop := ∃ ds, (d = .list ds ∨ d = .tuple ds) ∧ LikeV ds rows
theorem vecs_seq {H : Hp} {v : V} {rows : List (List Int)} {d : PyData} (h : Any H v d) (e : VecsD rows d) : ∃ (k : Bool) (a : Addr) (xs : List V) (ds : List PyData), v = .ref a ∧ (∀ {H' : Hp}, Same H H' → ∀ K, SqB K H' k a xs) ∧ AnyL H xs ds ∧ LikeV ds rows := by
  obtain ⟨ds, z, lk⟩ := e
  have e1 : isSeqD d = true ∧ itemsD d = ds := by
    rcases z with z | z <;> rw [z] <;> exact ⟨rfl, rfl⟩
  obtain ⟨k, a, xs, rfl, hs, al⟩ := seq_of h e1.1
  rw [e1.2] at al
  exact ⟨k, a, xs, ds, rfl, hs, al, lk⟩
def pairsT (qs : List PR) : PyData := .tuple (qs.map fun q => .tuple [natD q.1, tupI q.2])
/-- where many vectors lie -/
def VecsAt (K : PySem.W.Frag) (H : Hp) (v : V) (rows : List (List Int)) : Prop := ∃ (k : Bool) (a : Addr) (xs : List V) (ds : List PyData), v = .ref a ∧ (∀ H', Same H H' → SqB K H' k a xs) ∧ AnyL H xs ds ∧ LikeV ds rows
theorem VecsAt.keep {K : PySem.W.Frag} {H H1 : Hp} {v : V} {rows : List (List Int)} (h : VecsAt K H v rows) (k : Same H H1) : VecsAt K H1 v rows := by
  obtain ⟨kk, a, xs, ds, e, h1, h2, h3⟩ := h
  exact ⟨kk, a, xs, ds, e, fun H' s => h1 H' (k.trans s), anyL_keep k h2, h3⟩
theorem vecs_at {K : PySem.W.Frag} {H : Hp} {v : V} {rows : List (List Int)} {d : PyData} (h : Any H v d) (e : VecsD rows d) : VecsAt K H v rows := by
  obtain ⟨k, a, xs, ds, e1, h1, h2, h3⟩ := vecs_seq h e
  exact ⟨k, a, xs, ds, e1, fun H' s => h1 s K, h2, h3⟩
theorem vecs_none {K : PySem.W.Frag} {H : Hp} {a : Addr} (h : ∀ H', SqT K H' a []) : VecsAt K H (.ref a) [] := ⟨false, a, [], [], rfl, fun H' _ => h H', .nil, ⟨rfl, fun i d h => by simp at h⟩⟩
end Rw
set_option Elab.async false
set_option linter.all false
set_option maxRecDepth 100000
set_option maxHeartbeats 2000000
namespace Rw
open PySem PySem.Spec PyProof.Rows L2
def SpAt (C : Addr) (H : Hp) (a : Addr) (p : Int) (w : Nat) (qs : List PR) : Prop := ∃ dx t, H a = some (.ins C dx [("_prime", .int p), ("_length", .int ((w : Nat) : Int)), ("_basis", .ref t)]) ∧ Any H (.ref t) (pairsT qs)
theorem SpAt.keep {C a : Addr} {H H' : Hp} {p : Int} {w : Nat} {qs : List PR} (h : SpAt C H a p w qs) (k : Same H H') : SpAt C H' a p w qs := by
  obtain ⟨dx, t, h1, h2⟩ := h
  exact ⟨dx, t, k _ _ h1, h2.keep k⟩
/-- what is handed in for vectors: data, or the written () -/
def VecsIn (K : PySem.W.Frag) (H : Hp) (v : V) (rows : List (List Int)) : Prop := (∃ d, Any H v d ∧ VecsD rows d) ∨ (rows = [] ∧ ∃ a o, v = .ref a ∧ K.lookup a = some o ∧ o.cls = .type "tuple" ∧ ∀ H', SqT K H' a [])
theorem VecsIn.at_ {K : PySem.W.Frag} {H : Hp} {v : V} {rows : List (List Int)} (h : VecsIn K H v rows) : VecsAt K H v rows := by
  rcases h with ⟨d, a, e⟩ | ⟨rfl, a, o, rfl, _, _, h⟩
  · exact vecs_at a e
  · exact vecs_none h
theorem VecsIn.keep {K : PySem.W.Frag} {H H1 : Hp} {v : V} {rows : List (List Int)} (h : VecsIn K H v rows) (k : Same H H1) : VecsIn K H1 v rows := by
  rcases h with ⟨d, a, e⟩ | h
  · exact .inl ⟨d, a.keep k, e⟩
  · exact .inr h
theorem VecsIn.keeps {K : PySem.W.Frag} {H H1 : Hp} {v : V} {rows : List (List Int)} (h : VecsIn K H v rows) (k : Keeps H H1) : VecsIn K H1 v rows := by
  rcases h with ⟨d, a, e⟩ | h
  · exact .inl ⟨d, a.keeps k, e⟩
  · exact .inr h
theorem VecsIn.ty {K : PySem.W.Frag} {H : Hp} {v : V} {rows : List (List Int)} (h : VecsIn K H v rows) : ∃ n, (n = "list" ∨ n = "tuple") ∧ TyX K H v (.type n) := by
  rcases h with ⟨d, a, ds, z, _⟩ | ⟨_, a, o, rfl, e, c, _⟩
  · rcases z with z | z <;> subst z
    · exact ⟨_, .inl rfl, any_ty a⟩
    · exact ⟨_, .inr rfl, any_ty a⟩
  · exact ⟨_, .inr rfl, .kTuple e c⟩
theorem vec_is {r : List Int} {d : PyData} (e : VecD r d) : isVecD ((r.length : Nat) : Int) d = true ∧ (itemsD d).length = r.length := by
  have al : (r.map PyData.int).all isIntD = true := List.all_eq_true.mpr fun x hx => by
    obtain ⟨n, _, rfl⟩ := List.mem_map.mp hx
    rfl
  rcases e with z | z <;> subst z
  · refine ⟨?_, List.length_map _⟩
    show (true && (decide (((r.map PyData.int).length : Int) = _) && (r.map PyData.int).all isIntD)) = true
    rw [al, List.length_map, decide_eq_true rfl] <;> rfl
  · refine ⟨?_, List.length_map _⟩
    show (true && (decide (((r.map PyData.int).length : Int) = _) && (r.map PyData.int).all isIntD)) = true
    rw [al, List.length_map, decide_eq_true rfl] <;> rfl
end Rw
set_option Elab.async false
set_option linter.all false
set_option maxRecDepth 100000
set_option maxHeartbeats 1000000
namespace Rw
open PySem PySem.Spec PyProof.Rows L2
def rowD (r : List Int) : PyData := .list (r.map .int)
def rowsD (rs : List (List Int)) : PyData := .list (rs.map rowD)
def spTurn : Sp := fun vs H Q _ => ∃ p x : Int, vs = [.int p, .int x] ∧ p ∈ primesL ∧ x % p ≠ 0 ∧ x.natAbs < 10 ^ 40 ∧ ∀ t H', Same H H' → 0 < t → t < p → x * t % p = 1 → Q (.int t) H'
def spLess : Sp := fun vs H Q _ => ∃ (p : Int) (va vb : V) (rs : List (List Int)) (hd : List Int) (db : PyData) (s : Nat), vs = [.int p, va, vb, .int (s : Int)] ∧ p ∈ primesL ∧ Any H va (rowsD rs) ∧ Any H vb db ∧ VecD hd db ∧ rs.length ≤ 100 ∧ hd.length ≤ 100 ∧ s < hd.length ∧ (∀ r, r ∈ rs → r.length = hd.length) ∧ (∀ r, r ∈ hd :: rs → ∀ x, x ∈ r → 0 ≤ x ∧ x < 13) ∧
  ∀ l acc H', H l = none → Same H H' → H' l = some (.lst acc) → AnyL (del H' l) acc ((rs.map (lessR p hd s)).map rowD) → Q (.ref l) H'
theorem dec_intR {a b : Int} : decide (V.int a = V.int b) = decide (a = b) := by
  by_cases h : a = b
  · rw [h, decide_eq_true rfl, decide_eq_true rfl]
  · rw [decide_eq_false h, decide_eq_false (fun z => h (V.int.inj z))]
theorem sqb_or {K : PySem.W.Frag} {H : Hp} {k : Bool} {a : Addr} {xs : List V} (h : SqB K H k a xs) : SqL K H a xs ∨ SqT K H a xs := by
  cases k with
  | true => exact .inl h
  | false => exact .inr h
theorem rowD_any {H : Hp} {v : V} {r : List Int} (h : Any H v (rowD r)) : ∃ c, v = .ref c ∧ H c = some (.lst (r.map V.int)) := by
  cases h with
  | lst e al => exact ⟨_, rfl, by rw [e, anyL_ints al]⟩
theorem any_rowD {H : Hp} {c : Addr} {r : List Int} (h : H c = some (.lst (r.map V.int))) : Any H (.ref c) (rowD r) := .lst h (ints_anyL r)
/-- rows stand clear of a list of rows that changes -/
theorem rows_put : ∀ {H : Hp} {xs : List V} {rs : List (List Int)} {l : Addr} {ac : List V} {o : HO}, AnyL H xs (rs.map rowD) → H l = some (.lst ac) → (∀ v, v ∈ ac → ∃ c, v = .ref c) → (∀ r, r ∈ rs → r ≠ []) → AnyL (upd H l o) xs (rs.map rowD)
  | _, _, [], _, _, _, h, _, _, _ => by
    cases h
    exact .nil
  | H, _, r :: rs, l, ac, o, h, e, hr, ne => by
    cases h with
    | cons a b =>
      refine .cons ?_ (rows_put b e hr fun r2 h2 => ne r2 (List.mem_cons_of_mem _ h2))
      obtain ⟨c, rfl, ec⟩ := rowD_any a
      have nc : c ≠ l := fun z => by
        subst z
        rw [e] at ec
        have e2 : ac = r.map V.int := by cases ec; rfl
        cases r with
        | nil => exact ne [] List.mem_cons_self rfl
        | cons x r =>
          obtain ⟨c2, e3⟩ := hr (.int x) (by rw [e2]; exact List.mem_cons_self)
          cases e3
      refine any_rowD ?_
      rw [upd_ne nc]
      exact ec
theorem rows_refs : ∀ {H : Hp} {xs : List V} {rs : List (List Int)}, AnyL H xs (rs.map rowD) → ∀ v, v ∈ xs → ∃ c, v = .ref c
  | _, _, [], h, v, hv => by
    cases h
    cases hv
  | _, _, r :: rs, h, v, hv => by
    cases h with
    | cons a b =>
      rcases List.mem_cons.mp hv with z | z
      · subst z
        obtain ⟨c, e, _⟩ := rowD_any a
        exact ⟨c, e⟩
      · exact rows_refs b v z
theorem anyL_erase : ∀ {H : Hp} {xs : List V} {ds : List PyData} (k : Nat), AnyL H xs ds → AnyL H (xs.eraseIdx k) (ds.eraseIdx k)
  | _, [], _, k, h => by
    cases h
    exact .nil
  | _, x :: xs, _, 0, h => by
    cases h with
    | cons a b => exact b
  | _, x :: xs, _, k + 1, h => by
    cases h with
    | cons a b => exact .cons a (anyL_erase k b)
theorem map_erase {α β : Type} (f : α → β) : ∀ (l : List α) (k : Nat), (l.map f).eraseIdx k = (l.eraseIdx k).map f
  | [], _ => rfl
  | _ :: _, 0 => rfl
  | x :: xs, k + 1 => congrArg (f x :: ·) (map_erase f xs k)
/-- the law's own base of some vectors -/
def spBaseL : Sp := fun vs H Q _ => ∃ p v d rows w, vs = [.int p, v] ∧ p ∈ primesL ∧ Any H v d ∧ VecsD rows d ∧ (∃ ds, d = .list ds) ∧ rows.length ≤ 90 ∧ w ≤ 12 ∧ (∀ r, r ∈ rows → r.length = w ∧ SmV r) ∧
  ∀ l acc found H', H l = none → Same H H' → H' l = some (.lst acc) → AnyL (del H' l) acc (found.map tupI) → BaseR p w rows found → Q (.ref l) H'
def spRankL : Sp := fun vs H Q _ => ∃ p v d rows w, vs = [.int p, v] ∧ p ∈ primesL ∧ Any H v d ∧ VecsD rows d ∧ (∃ ds, d = .list ds) ∧ rows.length ≤ 90 ∧ w ≤ 12 ∧ (∀ r, r ∈ rows → r.length = w ∧ SmV r) ∧
  ∀ found H', Same H H' → BaseR p w rows found → Q (.int ((found.length : Nat) : Int)) H'
end Rw
set_option Elab.async false
set_option linter.all false
set_option maxRecDepth 100000
set_option maxHeartbeats 1000000
namespace Rw
open PySem PySem.Spec PyProof.Rows L2
theorem eqv_nilL (ds : List PyData) : PyData.eqv (.list ds) (.list []) = decide (ds = []) := by
  cases ds with
  | nil => rw [PyData.eqv, PyData.eqvAll]; rfl
  | cons d ds => rw [PyData.eqv, PyData.eqvAll]; rfl
theorem rowD_ok (r : List Int) : (rowD r).canLay0 = true ∧ (rowD r).depth ≤ 10 := by
  constructor
  · refine lay_list fun d hd => ?_
    obtain ⟨n, _, rfl⟩ := List.mem_map.mp hd
    rfl
  · have h3 : PyData.depthAll (r.map PyData.int) ≤ 3 := dep_le fun x hx => by
      obtain ⟨n, _, rfl⟩ := List.mem_map.mp hx
      exact dep_int _
    unfold rowD
    simp only [PyData.depth]
    omega
theorem rowsD_ok (rs : List (List Int)) : (rowsD rs).canLay0 = true ∧ (rowsD rs).depth ≤ 64 := by
  constructor
  · refine lay_list fun d hd => ?_
    obtain ⟨r, _, rfl⟩ := List.mem_map.mp hd
    exact (rowD_ok r).1
  · have h3 : PyData.depthAll (rs.map rowD) ≤ 20 := dep_le fun x hx => by
      obtain ⟨r, _, rfl⟩ := List.mem_map.mp hx
      have := (rowD_ok r).2
      omega
    unfold rowsD
    simp only [PyData.depth]
    omega
theorem base_of_elim {p : Int} {w w' : Nat} {rows left found : List (List Int)} (e : Elim p w' rows w' left found) (h : (rows = [] ∧ w' = 0) ∨ w' = w) : BaseR p w rows found := by
  obtain ⟨⟨L, R⟩, s1, s2⟩ := e.done
  rcases h with ⟨h, h2⟩ | h
  · subst h2
    subst h
    have : found = [] := by
      cases found with
      | nil => rfl
      | cons r rs => exact absurd (R.lt 0 (by simp)) (Nat.not_lt_zero _)
    subst this
    exact ⟨fun _ z => (nomatch z), ⟨fun _ => 0, ⟨fun i hi => absurd hi (Nat.not_lt_zero _), fun i j _ hj => absurd hj (Nat.not_lt_zero _), fun i hi => absurd hi (Nat.not_lt_zero _), fun i j hi => absurd hi (Nat.not_lt_zero _), fun i c hi => absurd hi (Nat.not_lt_zero _), fun i c hi => absurd hi (Nat.not_lt_zero _)⟩⟩, fun _ z => (nomatch z), fun _ z => (nomatch z)⟩
  · subst h
    exact ⟨fun r hr => e.len r (List.mem_append_right _ hr), ⟨L, R⟩, s1, s2⟩
theorem same_put {H H' : Hp} {l : Addr} {o : HO} (k : Same H H') (h : H l = none) : Same H (upd H' l o) := fun b x e => by
  rw [upd_ne (ne_of_none e h)]
  exact k b x e
theorem unit_rng {p t : Int} {r : List Int} (hp : 0 < p) : ∀ x, x ∈ unitR p t r → 0 ≤ x ∧ x < p := fun x hx => by
  obtain ⟨k, _, rfl⟩ := List.mem_map.mp hx
  exact ⟨Int.emod_nonneg _ (by omega), Int.emod_lt_of_pos _ hp⟩
end Rw
set_option Elab.async false
set_option linter.all false
set_option maxRecDepth 100000
set_option maxHeartbeats 1000000
namespace Rw
open PySem PySem.Spec PyProof.Rows L2
variable {p : Int} {w n : Nat}
theorem Bas.self {ps : List PR} (g : GS p w ps) : Bas p w (rowsP ps) ps := ⟨g, fun r hr => .row hr, fun q hq => .row (List.mem_map.mpr ⟨q, hq, rfl⟩)⟩
end Rw
set_option Elab.async false
set_option linter.all false
set_option maxRecDepth 100000
set_option maxHeartbeats 1000000
namespace Rw
open PySem PySem.Spec PyProof.Rows L2
end Rw
set_option Elab.async false
set_option linter.all false
set_option maxRecDepth 100000
set_option maxHeartbeats 1000000
namespace Rw
open PySem PySem.Spec PyProof.Rows L2
variable {p : Int} {w h : Nat}
/-- the sum of the rows, each as often as told -/
def ledF (m : List (List Int)) (y : Nat → Int) : Nat → Int := fun c => S m.length fun i => y i * cl (m[i]?.getD []) c
end Rw
set_option Elab.async false
set_option linter.all false
set_option maxRecDepth 100000
set_option maxHeartbeats 1000000
namespace Rw
open PySem PySem.Spec PyProof.Rows L2
end Rw
set_option Elab.async false
set_option linter.all false
set_option maxRecDepth 100000
set_option maxHeartbeats 1000000
namespace Rw
open PySem PySem.Spec PyProof.Rows L2
end Rw
set_option Elab.async false
set_option linter.all false
set_option maxRecDepth 100000
set_option maxHeartbeats 2000000
namespace Rw
open PySem PySem.Spec PyProof.Rows L2
def EnSt (e it a S : Addr) (i : Nat) (h : Heap) : Prop := h.IsListIter it a i ∧ ((i = 0 ∧ ∃ old, IsEnum h e it 0 old) ∨ ∃ old T f oT, IsEnumHeld h e it i old T f ∧ h.get? T = some oT ∧ T ≠ e ∧ T ≠ it ∧ T ≠ S)
theorem EnSt.at_ {e it a S : Addr} {i : Nat} {h : Heap} (x : EnSt e it a S i h) : ∃ o, h.get? e = some o ∧ o.cls = .type "enumerate" := by
  obtain ⟨_, ⟨_, old, y⟩ | ⟨old, T, f, oT, y, _⟩⟩ := x
  · exact ⟨_, y, rfl⟩
  · exact ⟨_, y, rfl⟩
end Rw
set_option Elab.async false
set_option linter.all false
set_option maxRecDepth 100000
set_option maxHeartbeats 4000000
namespace Rw
open PySem PySem.Spec PyProof.Rows L2
open Sem (wp)
theorem sqB_at {h h' : Heap} {k : Bool} {a : Addr} {xs : Array Value} (t : sqB h k a xs) (e : ∀ o, h.get? a = some o → h'.get? a = some o) : sqB h' k a xs := by
  cases k with
  | true => exact Heap.IsList.at t e
  | false => exact Heap.IsTuple.at t e
/-- iterators at b, b + 1 .. over the lists or tuples a, each at its place -/
def ItsAt (b m : Nat) (a : Nat → Nat) (k : Nat → Bool) (xs : Nat → Array Value) (i : Nat → Nat) (h : Heap) : Prop := ∀ j, j < m → itB h (k j) (b + j) (a j) (i j) ∧ sqB h (k j) (a j) (xs j)
def refsN (b m : Nat) : Array Value := ((List.range m).map fun j => Value.ref (b + j)).toArray
section
variable {prog : Program} {w : World} {A : Around} {E : Value → Shared → Prop} {s : Shared} {b m n i : Nat} {a : Nat → Nat} {k : Nat → Bool} {xs : Nat → Array Value}
theorem ItsAt.over {p : Nat → Nat} {h h' : Heap} (t : ItsAt b m a k xs p h) (q : ∀ j, j < m → ∀ o, h.get? (b + j) = some o → h'.get? (b + j) = some o) (q2 : ∀ j, j < m → ∀ o, h.get? (a j) = some o → h'.get? (a j) = some o) : ItsAt b m a k xs p h' :=
  fun j hj => ⟨itB_at (t j hj).1 (q j hj), sqB_at (t j hj).2 (q2 j hj)⟩
theorem ItsAt.same {p : Nat → Nat} {h h' : Heap} {c : Addr} (t : ItsAt b m a k xs p h) (q : Heap.SameBut c h h') (h1 : ∀ j, j < m → b + j ≠ c) (h2 : ∀ j, j < m → a j ≠ c) : ItsAt b m a k xs p h' :=
  t.over (fun j hj o e => q.extBut _ _ (h1 j hj) e) fun j hj o e => q.extBut _ _ (h2 j hj) e
end
end Rw
set_option Elab.async false
set_option linter.all false
set_option maxRecDepth 100000
set_option maxHeartbeats 4000000
namespace Rw
open PySem PySem.Spec PyProof.Rows L2
open Sem (wp)
def ZnSt (b m S : Nat) (a : Nat → Nat) (k : Nat → Bool) (i : Nat) (h : Heap) : Prop :=
  (∀ j, j < m → itB h (k j) (b + j) (a j) i) ∧ h.get? (b + m) = some { cls := .type "tuple", data := .seq (refsN b m) } ∧
    ((i = 0 ∧ IsZip h (b + m + 2) (b + m) (b + m + 1) .none ∧ ∃ os : Array Value, os.size = m ∧ h.get? (b + m + 1) = some { cls := .type "tuple", data := .seq os }) ∨
      0 < m ∧ (∃ o, h.get? (b + m + 1) = some o) ∧ ∃ T f oT, IsZipHeld h (b + m + 2) (b + m) (b + m + 1) T f ∧ h.get? T = some oT ∧ b + m + 2 < T ∧ T ≠ S)
theorem ZnSt.at_ {b m S : Nat} {a : Nat → Nat} {k : Nat → Bool} {i : Nat} {h : Heap} (x : ZnSt b m S a k i h) : ∃ o, h.get? (b + m + 2) = some o ∧ o.cls = .type "zip" := by
  obtain ⟨_, _, ⟨_, y, _⟩ | ⟨_, _, T, f, oT, y, _⟩⟩ := x
  · exact ⟨_, y, rfl⟩
  · exact ⟨_, y, rfl⟩
end Rw
set_option Elab.async false
set_option linter.all false
set_option maxRecDepth 100000
set_option maxHeartbeats 4000000
namespace Rw
open PySem PySem.Spec PyProof.Rows L2
open Sem (wp)
end Rw
set_option Elab.async false
set_option linter.all false
set_option maxRecDepth 100000
set_option maxHeartbeats 4000000
namespace Rw
open PySem PySem.Spec PyProof.Rows L2
open Sem (wp)
end Rw
set_option Elab.async false
set_option linter.all false
set_option maxRecDepth 100000
set_option maxHeartbeats 2000000
namespace Rw
open PySem PySem.Spec PyProof.Rows L2
structure Mid (B : Nat) (v : List Int) : Prop where
  sm : ∀ x, x ∈ v → x.natAbs < B
theorem Mid.cl {B : Nat} {v : List Int} (h : Mid B v) (hB : 0 < B) (c : Nat) : (cl v c).natAbs < B := by
  by_cases z : c < v.length
  · refine h.sm _ ?_
    unfold Rw.cl
    rw [List.getElem?_eq_getElem z]
    exact List.getElem_mem z
  · rw [cl_ge (by omega)]
    exact hB
inductive LikeS (H : Hp) : List (Key × V) → List PR → Prop
  | nil : LikeS H [] []
  | cons {q : PR} {t : Addr} {ks : List (Key × V)} {T : List PR} : H t = some (.tup (q.2.map V.int)) → LikeS H ks T → LikeS H ((.inl ((q.1 : Nat) : Int), .ref t) :: ks) (q :: T)
theorem LikeS.keep {H H' : Hp} (k : Same H H') : ∀ {ks : List (Key × V)} {T : List PR}, LikeS H ks T → LikeS H' ks T
  | _, _, .nil => .nil
  | _, _, .cons h r => .cons (k _ _ h) (r.keep k)
theorem LikeS.len {H : Hp} : ∀ {ks : List (Key × V)} {T : List PR}, LikeS H ks T → ks.length = T.length
  | _, _, .nil => rfl
  | _, _, .cons _ r => congrArg (· + 1) r.len
theorem LikeS.has {H : Hp} {i : Nat} : ∀ {ks : List (Key × V)} {T : List PR}, LikeS H ks T → (∀ q, T.find? (fun q => q.1 = i) = some q → ∃ t, valV ks (.inl ((i : Nat) : Int)) = some (.ref t) ∧ H t = some (.tup (q.2.map V.int))) ∧ (T.find? (fun q => q.1 = i) = none → valV ks (.inl ((i : Nat) : Int)) = none)
  | _, _, .nil => ⟨fun q e => by simp at e, fun _ => rfl⟩
  | _, _, .cons (q := q) (t := t) (ks := ks) (T := T) h r => by
    obtain ⟨i1, i2⟩ := r.has (i := i)
    unfold valV at i1 i2 ⊢
    by_cases z : q.1 = i
    · have e1 : (fun kv : Key × V => decide (kv.1 = .inl ((i : Nat) : Int))) ((.inl ((q.1 : Nat) : Int), .ref t) : Key × V) = true := decide_eq_true (by rw [z])
      rw [List.find?_cons_of_pos (by simpa using z), List.find?_cons_of_pos (p := fun kv : Key × V => decide (kv.1 = .inl ((i : Nat) : Int))) e1]
      exact ⟨fun q' e => by cases e; exact ⟨t, rfl, h⟩, fun e => by cases e⟩
    · have e1 : ¬ (fun kv : Key × V => decide (kv.1 = .inl ((i : Nat) : Int))) ((.inl ((q.1 : Nat) : Int), .ref t) : Key × V) = true := fun y => z (by
        have := Sum.inl.inj (of_decide_eq_true y)
        exact Int.ofNat.inj this)
      rw [List.find?_cons_of_neg (by simpa using z), List.find?_cons_of_neg (p := fun kv : Key × V => decide (kv.1 = .inl ((i : Nat) : Int))) e1]
      exact ⟨i1, i2⟩
/-- a dict of settled factors -/
def SetAt (H : Hp) (d : Addr) (T : List PR) : Prop := ∃ ks, H d = some (.dK ks) ∧ LikeS H ks T
theorem SetAt.keep {H H' : Hp} {d : Addr} {T : List PR} (h : SetAt H d T) (k : Same H H') : SetAt H' d T := by
  obtain ⟨ks, e, l⟩ := h
  exact ⟨ks, k _ _ e, l.keep k⟩
end Rw
set_option Elab.async false
set_option linter.all false
set_option maxRecDepth 100000
set_option maxHeartbeats 1000000
namespace Rw
open PySem PySem.Spec PyProof.Rows L2
theorem likeV_tups (rows : List (List Int)) : LikeV (rows.map tupI) rows := ⟨List.length_map _, fun i d h => by
  rw [List.getElem?_map] at h
  cases e : rows[i]? with
  | none => rw [e] at h; cases h
  | some r => rw [e] at h; cases h; exact ⟨r, rfl, .inr rfl⟩⟩
theorem tq_row {r : List Int} {d : PyData} (h : VecD r d) (l : r.length ≤ 12) (s : SmV r) : Tq 1 d := by
  have c : ∀ d ∈ r.map PyData.int, Tq 0 d := fun d hd => by
    obtain ⟨x, hx, rfl⟩ := List.mem_map.mp hd
    exact tq_int (s.sm x hx)
  rcases h with z | z
  · rw [z]
    exact tq_list (by rw [List.length_map]; exact l) c
  · rw [z]
    exact tq_tup (by rw [List.length_map]; exact l) c
end Rw
set_option Elab.async false
set_option linter.all false
set_option maxRecDepth 100000
set_option maxHeartbeats 2000000
namespace Rw
open PySem PySem.Spec PyProof.Rows L2
end Rw
set_option Elab.async false
set_option linter.all false
set_option maxRecDepth 100000
set_option maxHeartbeats 2000000
namespace Rw
open PySem PySem.Spec PyProof.Rows L2
theorem putK_new {H : Hp} {i : Nat} {v : V} : ∀ {ks : List (Key × V)} {T : List PR}, LikeS H ks T → (∀ q, q ∈ T → q.1 ≠ i) → putK ks (.inl ((i : Nat) : Int)) v = ks ++ [(.inl ((i : Nat) : Int), v)] := by
  intro ks T l h
  unfold putK
  rw [if_neg ?_]
  intro z
  have key : ∀ {ks : List (Key × V)} {T : List PR}, LikeS H ks T → (∀ q, q ∈ T → q.1 ≠ i) → (ks.any fun kv => decide (kv.1 = .inl ((i : Nat) : Int))) = false := by
    intro ks T l
    induction l with
    | nil => intro _; rfl
    | @cons q t ks T e r ih =>
      intro h
      rw [List.any_cons, ih fun x hx => h x (List.mem_cons_of_mem _ hx), Bool.or_false]
      refine decide_eq_false fun y => h q List.mem_cons_self ?_
      exact Int.ofNat.inj (Sum.inl.inj y)
  rw [key l h] at z
  cases z
theorem LikeS.put {H : Hp} {D : Addr} {kvs : List (Key × V)} {o : HO} (e : H D = some (.dK kvs)) : ∀ {ks : List (Key × V)} {T : List PR}, LikeS H ks T → LikeS (upd H D o) ks T
  | _, _, .nil => .nil
  | _, _, .cons h r => .cons (by
      rw [upd_ne fun z => by
        rw [z, e] at h
        cases h]
      exact h) (r.put e)
end Rw
set_option Elab.async false
set_option linter.all false
set_option maxRecDepth 100000
set_option maxHeartbeats 2000000
namespace Rw
open PySem PySem.Spec PyProof.Rows L2
theorem mix_len {p : Int} {dv dm : PyData} {w : Nat} : (mixL p dv dm w).length = w := by
  unfold mixL
  rw [List.length_map, List.length_range]
theorem vec_tupI (r : List Int) : isVecD ((r.length : Nat) : Int) (tupI r) = true := by
  have h : (r.map PyData.int).all isIntD = true := by
    rw [List.all_eq_true]
    intro x hx
    obtain ⟨n, _, rfl⟩ := List.mem_map.mp hx
    rfl
  unfold isVecD
  show (true && decide ((((r.map PyData.int).length : Nat) : Int) = ((r.length : Nat) : Int)) && (r.map PyData.int).all isIntD) = true
  rw [h, List.length_map, decide_eq_true rfl] <;> rfl
theorem fit1_tupI {p : Int} {w : Nat} {r : List Int} (hp : p ∈ primesL) (l : r.length = w) (hw : w ≤ 100) (h : ∀ c, c < w → 0 ≤ cl r c ∧ cl r c < p) : Fit1 (tupI r) := by
  refine ⟨by show (r.map PyData.int).length ≤ 1000; rw [List.length_map]; omega, fun n hn => ?_⟩
  obtain ⟨m, hm, e⟩ := List.mem_map.mp (show PyData.int n ∈ r.map PyData.int from hn)
  obtain rfl : m = n := PyData.int.inj e
  obtain ⟨c, hc⟩ := List.getElem?_of_mem hm
  have hl := (List.getElem?_eq_some_iff.mp hc).1
  have := h c (by omega)
  unfold cl at this
  rw [hc] at this
  have pp := prime_pos hp
  have h2 : m.natAbs < 16 := by
    have h3 : 0 ≤ m ∧ m < p := this
    omega
  exact Nat.lt_of_lt_of_le (Nat.lt_of_le_of_lt (Nat.log2_le_self m.natAbs) h2) (by decide)
end Rw
set_option Elab.async false
set_option linter.all false
set_option maxRecDepth 100000
set_option maxHeartbeats 2000000
namespace Rw
open PySem PySem.Spec PyProof.Rows L2
end Rw
set_option Elab.async false
set_option linter.all false
set_option maxRecDepth 100000
set_option maxHeartbeats 1000000
namespace Rw
open PySem PySem.Spec PyProof.Rows L2
end Rw
set_option Elab.async false
set_option linter.all false
set_option maxRecDepth 100000
set_option maxHeartbeats 2000000
namespace Rw
open PySem PySem.Spec PyProof.Rows L2
end Rw
set_option Elab.async false
set_option linter.all false
set_option maxRecDepth 100000
set_option maxHeartbeats 2000000
namespace Rw
open PySem PySem.Spec PyProof.Rows L2
end Rw
set_option Elab.async false
set_option linter.all false
set_option maxRecDepth 100000
set_option maxHeartbeats 2000000
namespace Rw
open PySem PySem.Spec PyProof.Rows L2
end Rw
set_option Elab.async false
set_option linter.all false
set_option maxRecDepth 100000
set_option maxHeartbeats 2000000
namespace Rw
open PySem PySem.Spec PyProof.Rows L2
/-- a classmethod of a class -/
def CMethHere (K : PySem.W.Frag) (C : Addr) (x q : Str) (st : Stmt) : Prop := ∃ p g : Addr, ClX.CMet K C (.type "type") x p g ∧ DefAt K x q st g
section
variable {K : PySem.W.Frag}
theorem CMethHere.of {C : Addr} {x q : Str} {st : Stmt} {p g : Addr} {rest : List Value} {oc : Value} {od : Option Addr} {kV dc pm : Value} {an : Option Addr} {cd ct : Value} {sl : Array (Option Value)} (a : PySem.W.findCls K (.ref C) (.type "type") x = some (.get (.builtin "classmethod.__get__") (.ref p) .none (.ref C)))
    (re : PySem.W.recIn K p "classmethod" = some (.ref g :: rest)) (fi : PySem.W.fnIn K g = true)
    (l : K.lookup g = some ⟨oc, od, .func (PySem.W.fnOf x q (defArgs st) (defBody st) (defScope st) .none kV dc pm an cd ct), sl⟩) (c : PySem.W.codeIn K cd q = true) (k : PySem.W.keepIn K (.ref g) = true) : CMethHere K C x q st :=
  ⟨p, g, ⟨a, ⟨rest, re⟩, fi⟩, oc, od, kV, dc, pm, an, cd, ct, sl, l, c, k⟩
theorem CMethHere.mt {C : Addr} {x q : Str} {st : Stmt} {ps : List Str} (D : CMethHere K C x q st)
    (b : ∀ (kV doc pm : Value) (an : Option Addr) (cdv ct : Value) (us : List Value), us.length = ps.length → bindArgs (PySem.W.fnOf x q (defArgs st) (defBody st) (defScope st) .none kV doc pm an cdv ct) ⟨us, []⟩ = pure (ps.zip us)) :
    ∃ (p g : Addr) (fd : FuncData), ClX.CMet K C (.type "type") x p g ∧ Fun K x q st g fd ∧ Binds K fd ps [] := by
  obtain ⟨p, g, hp, oc, od, kV, dc, pm, an, cd, ct, sl, l, c, k⟩ := D
  have F := fun_mk (x := x) (qual := q) (st := st) l c k
  exact ⟨p, g, _, hp, F, F.binds b⟩
end
end Rw
set_option Elab.async false
set_option linter.all false
set_option maxRecDepth 100000
set_option maxHeartbeats 2000000
namespace Rw
open PySem PySem.Spec PyProof.Rows L2
section
variable {p : Int} {w : Nat}
theorem bas_one {rows rows2 : List (List Int)} {qs rs : List PR} (hp : 1 < p) (B : Bas p w rows qs) (s : Asc qs) (C : Bas p w rows2 rs) (t : Asc rs) (h1 : ∀ r, r ∈ rows → InL p w rows2 (cl r)) (h2 : ∀ r, r ∈ rows2 → InL p w rows (cl r)) : qs = rs :=
  pairs_of (w2 := 0) B.g C.g hp (base_one hp (B.base s) (C.base t) h1 h2)
end
end Rw
set_option Elab.async false
set_option linter.all false
set_option maxRecDepth 100000
set_option maxHeartbeats 4000000
namespace Rw
open PySem PySem.Spec PyProof.Rows L2
def flatB (d : PyData) : Bool := decide ((itemsD d).length ≤ 100) && (itemsD d).all fun e => !isSeqD e
end Rw
set_option Elab.async false
set_option linter.all false
set_option maxRecDepth 100000
set_option maxHeartbeats 4000000
namespace Rw
open PySem PySem.Spec PyProof.Rows L2
/-- small enough: nested k deep, b signs -/
structure Ts (k b : Nat) (d : PyData) : Prop where
  sh : d.showable = true
  dp : d.depth ≤ k
  ln : d.shown.length ≤ b
theorem Ts.up {k b k2 b2 : Nat} {d : PyData} (h : Ts k b d) (l : k ≤ k2) (l2 : b ≤ b2) : Ts k2 b2 d := ⟨h.sh, Nat.le_trans h.dp l, Nat.le_trans h.ln l2⟩
theorem Tq.ts {d : PyData} (h : Tq 0 d) : Ts 3 80 d := ⟨h.sh, h.dp, Nat.le_trans h.ln (by decide)⟩
end Rw
set_option Elab.async false
set_option linter.all false
set_option maxRecDepth 100000
set_option maxHeartbeats 4000000
namespace Rw
open PySem PySem.Spec PyProof.Rows L2
theorem vec_isD {r : List Int} {d : PyData} (h : VecD r d) : isVecD ((r.length : Nat) : Int) d = true ∧ itemsD d = r.map .int := by
  have z := vec_tupI r
  rcases h with e | e
  · subst e
    exact ⟨z, rfl⟩
  · subst e
    exact ⟨z, rfl⟩
/-- a matrix of great numbers, its rows lists or tuples -/
structure Mat (ds : List PyData) (m : List (List Int)) (k w : Nat) : Prop where
  like : LikeV ds m
  big : BigM k w m
theorem Mat.of {m : List (List Int)} {k w : Nat} (b : BigM k w m) : Mat (m.map tupI) m k w := ⟨likeV_tups m, b⟩
section
variable {ds : List PyData} {m : List (List Int)} {k w : Nat} {d : PyData}
theorem Mat.row (h : Mat ds m k w) {e : PyData} (he : e ∈ ds) : ∃ r, r ∈ m ∧ VecD r e ∧ r.length = w ∧ ∀ x, x ∈ r → Big x := by
  obtain ⟨i, hi⟩ := List.getElem?_of_mem he
  obtain ⟨r, h1, h2⟩ := h.like.at_ i e hi
  have mr := List.mem_of_getElem? h1
  exact ⟨r, mr, h2, (h.big.w r mr).1, (h.big.w r mr).2⟩
theorem Mat.is (h : Mat ds m k w) (hd : itemsD d = ds) (hs : isSeqD d = true) : isMatD ((k : Nat) : Int) ((w : Nat) : Int) d = true := by
  unfold isMatD
  rw [hd, hs, Bool.true_and, Bool.and_eq_true, decide_eq_true_iff, List.all_eq_true]
  refine ⟨by rw [h.like.len, h.big.h], fun e he => ?_⟩
  obtain ⟨r, _, h2, h3, _⟩ := h.row he
  rw [← h3]
  exact (vec_isD h2).1
end
end Rw
set_option Elab.async false
set_option linter.all false
set_option maxRecDepth 100000
set_option maxHeartbeats 8000000
namespace Rw
open PySem PySem.Spec PyProof.Rows L2
/-- the items of a matrix -/
def matI (d : PyData) : List (List Int) := (itemsD d).map fun e => (itemsD e).map intD
def isLowD (n : Int) (d : PyData) : Bool := isMatD (itemsD d).length n d && decide ((itemsD d).length ≤ 12)
theorem prods_rng {dv dm : PyData} (h : (itemsD dv).length = (itemsD dm).length) (c : Nat) : prodsL dv dm c = (List.range (itemsD dm).length).map (fun k => Rw.intD ((itemsD dv)[k]?.getD .none) * cellD ((itemsD dm)[k]?.getD .none) c) := by
  unfold prodsL
  apply List.ext_getElem
  · simp [h]
  · intro i h1 h2
    simp at h1 h2
    have i1 : i < (itemsD dv).length := by omega
    have i2 : i < (itemsD dm).length := by omega
    simp [i1, i2]
section
variable {p : Int} {w h : Nat}
theorem intD_at (r : List Int) (k : Nat) : Rw.intD ((r.map PyData.int)[k]?.getD .none) = cl r k := by
  unfold cl
  rw [List.getElem?_map]
  cases r[k]? with
  | none => rfl
  | some x => rfl
theorem cell_at (e : PyData) (c : Nat) : cellD e c = cl ((itemsD e).map Rw.intD) c := by
  unfold cellD cl
  rw [List.getElem?_map]
  cases (itemsD e)[c]? with
  | none => rfl
  | some x => rfl
theorem mix_led {r : List Int} {dm : PyData} {c : Nat} (hp : p ∈ primesL) (l : r.length = (itemsD dm).length) (hc : c < w) : cl (mixL p (tupI r) dm w) c = ledF (matI dm) (cl r) c % p := by
  have pp := prime_pos hp
  have e1 : cl (mixL p (tupI r) dm w) c = (prodsL (tupI r) dm c).sum.fmod p := by
    unfold mixL
    show ((List.map _ (List.range w))[c]?).getD 0 = _
    rw [List.getElem?_map, List.getElem?_range hc] <;> rfl
  rw [e1, fmod_pos (by omega), prods_rng (by show (r.map PyData.int).length = _; rw [List.length_map, l]), S_sum]
  have lm : (matI dm).length = (itemsD dm).length := by unfold matI; rw [List.length_map]
  unfold ledF
  rw [lm]
  refine congrArg (· % p) (S_congr fun k hk => ?_)
  have e2 : (matI dm)[k]?.getD [] = (itemsD ((itemsD dm)[k]?.getD .none)).map Rw.intD := by
    unfold matI
    rw [List.getElem?_map, List.getElem?_eq_getElem hk] <;> rfl
  rw [e2, cell_at]
  show Rw.intD ((r.map PyData.int)[k]?.getD .none) * _ = _
  rw [intD_at]
end
end Rw
set_option Elab.async false
set_option linter.all false
set_option maxRecDepth 100000
set_option maxHeartbeats 2000000
namespace Rw
open PySem PySem.Spec PyProof.Rows L2
end Rw
set_option Elab.async false
set_option linter.all false
set_option maxRecDepth 100000
set_option maxHeartbeats 2000000
namespace Rw
open PySem PySem.Spec PyProof.Rows L2
variable {p : Int} {w : Nat} {us vs ts zs : List PR}
/-- the sum -/
structure SumS (p : Int) (w : Nat) (us vs ts : List PR) : Prop where
  b : Bas p w (rowsP us ++ rowsP vs) ts
  s : Asc ts
/-- a sum of a greater space with one within it -/
theorem SumS.big (hp : p ∈ primesL) (m : SumS p w us vs ts) (g : GS p w us) (s : Asc us) (h : ∀ v, InL p w (rowsP vs) v → InL p w (rowsP us) v) : ts = us :=
  bas_one (by have := prime_pos hp; omega) m.b m.s (Bas.self g) s (fun r hr => (List.mem_append.mp hr).elim (fun z => .row z) fun z => h _ (.row z)) fun r hr => .row (List.mem_append_left _ hr)
def unitV (w i : Nat) : List Int := (List.range w).map fun j => if j = i then 1 else 0
theorem unit_cl {w i c : Nat} (hc : c < w) : cl (unitV w i) c = if c = i then 1 else 0 := by
  unfold cl unitV
  rw [List.getElem?_map, List.getElem?_eq_getElem (by rw [List.length_range]; exact hc), List.getElem_range] <;> rfl
theorem unit_len {w i : Nat} : (unitV w i).length = w := by
  unfold unitV
  rw [List.length_map, List.length_range]
end Rw
set_option Elab.async false
set_option linter.all false
set_option maxRecDepth 100000
set_option maxHeartbeats 1000000
namespace Rw
open PySem PySem.Spec PyProof.Rows L2
/-- a sum of rows, where they are as many as places: only so many count -/
theorem led_congr {p : Int} {m : List (List Int)} {u v : Nat → Int} {c : Nat} (h : ∀ i, i < m.length → u i % p = v i % p) : ledF m u c % p = ledF m v c % p := by
  unfold ledF
  have : ∀ n, n ≤ m.length → S n (fun i => u i * cl (m[i]?.getD []) c) % p = S n (fun i => v i * cl (m[i]?.getD []) c) % p := fun n => by
    induction n with
    | zero => intro _; rfl
    | succ n ih =>
      intro hn
      show (S n _ + u n * _) % p = (S n _ + v n * _) % p
      rw [Int.add_emod, ih (by omega), Int.mul_emod, h n (by omega), ← Int.mul_emod, ← Int.add_emod]
  exact this _ (Nat.le_refl _)
def sA (ss : List Nat) (i : Nat) : Nat := ss[i]?.getD 0
def mA (ms : List (List (List Int))) (i : Nat) : List (List Int) := ms[i]?.getD []
/-- u at the first place and w at place i are the ends of a chain -/
def Ch (p : Int) (x : Str) (ss : List Nat) (ms : List (List (List Int))) : Nat → (Nat → Int) → (Nat → Int) → Prop
  | 0, u, w => ∀ c, c < sA ss 0 → u c % p = w c % p
  | i + 1, u, w => if isR x i = true then ∃ w0, Ch p x ss ms i u w0 ∧ ∀ c, c < sA ss (i + 1) → w c % p = ledF (mA ms i) w0 c % p else Ch p x ss ms i u (ledF (mA ms i) w)
theorem ch_succ {p : Int} {x : Str} {ss : List Nat} {ms : List (List (List Int))} {i : Nat} {u w : Nat → Int} : Ch p x ss ms (i + 1) u w = if isR x i = true then ∃ w0, Ch p x ss ms i u w0 ∧ ∀ c, c < sA ss (i + 1) → w c % p = ledF (mA ms i) w0 c % p else Ch p x ss ms i u (ledF (mA ms i) w) := rfl
theorem Ch.congr {p : Int} {x : Str} {ss : List Nat} {ms : List (List (List Int))} (hm : ∀ i, i < x.length → isR x i = false → (mA ms i).length = sA ss (i + 1)) : ∀ {i : Nat} {u w u' w' : Nat → Int}, i ≤ x.length → Ch p x ss ms i u w → (∀ c, c < sA ss 0 → u' c % p = u c % p) → (∀ c, c < sA ss i → w' c % p = w c % p) → Ch p x ss ms i u' w'
  | 0, u, w, u', w', _, h, hu, hw => fun c hc => by rw [hu c hc, hw c hc]; exact h c hc
  | i + 1, u, w, u', w', hi, h, hu, hw => by
    rw [ch_succ] at h ⊢
    by_cases e : isR x i = true
    · rw [if_pos e] at h ⊢
      obtain ⟨w0, h1, h2⟩ := h
      exact ⟨w0, h1.congr hm (by omega) hu fun _ _ => rfl, fun c hc => by rw [hw c hc]; exact h2 c hc⟩
    · rw [if_neg e] at h ⊢
      have e2 : isR x i = false := by simpa using e
      exact h.congr hm (by omega) hu fun c hc => led_congr fun k hk => hw k (by rw [← hm i (by omega) e2]; exact hk)
end Rw
set_option Elab.async false
set_option linter.all false
set_option maxRecDepth 100000
set_option maxHeartbeats 1000000
namespace Rw
open PySem PySem.Spec PyProof.Rows L2
theorem hel_nodup {ts : List (Nat × Nat)} {k : Nat} : (helB ts k).Nodup := (List.nodup_range).filter _
def barN (ts : List (Nat × Nat)) (j : Nat) : Nat × Nat := ts[j]?.getD (1, 0)
theorem hel_mem {ts : List (Nat × Nat)} {k j : Nat} : j ∈ helB ts k ↔ (barN ts j).1 ≤ k ∧ k ≤ (barN ts j).2 := by
  unfold helB helN
  rw [List.mem_filter, List.mem_range]
  have e : covAt ts k j = true ↔ (barN ts j).1 ≤ k ∧ k ≤ (barN ts j).2 := by
    show (decide _ && decide _) = true ↔ _
    rw [Bool.and_eq_true, decide_eq_true_iff, decide_eq_true_iff] <;> rfl
  rw [e]
  refine ⟨fun h => h.2, fun h => ⟨Nat.lt_of_not_le fun y => ?_, h⟩⟩
  unfold barN at h
  rw [List.getElem?_eq_none y] at h
  have h1 : 1 ≤ k := h.1
  have h2 : k ≤ 0 := h.2
  omega
end Rw
set_option Elab.async false
set_option linter.all false
set_option maxRecDepth 100000
set_option maxHeartbeats 1000000
namespace Rw
open PySem PySem.Spec PyProof.Rows L2
end Rw
set_option Elab.async false
set_option linter.all false
set_option maxRecDepth 100000
set_option maxHeartbeats 1000000
namespace Rw
open PySem PySem.Spec PyProof.Rows L2
end Rw
set_option Elab.async false
set_option linter.all false
set_option maxRecDepth 100000
set_option maxHeartbeats 1000000
namespace Rw
open PySem PySem.Spec PyProof.Rows L2
end Rw
set_option Elab.async false
set_option linter.all false
set_option maxRecDepth 100000
set_option maxHeartbeats 1000000
namespace Rw
open PySem PySem.Spec PyProof.Rows L2
end Rw
set_option Elab.async false
set_option linter.all false
set_option maxRecDepth 100000
set_option maxHeartbeats 1000000
namespace Rw
open PySem PySem.Spec PyProof.Rows L2
end Rw
set_option Elab.async false
set_option linter.all false
set_option maxRecDepth 100000
set_option maxHeartbeats 2000000
namespace Rw
open PySem PySem.Spec PyProof.Rows L2
def keyV (r : List Int) : List L2.Key := r.map Sum.inl
def setT (M : List (List Int)) : List (List L2.Key × V) := M.map fun r => (keyV r, .bl true)
def VSetAt (H : Hp) (d : Addr) (M : List (List Int)) : Prop := ∃ o, H d = some (.frz o (.dT (setT M)))
theorem VSetAt.keep {H H' : Hp} {d : Addr} {M : List (List Int)} (h : VSetAt H d M) (k : Same H H') : VSetAt H' d M := by
  obtain ⟨o, e⟩ := h
  exact ⟨o, k _ _ e⟩
end Rw
set_option Elab.async false
set_option linter.all false
set_option maxRecDepth 100000
set_option maxHeartbeats 2000000
namespace Rw
open PySem PySem.Spec PyProof.Rows L2
end Rw
set_option Elab.async false
set_option linter.all false
set_option maxRecDepth 100000
set_option maxHeartbeats 2000000
namespace Rw
open PySem PySem.Spec PyProof.Rows L2
def InR (p : Int) (r : List Int) : Prop := ∀ x, x ∈ r → 0 ≤ x ∧ x < p
def modV (p : Int) (n : Nat) (f : Nat → Int) : List Int := (List.range n).map fun c => f c % p
theorem modV_len {p : Int} {n : Nat} {f : Nat → Int} : (modV p n f).length = n := by
  unfold modV
  rw [List.length_map, List.length_range]
theorem cl_at {r : List Int} {c : Nat} (h : c < r.length) : r[c] = cl r c := by
  unfold cl
  rw [List.getElem?_eq_getElem h] <;> rfl
theorem inR_cl {p : Int} {r : List Int} (h : InR p r) {c : Nat} (hc : c < r.length) : 0 ≤ cl r c ∧ cl r c < p := by
  rw [← cl_at hc]
  exact h _ (List.getElem_mem hc)
end Rw
set_option Elab.async false
set_option linter.all false
set_option maxRecDepth 100000
set_option maxHeartbeats 4000000
namespace Rw
open PySem PySem.Spec PyProof.Rows L2
end Rw
set_option Elab.async false
set_option linter.all false
set_option maxRecDepth 100000
set_option maxHeartbeats 2000000
namespace Rw
open PySem PySem.Spec PyProof.Rows L2
theorem fit_rows {rows : List (List Int)} (h : ∀ r, r ∈ rows → Fit1 (tupI r)) (l : rows.length ≤ 1000) : Fit (.list (rows.map tupI)) :=
  ⟨⟨by show (rows.map tupI).length ≤ 1000; rw [List.length_map]; exact l, fun n hn => by
    obtain ⟨r, _, e⟩ := List.mem_map.mp (show PyData.int n ∈ rows.map tupI from hn)
    exact nomatch (show PyData.tuple _ = PyData.int n from e)⟩, fun x hx => by
    obtain ⟨r, hr, rfl⟩ := List.mem_map.mp hx
    exact h r hr⟩
theorem mat_rows {rows : List (List Int)} {w : Nat} (h : ∀ r, r ∈ rows → r.length = w) : isMatD (((itemsD (.list (rows.map tupI))).length : Nat) : Int) ((w : Nat) : Int) (.list (rows.map tupI)) = true := by
  show isMatD (((rows.map tupI).length : Nat) : Int) _ _ = true
  rw [List.length_map]
  exact isMat_f rfl h tupI fun _ => .inl rfl
end Rw
namespace Rw
open PySem PySem.Spec PyProof.Rows L2
end Rw
set_option Elab.async false
set_option linter.all false
set_option maxRecDepth 100000
set_option maxHeartbeats 2000000
namespace Rw
open PySem PySem.Spec PyProof.Rows L2
end Rw
set_option Elab.async false
set_option linter.all false
set_option maxRecDepth 100000
set_option maxHeartbeats 2000000
namespace Rw
open PySem PySem.Spec PyProof.Rows L2
variable {p : Int} {n : Nat} {A : List (List Int)} {fs zs : List PR}
structure Sq (n : Nat) (A : List (List Int)) : Prop where
  h : A.length = n
  w : ∀ r, r ∈ A → r.length = n
theorem Sq.at_ (q : Sq n A) {k : Nat} (hk : k < n) : ∃ r, A[k]? = some r ∧ r.length = n := by
  have h : k < A.length := by rw [q.h]; exact hk
  exact ⟨A[k], List.getElem?_eq_getElem h, q.w _ (List.getElem_mem h)⟩
end Rw
set_option Elab.async false
set_option linter.all false
namespace Rw
open PySem PySem.Spec PyProof.Rows L2
end Rw
set_option Elab.async false
set_option linter.all false
set_option maxRecDepth 100000
set_option maxHeartbeats 4000000
namespace Rw
open PySem PySem.Spec PyProof.Rows L2
end Rw
set_option Elab.async false
set_option linter.all false
set_option maxRecDepth 100000
set_option maxHeartbeats 4000000
namespace Rw
open PySem PySem.Spec PyProof.Rows L2
structure MatS (ds : List PyData) (m : List (List Int)) (k w : Nat) : Prop where
  like : LikeV ds m
  h : m.length = k
  w : ∀ r, r ∈ m → r.length = w ∧ SmV r
section
variable {ds : List PyData} {m : List (List Int)} {k w : Nat} {d : PyData}
theorem MatS.row (h : MatS ds m k w) {e : PyData} (he : e ∈ ds) : ∃ r, r ∈ m ∧ VecD r e ∧ r.length = w ∧ SmV r := by
  obtain ⟨i, hi⟩ := List.getElem?_of_mem he
  obtain ⟨r, h1, h2⟩ := h.like.at_ i e hi
  have mr := List.mem_of_getElem? h1
  exact ⟨r, mr, h2, (h.w r mr).1, (h.w r mr).2⟩
theorem MatS.is (h : MatS ds m k w) (hd : itemsD d = ds) (hs : isSeqD d = true) : isMatD ((k : Nat) : Int) ((w : Nat) : Int) d = true := by
  unfold isMatD
  rw [hd, hs, Bool.true_and, Bool.and_eq_true, decide_eq_true_iff, List.all_eq_true]
  refine ⟨by rw [h.like.len, h.h], fun e he => ?_⟩
  obtain ⟨r, _, h2, h3, _⟩ := h.row he
  rw [← h3]
  exact (vec_isD h2).1
theorem MatS.mat (h : MatS ds m k w) (hd : itemsD d = ds) : matI d = m := by
  unfold matI
  rw [hd]
  apply List.ext_getElem?
  intro i
  rw [List.getElem?_map]
  cases e : ds[i]? with
  | none =>
    have l := h.like.len
    rw [List.getElem?_eq_none_iff] at e
    rw [List.getElem?_eq_none (by omega)] <;> rfl
  | some x =>
    obtain ⟨r, h1, h2⟩ := h.like.at_ i x e
    rw [h1]
    show some ((itemsD x).map Rw.intD) = some r
    rw [(vec_isD h2).2, List.map_map]
    refine congrArg some ?_
    rw [show (Rw.intD ∘ PyData.int) = id from rfl, List.map_id]
theorem MatS.low (h : MatS ds m k w) (hd : itemsD d = ds) (hs : isSeqD d = true) (hk : k ≤ 12) : isLowD ((w : Nat) : Int) d = true := by
  unfold isLowD
  have l : (itemsD d).length = k := by rw [hd, h.like.len, h.h]
  rw [l, h.is hd hs, decide_eq_true hk] <;> rfl
end
theorem likeV_lstsK (m : List (List Int)) : LikeV (m.map lstI) m := ⟨List.length_map _, fun i d h => by
  rw [List.getElem?_map] at h
  cases e : m[i]? with
  | none => rw [e] at h; cases h
  | some r => rw [e] at h; exact ⟨r, rfl, .inl (Option.some.inj h).symm⟩⟩
structure FacOk (p : Int) (W : Nat) (m : List (List Int)) (r f : List Int) : Prop where
  len : f.length = m.length
  rng : ∀ x, x ∈ f → 0 ≤ x ∧ x < p
  led : ∀ c, c < W → ledF m (cl f) c % p = cl r c % p
def FoundP (p : Int) (W : Nat) (m : List (List Int)) (r : List Int) (v : V) (H : Hp) : Prop := (¬ InL p W m (cl r) ∧ v = .non) ∨ (InL p W m (cl r) ∧ ∃ l f, v = .ref l ∧ H l = some (.lst (f.map V.int)) ∧ FacOk p W m r f)
theorem FoundP.keep {p : Int} {W : Nat} {m : List (List Int)} {r : List Int} {v : V} {H H' : Hp} (h : FoundP p W m r v H) (k : Same H H') : FoundP p W m r v H' := by
  rcases h with h | ⟨h, l, f, e, el, ok⟩
  · exact .inl h
  · exact .inr ⟨h, l, f, e, k _ _ el, ok⟩
end Rw
set_option Elab.async false
set_option linter.all false
set_option maxRecDepth 100000
set_option maxHeartbeats 2000000
namespace Rw
open PySem PySem.Spec PyProof.Rows L2
end Rw
set_option Elab.async false
set_option linter.all false
set_option maxRecDepth 100000
set_option maxHeartbeats 2000000
namespace Rw
open PySem PySem.Spec PyProof.Rows L2
section
variable {p : Int} {w : Nat} {dm dv e : PyData} {r : List Int}
theorem mix_row (hp : p ∈ primesL) (v : VecD r e) (l : r.length = (itemsD dm).length) : mixL p e dm w = (List.range w).map fun c => ledF (matI dm) (cl r) c % p := by
  have e1 : mixL p e dm w = mixL p (tupI r) dm w := by
    unfold mixL prodsL
    rw [(vec_isD v).2] <;> rfl
  rw [e1]
  refine cl_eq (w := w) mix_len (by rw [List.length_map, List.length_range]) fun c hc => ?_
  rw [mix_led hp l hc]
  show _ = ((List.map _ (List.range w))[c]?).getD 0
  rw [List.getElem?_map, List.getElem?_range hc] <;> rfl
end
end Rw
set_option Elab.async false
set_option linter.all false
set_option maxRecDepth 100000
set_option maxHeartbeats 1000000
namespace Rw
open PySem PySem.Spec PyProof.Rows L2
end Rw
set_option Elab.async false
set_option linter.all false
set_option maxRecDepth 100000
set_option maxHeartbeats 1000000
namespace Rw
open PySem PySem.Spec PyProof.Rows L2
section
variable {p : Int} {f W h : Nat} {M : List (List Int)}
theorem matI_list (m : List (List Int)) : matI (.list (m.map tupI)) = m := by
  unfold matI
  show List.map _ (m.map tupI) = _
  rw [List.map_map]
  conv => rhs; rw [← List.map_id m]
  refine List.map_congr_left fun r _ => ?_
  show (r.map PyData.int).map Rw.intD = r
  rw [List.map_map]
  conv => rhs; rw [← List.map_id r]
  exact List.map_congr_left fun x _ => rfl
end
end Rw
set_option Elab.async false
set_option linter.all false
set_option maxRecDepth 100000
set_option maxHeartbeats 4000000
namespace Rw
open PySem PySem.Spec PyProof.Rows L2
theorem vecD_tupI (r : List Int) : VecD r (tupI r) := .inr rfl
/-- what the law's leading asks -/
theorem led_facts {q : Nat} (hp : (q : Int) ∈ primesL) {r : List Int} {m : List (List Int)} {W : Nat} (l : r.length = m.length) (hr : InR (q : Int) r) (hm : ∀ t, t ∈ m → t.length = W ∧ InR (q : Int) t) (w1 : W ≤ 100) (m1 : m.length ≤ 100) :
    (q : Int) ≠ 0 ∧ Fit1 (tupI r) ∧ Fit (.list (m.map tupI)) ∧ isVecD (((itemsD (.list (m.map tupI))).length : Nat) : Int) (tupI r) = true ∧ isMatD (((itemsD (.list (m.map tupI))).length : Nat) : Int) ((W : Nat) : Int) (.list (m.map tupI)) = true ∧ mixL (q : Int) (tupI r) (.list (m.map tupI)) W = modV (q : Int) W (ledF m (cl r)) := by
  have pp := prime_pos hp
  have f1 : ∀ x : List Int, x.length ≤ 100 → InR (q : Int) x → Fit1 (tupI x) := fun x lx hx => fit1_tupI (p := (q : Int)) hp rfl lx fun c hc => inR_cl hx hc
  have e : mixL (q : Int) (tupI r) (.list (m.map tupI)) W = modV (q : Int) W (ledF m (cl r)) := by
    rw [mix_row hp (vecD_tupI r) (by show r.length = (m.map tupI).length; rw [List.length_map]; exact l), matI_list]
    rfl
  refine ⟨by omega, f1 r (by omega) hr, fit_rows (fun x hx => f1 x (by rw [(hm x hx).1]; exact w1) (hm x hx).2) (by omega), ?_, mat_rows fun x hx => (hm x hx).1, e⟩
  show isVecD ((((m.map tupI).length : Nat) : Int)) (tupI r) = true
  rw [List.length_map, ← l]
  exact vec_tupI r
end Rw
namespace K41
open PySem PySem.Spec PyProof.Rows L2 Rw
abbrev sLedL : Stmt := top 59
abbrev NLedL : List Str := ["_law_p", "_law_row", "_law_matrix", "_law_wide", "_law_spot", "_law_k"]
theorem scLedL : FnScope NLedL ["_law_p", "_law_row", "_law_matrix", "_law_wide"] (defScope sLedL) := ⟨rfl, rfl, rfl, by decide +kernel, rfl, by decide +kernel, by decide +kernel⟩
section
variable {P : Program} {w : World} {K : PySem.W.Frag} {mg : Str → Option Value} {base : Heap} {aI aT CP CT CZ CA CM CL : Addr} {kI : List (Int × Value)} {kT : List (Str × Value)}
abbrev tLCell (K : PySem.W.Frag) : TE := tOp (rI CMulW fun i j => .int (i * j)) (tOp (rIx K) (tVar 1) (tVar 5)) (tOp (rIx K) (tOp (rIx K) (tVar 2) (tVar 5)) (tVar 4))
abbrev tLen (K : PySem.W.Frag) (i : Nat) : TE := tCB (fun xs H Q => ∃ p ys, xs = [.ref p] ∧ (SqL K H p ys ∨ SqT K H p ys) ∧ Q (.int ys.length) H) (tCons (tVar i) tNil)
abbrev tLCol (K : PySem.W.Frag) : TE := tOp (rI (fun _ j => j ≠ 0) fun i j => .int (i.fmod j)) (tCB (fun xs H Q => (∃ i, xs = [.int i] ∧ Q (.int i) H) ∨ ∃ k, xs = [.bl k] ∧ Q (.int (if k then 1 else 0)) H) (tCons (tCB (rSum K) (tCons (tLc (iRng1 (tCons (tLen K 1) tNil)) (gName 5) tYes (tLCell K) [5]) tNil)) tNil)) (tVar 0)
theorem okLedL {f : Addr} {fd : FuncData} (F : Fun K "_law_led" "_law_led" sLedL f fd) (T : Txt K w mg aI aT CP CT CZ CA CM CL kI kT) (zs : mg "sum" = none) : FnOk P w K mg base CX0 1 f fd ["_law_p", "_law_row", "_law_matrix", "_law_wide"] spMixed := by
  refine F.ok scLedL (fun vs H Q E h => ?_) (fun cdv A outer s H vs Q E hr h => ?_)
  · obtain ⟨p, va, vm, dv, dm, W, rfl, _⟩ := h
    rfl
  · obtain ⟨p, va, vm, dv, dm, W, rfl, p0, av, am, fv, fm, ev, em, hW, q⟩ := h
    refine ⟨_, (pss_one (ps_ret (pe_callTy call_tuple_of (by rfl) T.tuple (by decide +kernel) (pa_cons (pe_lc (own := [("_law_spot", 4)]) (g := gName 4) (tt := tYes) (te := tLCol K) rfl scLedL.nd (pi_range1 rfl T.range (pa_cons (pv 3) pa_nil)) (blkOk_by (N := NLedL) (sc := defScope sLedL) (by decide +kernel)) (fun _ _ _ _ _ => (pg_name (i := 4) scLedL.nd rfl (Or.inr rfl))) (fun _ _ _ _ _ => pts_nil)
      (fun _ _ _ _ _ => (pe_op op_modN (pe_callTy call_int1 (by rfl) T.int (by decide +kernel) (pa_cons (pe_callB (cr_sum rfl) (by rfl) zs (by decide +kernel) (pa_cons (pe_lc (own := [("_law_k", 5)]) (g := gName 5) (tt := tYes) (te := tLCell K) rfl scLedL.nd (pi_range1 (by rfl) T.range (pa_cons (pe_callB call_len_seq (by rfl) T.len (by decide +kernel) (pa_cons (pv 1) pa_nil)) pa_nil)) (blkOk_by (N := NLedL) (by rfl)) (fun _ _ _ _ _ => (pg_name (i := 5) scLedL.nd rfl (Or.inl rfl))) (fun _ _ _ _ _ => pts_nil)
        (fun _ _ _ _ _ => (pe_op op_mulW (pe_ix ix_seq (pv 1) (pv 5) (fun _ _ => rfl)) (pe_ix ix_seq (pe_ix ix_seq (pv 2) (pv 5) (fun _ _ => rfl)) (pv 4) (fun _ _ => rfl))))) pa_nil)) pa_nil)) (pv 0)))) pa_nil)))), ?_⟩
    obtain ⟨v1, v2, v3⟩ := vec_parts ev
    obtain ⟨m1, m2, m3⟩ := mat_parts em
    obtain ⟨k1, a, xs, rfl, hs1, al1⟩ := seq_of av v1
    obtain ⟨k2, b, ys, rfl, hs2, al2⟩ := seq_of am m1
    obtain ⟨fs, efs⟩ := vec_ints v3
    have l1 := anyL_len al1
    have l2 := anyL_len al2
    have l3 : (itemsD dv).length = (itemsD dm).length := Int.ofNat.inj v2
    have sz := fm.top.len
    have al1' := al1
    rw [efs] at al1'
    have exs := anyL_ints al1'
    refine ⟨_, rfl, (W : Int), rfl, by omega, by omega, fun D hD => ?_⟩
    refine lc_same (n := W) walk_rng hW hD (fun _ _ => trivial) (fun i => .int ((prodsL dv dm i).sum.fmod p)) ?_ ?_
    · rintro c x H' hc rfl s1 hd
      refine ⟨rfl, fun k' hk => ?_⟩
      have lxy : xs.length = ys.length := by omega
      refine ⟨_, rfl, a, xs, rfl, (hs1 s1 K).or, (xs.length : Int), rfl, by omega, by omega, fun D2 hD2 => ?_⟩
      refine lc_same (n := xs.length) walk_rng (by omega) hD2 (fun _ _ => trivial) (fun k => .int (Rw.intD ((itemsD dv)[k]?.getD .none) * cellD ((itemsD dm)[k]?.getD .none) c)) ?_ ?_
      · rintro k x H3 hi rfl s3 _
        refine ⟨rfl, fun k'' hk2 => ?_⟩
        have s13 := s1.trans s3
        have hk1 : k < fs.length := by
          have : (itemsD dv).length = fs.length := by rw [efs, List.length_map]
          omega
        have xk : xs[k]? = some (.int fs[k]) := by
          rw [exs, List.getElem?_map, List.getElem?_eq_getElem hk1] <;> rfl
        have vk : (itemsD dv)[k]? = some (.int fs[k]) := by
          rw [efs, List.getElem?_map, List.getElem?_eq_getElem hk1] <;> rfl
        obtain ⟨e, he, ae⟩ := anyL_at al2 (List.getElem?_eq_getElem (show k < ys.length by omega))
        have hem := List.mem_of_getElem? he
        obtain ⟨r1, r2, r3⟩ := vec_parts (m3 e hem)
        obtain ⟨k3, a3, zs, er, hs3, al3⟩ := seq_of ae r1
        obtain ⟨ms, ems⟩ := vec_ints r3
        rw [ems] at al3 r2
        have ezs := anyL_ints al3
        rw [List.length_map] at r2
        have r4 : ms.length = W := Int.ofNat.inj r2
        have hc2 : c < ms.length := by omega
        have ms1 : zs[c]? = some (.int ms[c]) := by
          rw [ezs, List.getElem?_map, List.getElem?_eq_getElem hc2] <;> rfl
        have cell : cellD e c = ms[c] := by
          unfold cellD
          rw [ems, List.getElem?_map, List.getElem?_eq_getElem hc2] <;> rfl
        have sn : (fs[k]).natAbs.log2 < 400 := fv.sm _ (by
          rw [efs]
          exact List.mem_map.mpr ⟨_, List.getElem_mem hk1, rfl⟩)
        have sm : (ms[c]).natAbs.log2 < 400 := (fm.sub e hem).sm _ (by
          rw [ems]
          exact List.mem_map.mpr ⟨_, List.getElem_mem hc2, rfl⟩)
        have ixB : ∀ {kk : Bool} {q : Addr} {us : List V} {j : Nat} {u : V} {k4 : VK}, SqB K H3 kk q us → us[j]? = some u → k4 u H3 → rIx K (.ref q) (.int (j : Int)) H3 k4 := fun {kk q us j u k4} hsq hu hk4 => by
          cases kk with
          | true => exact .inl ⟨q, us, (j : Int), _, rfl, rfl, hsq, atI_nat hu, hk4⟩
          | false => exact .inr (.inl ⟨q, us, (j : Int), _, rfl, rfl, hsq, atI_nat hu, hk4⟩)
        refine ⟨_, rfl, _, rfl, ixB (hs1 s13 K) xk ?_⟩
        refine ⟨_, rfl, _, rfl, ixB (hs2 s13 K) (List.getElem?_eq_getElem (show k < ys.length by omega)) ?_⟩
        rw [er]
        refine ⟨_, rfl, ixB (hs3 s13 K) ms1 ⟨_, _, rfl, rfl, mulW_ok sn sm, hk2 _ _ (fun _ _ z => z) ?_⟩⟩
        rw [vk, he]
        show Any _ _ (.int (fs[k] * cellD e c))
        rw [cell]
        exact .int _
      · intro H2 acc s2 ha hal
        have e2 : acc = (prodsL dv dm c).map V.int := anyL_ints (H := del H2 D2) (by
          rw [prods_rng l3, List.map_map]
          rw [lxy, l2] at hal
          exact hal)
        refine ⟨D2, prodsL dv dm c, rfl, SqL.of (by rw [ha, e2]), .inl ⟨_, rfl, _, rfl, _, p, rfl, rfl, p0, hk _ _ s2 (.int _)⟩⟩
    · intro H' acc s1 ha hal
      have e2 : acc = (mixL p dv dm W).map V.int := anyL_ints (H := del H' D) (by
        unfold mixL
        rw [List.map_map]
        exact hal)
      refine ⟨D, acc, rfl, .inl ⟨SqL.of ha, fun l hl => q l _ (s1.free hl) (s1.trans (same_new hl)) ?_⟩⟩
      rw [e2]
      exact upd_same
end
end K41
set_option Elab.async false
set_option linter.all false
set_option maxRecDepth 100000
set_option maxHeartbeats 4000000
namespace Rw
open PySem PySem.Spec PyProof.Rows L2
structure ErrF (K : PySem.W.Frag) (mg : Str → Option Value) (x fl : Str) (C : Addr) : Prop where
  g : mg x = some (.ref C)
  ox : OexC K C
  xf : XfC K C
  no : PySem.W.findIn K (.ref C) fl = some none
  ini : ∃ (f : Addr) (q : Str) (st : Stmt) (fd : FuncData), PySem.W.findIn K (.ref C) "__init__" = some (some (.ref f)) ∧ PySem.W.typeIn K (.ref f) = some (.type "function") ∧ Fun K "__init__" q st f fd ∧ Binds K fd ["self", fl] [] ∧
    FnScope ["self", fl] ["self", fl] (defScope st) ∧
    (∀ X : Cx, X.N = (["self", fl] : List Str) → X.env.scope = defScope st → ∃ t : TS, PSs X (defBody st) t ∧ (∀ D σ H, tOst X.K fl (tVar 0) (tVar 1) D σ H → t D σ H))
/-- an error of the class at C with the value v in its field is let out, all else as it was -/
def ThrownF (fl : Str) (C : Addr) (v : V) (H : Hp) (E : XK) : Prop := ∀ (d : Addr) (H' : Hp), Same H H' → H d = none → H' d = some (.xd [(fl, v)]) → E (.ref C) (some d) H'
theorem ThrownF.mono {fl : Str} {C : Addr} {v : V} {H H1 : Hp} {E : XK} (h : ThrownF fl C v H E) (k : Same H H1) : ThrownF fl C v H1 E := fun d H' s hd hx => h d H' (k.trans s) (k.free hd) hx
def spIniX (K : PySem.W.Frag) (fl : Str) (C : Addr) : Sp := fun vs H Q _ => ∃ (a : Addr) (v : V), vs = [.ref a, v] ∧ H a = some (exo a C none) ∧ ∀ dx, H dx = none → dx ≠ a → Q .non (upd (upd H dx (exd dx [(fl, v)])) a (exo a C (some dx)))
section
variable {P : Program} {w : World} {K : PySem.W.Frag} {mg : Str → Option Value} {base : Heap} {fl : Str}
theorem ErrF.init {x : Str} {C : Addr} (T : ErrF K mg x fl C) : ∃ (f : Addr) (fd : FuncData), PySem.W.findIn K (.ref C) "__init__" = some (some (.ref f)) ∧ PySem.W.typeIn K (.ref f) = some (.type "function") ∧ Binds K fd ["self", fl] [] ∧
    FnOk P w K mg base CX0 1 f fd ["self", fl] (spIniX K fl C) := by
  obtain ⟨f, q, st, fd, h1, h2, F, b, S, dv⟩ := T.ini
  refine ⟨f, fd, h1, h2, b, F.ok S (fun vs H Q E h => ?_) (fun cdv A outer s H vs Q E hr h => ?_)⟩
  · obtain ⟨a, v, e, _⟩ := h
    rw [e]
    rfl
  · obtain ⟨a, v, e, ea, k⟩ := h
    subst e
    obtain ⟨t, d, go⟩ := dv (cxOf CX0 P w K mg base ["self", fl] q (defScope st) f cdv A outer s H E).nox rfl rfl
    refine ⟨t, d, go _ _ _ ?_⟩
    exact ⟨v, rfl, .ref a, rfl, a, C, rfl, T.ox, T.no, Or.inl ⟨ea, k⟩⟩
end
section
variable {X : Cx} {x fl : Str} {C : Addr} {e : Expr} {te : TE} {p pos pos2 : Pos} {W : WX}
/-- raise x(e) -/
def tThrowF (K : PySem.W.Frag) (fl : Str) (C : Addr) (W : WX) (te : TE) : TS := fun _ σ H => tMkO C (spIniX K fl C) [] (tCons te tNil) σ H fun cls d H' => W cls d σ H'
theorem ps_throwF (T : ErrF X.K X.mg x fl C) (hc : X.calm = true) (hr : Room 2 X.A) (tk : Takes X W) (he : PE X e te) (hg : Gl X x := by rfl) (hdb : (x == ("__debug__" : Str)) = false := by decide)
    (hs : starEach (e :: []) X.env = (false, eval e X.env) :: starEach [] X.env := by rfl) (hpl : (backTo pos (starEach [] X.env)).any (·.1) = false := by rfl) :
    PS X (.Raise (some (.Call (.Name x p) [e] [] pos)) none pos2) (tThrowF X.K fl C W te) := by
  obtain ⟨f, fd, h1, h2, b, F⟩ := T.init (P := X.prog) (w := X.w) (base := X.base)
  exact ps_raise (pos := pos2) hc tk (pmk_oex (x := x) (p := p) (pos := pos) (dvs := []) (ds := []) T.ox h1 h2 F hr b .nil pass0 hg T.g (pa_cons he pa_nil hs) hdb hs hpl)
theorem thrownF_go {K : PySem.W.Frag} {H : Hp} {E : XK} {v : V} (h : ThrownF fl C v H E) : [v].length ≤ 1000 ∧ ∀ a, H a = none → spIniX K fl C (.ref a :: ([v] ++ [])) (upd H a (exo a C none))
    (fun u H2 => u = .non ∧ ∃ (d : Addr) (fs : List (Str × V)), H2 a = some (exo a C (some d)) ∧ H2 d = some (exd d fs) ∧ H d = none ∧ E (.ref C) (some d) (upd (del H2 a) d (.xd fs))) (fun _ _ _ => False) := by
  refine ⟨by show 1 ≤ 1000; decide, fun a ha => ⟨a, v, rfl, upd_same, fun dx hd ne => ⟨rfl, dx, _, upd_same, by rw [upd_ne ne, upd_same], ?_, ?_⟩⟩⟩
  · rw [upd_ne ne] at hd
    exact hd
  · rw [upd_ne ne] at hd
    refine h dx _ (fun b o e => ?_) hd upd_same
    rw [upd_ne (ne_of_none e hd), del_ne (ne_of_none e ha), upd_ne (ne_of_none e ha), upd_ne (ne_of_none e hd), upd_ne (ne_of_none e ha)]
    exact e
end
def IsIniF (fl : Str) (st : Stmt) : Prop := ∃ p1 p2 p3 p4 : Pos, defBody st = [.Assign [.Attribute (.Name "self" p1) fl p2] (.Name fl p3) p4] ∧ (defScope st).names.lookup ("self" : Str) = some NameKind.local ∧ (defScope st).names.lookup fl = some NameKind.local
theorem ini_walkF {fl : Str} {st : Stmt} (I : IsIniF fl st) (hdb : (fl == ("__debug__" : Str)) = false) (hcd : (fl == ("__classdict__" : Str)) = false) (X : Cx) (hN : X.N = (["self", fl] : List Str)) (hS : X.env.scope = defScope st) : ∃ t : TS, PSs X (defBody st) t ∧ (∀ D σ H, tOst X.K fl (tVar 0) (tVar 1) D σ H → t D σ H) := by
  obtain ⟨p1, p2, p3, p4, e, l1, l2⟩ := I
  rw [e]
  refine ⟨_, pss_one (ps_ost (pe_var (i := 0) (by rw [hN]; rfl) (.inl (by rw [hS]; exact l1))) (pe_var (i := 1) (by rw [hN]; rfl) (.inl (by rw [hS]; exact l2)) (hd := hdb) (hcd := hcd))), fun D σ H z => z⟩
def ErrFHere (K : PySem.W.Frag) (x q fl : Str) (st : Stmt) (R C : Addr) : Prop :=
  ∃ (f N : Addr) (nm qn : Str) (bs : List Value) (sn : List Str) (sub : List Value) (ab : Bool) (col : Option Bool) (dd : Option Addr) (m0 m1 m2 m3 m5 : Option Value), PySem.W.nsIn K mainGlobals x = some (some (.ref C)) ∧
    K.lookup C = some (excClassObj nm qn C N bs [.ref R, .type "ValueError", .type "Exception", .type "BaseException", .type "object"] true sn sub ab col dd m0 m1 m2 m3 m5 "ValueError.__new__") ∧
    PySem.W.findIn K (.ref C) "__setattr__" = some (some (.builtin "object.__setattr__")) ∧ PySem.W.findIn K (.ref C) "__getattribute__" = some (some (.builtin "BaseException.__getattribute__")) ∧ PySem.W.findIn K (.ref C) "__getattr__" = some none ∧
    PySem.W.findIn K (.ref C) fl = some none ∧ PySem.W.findIn K (.ref C) "__init__" = some (some (.ref f)) ∧ PySem.W.typeIn K (.ref f) = some (.type "function") ∧ DefAt K "__init__" q st f ∧
    PySem.W.keepIn K (.ref C) = true ∧ PySem.W.subIn K (.ref C) (.type "BaseException") = some true ∧ PySem.W.typeIn K (.ref C) = some (.type "type") ∧ PySem.W.hasDictIn K C = true
section
variable {K : PySem.W.Frag} {mg : Str → Option Value} {h : Heap}
theorem ErrFHere.err {x q fl : Str} {st : Stmt} {R C : Addr} (E : ErrFHere K x q fl st R C) (X : K.In h) (G : h.Ns mainGlobals mg) (S : FnScope ["self", fl] ["self", fl] (defScope st)) (I : IsIniF fl st) (hdb : (fl == ("__debug__" : Str)) = false) (hcd : (fl == ("__classdict__" : Str)) = false)
    (b : ∀ (kV doc pm : Value) (an : Option Addr) (cdv ct : Value) (us : List Value), us.length = 2 → bindArgs (PySem.W.fnOf "__init__" q (defArgs st) (defBody st) (defScope st) .none kV doc pm an cdv ct) ⟨us, []⟩ = pure ((["self", fl] : List Str).zip us)) : ErrF K mg x fl C := by
  obtain ⟨f, N, nm, qn, bs, sn, sub, ab, col, dd, m0, m1, m2, m3, m5, g, l, sa, ga, gg, no, ini, ty, ⟨oc, od, kV, dc, pm, an, cd, ct, sl, lf, cf, kf⟩, kc, ex, tc, hd⟩ := E
  have F := fun_mk (x := "__init__") (qual := q) (st := st) lf cf kf
  exact {
    g := PySem.W.mg_of X G g
    ox := ⟨⟨nm, qn, N, bs, _, sn, sub, ab, col, dd, m0, m1, m2, m3, m5, l, rfl⟩, sa, ex, tc, kc⟩
    xf := ⟨ga, gg, ex, hd⟩
    no := no
    ini := ⟨f, q, st, _, ini, ty, F, F.binds b, S, ini_walkF I hdb hcd⟩ }
theorem ErrFHere.of {x q fl : Str} {st : Stmt} {R C f N : Addr} {nm qn : Str} {bs : List Value} {sn : List Str} {sub : List Value} {ab : Bool} {col : Option Bool} {dd : Option Addr} {m0 m1 m2 m3 m5 : Option Value}
    {oc : Value} {od : Option Addr} {kV dc pm : Value} {an : Option Addr} {cd ct : Value} {sl : Array (Option Value)} (g : PySem.W.nsIn K mainGlobals x = some (some (.ref C)))
    (xl : K.lookup C = some (excClassObj nm qn C N bs [.ref R, .type "ValueError", .type "Exception", .type "BaseException", .type "object"] true sn sub ab col dd m0 m1 m2 m3 m5 "ValueError.__new__"))
    (sa : PySem.W.findIn K (.ref C) "__setattr__" = some (some (.builtin "object.__setattr__"))) (ga : PySem.W.findIn K (.ref C) "__getattribute__" = some (some (.builtin "BaseException.__getattribute__"))) (gg : PySem.W.findIn K (.ref C) "__getattr__" = some none)
    (no : PySem.W.findIn K (.ref C) fl = some none) (ini : PySem.W.findIn K (.ref C) "__init__" = some (some (.ref f))) (ty : PySem.W.typeIn K (.ref f) = some (.type "function"))
    (l : K.lookup f = some ⟨oc, od, .func (PySem.W.fnOf "__init__" q (defArgs st) (defBody st) (defScope st) .none kV dc pm an cd ct), sl⟩) (c : PySem.W.codeIn K cd q = true) (k : PySem.W.keepIn K (.ref f) = true)
    (kc : PySem.W.keepIn K (.ref C) = true) (ex : PySem.W.subIn K (.ref C) (.type "BaseException") = some true) (tc : PySem.W.typeIn K (.ref C) = some (.type "type")) (hd : PySem.W.hasDictIn K C = true) : ErrFHere K x q fl st R C :=
  ⟨f, N, nm, qn, bs, sn, sub, ab, col, dd, m0, m1, m2, m3, m5, g, xl, sa, ga, gg, no, ini, ty, ⟨oc, od, kV, dc, pm, an, cd, ct, sl, l, c, k⟩, kc, ex, tc, hd⟩
end
end Rw
set_option Elab.async false
set_option linter.all false
set_option maxRecDepth 100000
set_option maxHeartbeats 2000000
namespace Rw
open PySem PySem.Spec PyProof.Rows L2
structure TabT (n : Nat) (T : List (List Int)) (d : PyData) : Prop where
  n0 : 1 ≤ n
  n7 : n ≤ 7
  v : VecsD T d
  l : T.length = n
  w : ∀ (a : Nat) (r : List Int), T[a]? = some r → r.length + a = n ∧ ∀ e, e ∈ r → 0 ≤ e ∧ e ≤ 6
def tabV (T : List (List Int)) (a b : Nat) : Int := cl ((T[a]?).getD []) (b - a)
/-- what the number of a bar is made of -/
def valT (n : Nat) (T : List (List Int)) (a b : Int) : Int := if a = -1 ∨ b = (n : Int) then 0 else tabV T a.toNat b.toNat
def numT (n : Nat) (T : List (List Int)) (q : Nat × Nat) : Int := valT n T q.1 q.2 - valT n T ((q.1 : Int) - 1) q.2 - valT n T q.1 ((q.2 : Int) + 1) + valT n T ((q.1 : Int) - 1) ((q.2 : Int) + 1)
def negT (n : Nat) (T : List (List Int)) : Option (Nat × Nat) := (barsL n).find? fun q => decide (numT n T q < 0)
def numKT (n : Nat) (T : List (List Int)) : List (List Key × V) := (barsL n).map fun q => (keyT q, .int (numT n T q))
theorem ix_sq {K : PySem.W.Frag} {H : Hp} {k : Bool} {a : Addr} {xs : List V} {j : Nat} {v : V} {Q : VK} (h : SqB K H k a xs) (e : xs[j]? = some v) (q : Q v H) : rIx K (.ref a) (.int ((j : Nat) : Int)) H Q := by
  cases k with
  | true => exact .inl ⟨a, _, _, _, rfl, rfl, h, atI_nat e, q⟩
  | false => exact .inr (.inl ⟨a, _, _, _, rfl, rfl, h, atI_nat e, q⟩)
section
variable {n : Nat} {T : List (List Int)} {d : PyData}
theorem TabT.at_ (t : TabT n T d) {a : Nat} (ha : a < n) : ∃ r, T[a]? = some r ∧ r.length + a = n ∧ ∀ e, e ∈ r → 0 ≤ e ∧ e ≤ 6 := by
  have h : T[a]? = some (T[a]'(by rw [t.l]; exact ha)) := List.getElem?_eq_getElem (by rw [t.l]; exact ha)
  exact ⟨_, h, t.w a _ h⟩
theorem tab_lines {H : Hp} {v : V} (t : TabT n T d) (h : Any H v d) : ∃ (k : Bool) (p : Addr) (xs : List V), v = .ref p ∧ (∀ {H' : Hp}, Same H H' → ∀ K, SqB K H' k p xs) ∧ xs.length = n ∧
    ∀ a, a < n → ∃ (k2 : Bool) (q : Addr) (r : List Int), xs[a]? = some (.ref q) ∧ T[a]? = some r ∧ r.length + a = n ∧ (∀ e, e ∈ r → 0 ≤ e ∧ e ≤ 6) ∧ ∀ {H' : Hp}, Same H H' → ∀ K, SqB K H' k2 q (r.map V.int) := by
  obtain ⟨k, p, xs, ds, rfl, hs, al, lk⟩ := vecs_seq h t.v
  have ln := anyL_len al
  have ll := lk.len
  have lT := t.l
  refine ⟨k, p, xs, rfl, hs, by omega, fun a ha => ?_⟩
  obtain ⟨r, hr, lr, rr⟩ := t.at_ ha
  have hx : xs[a]? = some (xs[a]'(by omega)) := List.getElem?_eq_getElem (by omega)
  obtain ⟨e, he, ae⟩ := anyL_at al hx
  obtain ⟨r2, hr2, vd⟩ := lk.at_ a e he
  rw [hr] at hr2
  cases Option.some.inj hr2
  obtain ⟨k2, q, eq, h2⟩ := row_seq ae vd
  exact ⟨k2, q, r, by rw [hx, eq], hr, lr, rr, h2⟩
theorem val_at (t : TabT n T d) {a b : Nat} (ha : a ≤ b) (hb : b < n) : 0 ≤ tabV T a b ∧ tabV T a b ≤ 6 := by
  obtain ⟨r, hr, lr, rr⟩ := t.at_ (show a < n by omega)
  unfold tabV
  rw [hr]
  show 0 ≤ cl r (b - a) ∧ cl r (b - a) ≤ 6
  unfold cl
  rw [List.getElem?_eq_getElem (by omega : b - a < r.length)]
  exact rr _ (List.getElem_mem _)
theorem tab_is (t : TabT n T d) : isTabD d = true ∧ WideD d := by
  obtain ⟨ds, e, lk⟩ := t.v
  have e1 : isSeqD d = true ∧ itemsD d = ds := by rcases e with z | z <;> rw [z] <;> exact ⟨rfl, rfl⟩
  have ld : ds.length = n := lk.len.trans t.l
  have n0 := t.n0
  have n7 := t.n7
  have row : ∀ a, a < n → ∃ e r, ds[a]? = some e ∧ VecD r e ∧ r.length + a = n ∧ ∀ x, x ∈ r → 0 ≤ x ∧ x ≤ 6 := fun a ha => by
    have h : ds[a]? = some (ds[a]'(by omega)) := List.getElem?_eq_getElem (by omega)
    obtain ⟨r, hr, vd⟩ := lk.at_ a _ h
    obtain ⟨lr, rr⟩ := t.w a r hr
    exact ⟨_, r, h, vd, lr, rr⟩
  constructor
  · unfold isTabD
    rw [e1.1, e1.2, ld, decide_eq_true n0, decide_eq_true n7, Bool.true_and, Bool.true_and, Bool.true_and, List.all_eq_true]
    intro a ha
    rw [List.mem_range] at ha
    obtain ⟨e, r, he, vd, lr, rr⟩ := row a ha
    have e2 : isSeqD e = true ∧ itemsD e = r.map .int := by rcases vd with z | z <;> rw [z] <;> exact ⟨rfl, rfl⟩
    unfold atD lineB
    rw [e1.2, he, Option.getD_some, e2.1, e2.2, List.length_map, decide_eq_true lr, Bool.true_and, Bool.true_and, List.all_eq_true]
    intro x hx
    obtain ⟨y, hy, rfl⟩ := List.mem_map.mp hx
    obtain ⟨y0, y1⟩ := rr y hy
    show (decide ((0 : Int) ≤ y) && decide (y ≤ 6)) = true
    rw [decide_eq_true y0, decide_eq_true y1] <;> rfl
  · refine ⟨by rw [e1.2]; omega, fun e he => ?_⟩
    rw [e1.2] at he
    obtain ⟨a, ha, ea⟩ := List.getElem_of_mem he
    obtain ⟨e', r, he', vd, lr, rr⟩ := row a (by omega)
    rw [List.getElem?_eq_getElem ha, ea] at he'
    cases Option.some.inj he'
    rw [(vec_is vd).2]
    omega
end
def spPatT : Sp := fun vs H Q _ => ∃ v d n T, vs = [v] ∧ Any H v d ∧ TabT n T d ∧ Q (.str (patX (n - 1))) H
def spValT : Sp := fun vs H Q _ => ∃ v d n T a b, vs = [v, .int a, .int b] ∧ Any H v d ∧ TabT n T d ∧ -1 ≤ a ∧ a ≤ b ∧ b ≤ (n : Nat) ∧ Q (.int (valT n T a b)) H
def spNumT : Sp := fun vs H Q _ => ∃ v t d n T q, vs = [v, .ref t] ∧ Any H v d ∧ TabT n T d ∧ H t = some (.tup [.int ((q.1 : Nat) : Int), .int ((q.2 : Nat) : Int)]) ∧ q ∈ barsL n ∧ Q (.int (numT n T q)) H
def BarAt (H : Hp) (t : Addr) (q : Nat × Nat) : Prop := H t = some (.tup [.int ((q.1 : Nat) : Int), .int ((q.2 : Nat) : Int)])
def spClashT : Sp := fun vs H Q _ => ∃ v d n T, vs = [v] ∧ Any H v d ∧ TabT n T d ∧ (negT n T = none → ∀ H', Same H H' → Q .non H') ∧ (∀ q t H', negT n T = some q → Same H H' → BarAt H' t q → Q (.ref t) H')
def spIsRankT : Sp := fun vs H Q _ => ∃ v d n T, vs = [v] ∧ Any H v d ∧ TabT n T d ∧ ∀ H', Same H H' → Q (.bl (negT n T).isNone) H'
def spBarsT (CN : Addr) : Sp := fun vs H Q E => ∃ v d n T, vs = [v] ∧ Any H v d ∧ TabT n T d ∧ (∀ q t H', negT n T = some q → Same H H' → BarAt H' t q → ThrownF "bar" CN (.ref t) H' E) ∧ (negT n T = none → ∀ D H', H D = none → Same H H' → H' D = some (.dT (numKT n T)) → Q (.ref D) H')
end Rw
set_option Elab.async false
set_option linter.all false
set_option maxRecDepth 100000
set_option maxHeartbeats 2000000
namespace Rw
open PySem PySem.Spec PyProof.Rows L2
structure Tab (H0 H : Hp) (A : Addr) (bs : List Addr) (T : List (List Int)) : Prop where
  nA : H0 A = none
  a : H A = some (.lst (bs.map V.ref))
  nd : bs.Nodup
  na : A ∉ bs
  len : bs.length = T.length
  row : ∀ (i : Nat) (b : Addr) (r : List Int), bs[i]? = some b → T[i]? = some r → H b = some (.lst (r.map V.int)) ∧ H0 b = none
section
variable {H0 H H' : Hp} {A p : Addr} {bs : List Addr} {T : List (List Int)}
theorem Tab.at_ (t : Tab H0 H A bs T) {i : Nat} {r : List Int} (hr : T[i]? = some r) : ∃ b, bs[i]? = some b ∧ H b = some (.lst (r.map V.int)) ∧ H0 b = none ∧ b ≠ A := by
  have hi := (List.getElem?_eq_some_iff.mp hr).1
  rw [← t.len] at hi
  have hb : bs[i]? = some bs[i] := List.getElem?_eq_getElem hi
  obtain ⟨h1, h2⟩ := t.row i _ r hb hr
  exact ⟨_, hb, h1, h2, fun e => t.na (e ▸ List.getElem_mem hi)⟩
theorem Tab.keep (t : Tab H0 H A bs T) (k : Same H H') : Tab H0 H' A bs T := ⟨t.nA, k _ _ t.a, t.nd, t.na, t.len, fun i b r h1 h2 => ⟨k _ _ (t.row i b r h1 h2).1, (t.row i b r h1 h2).2⟩⟩
theorem Tab.grow (t : Tab H0 H A bs T) {o : HO} (hp : H0 p = some o) (k : Grow p H H') : Tab H0 H' A bs T := by
  have ne : ∀ b, H0 b = none → b ≠ p := fun b hb e => by rw [e, hp] at hb; cases hb
  exact ⟨t.nA, k _ _ (ne _ t.nA) t.a, t.nd, t.na, t.len, fun i b r h1 h2 => ⟨k _ _ (ne _ (t.row i b r h1 h2).2) (t.row i b r h1 h2).1, (t.row i b r h1 h2).2⟩⟩
theorem Tab.any (t : Tab H0 H A bs T) {M : Hp} (e : ∀ b, H0 b = none → ∀ o, H b = some o → M b = some o) : Any M (.ref A) (.list (T.map lstI)) := by
  refine .lst (e _ t.nA _ t.a) (anyL_all (by rw [List.length_map, List.length_map]; exact t.len) fun i x d hx hd => ?_)
  rw [List.getElem?_map] at hx hd
  obtain ⟨b, hb, rfl⟩ := Option.map_eq_some_iff.mp hx
  obtain ⟨r, hr, rfl⟩ := Option.map_eq_some_iff.mp hd
  obtain ⟨h1, h2⟩ := t.row i b r hb hr
  exact .lst (e _ h2 _ h1) (ints_anyL r)
theorem Tab.cell (t : Tab H0 H A bs T) {i : Nat} {r : List Int} (hr : T[i]? = some r) {b : Addr} (hb : bs[i]? = some b) (j : Nat) (v : Int) : Tab H0 (upd H b (.lst ((r.map V.int).set j (.int v)))) A bs (T.set i (r.set j v)) := by
  obtain ⟨hi, hbi⟩ := List.getElem?_eq_some_iff.mp hb
  have nbA : A ≠ b := fun e => t.na (e ▸ hbi ▸ List.getElem_mem hi)
  refine ⟨t.nA, by rw [upd_ne nbA]; exact t.a, t.nd, t.na, by rw [List.length_set]; exact t.len, fun k c s hc hs => ?_⟩
  rw [List.getElem?_set] at hs
  by_cases e : i = k
  · subst e
    rw [if_pos rfl, if_pos (by rw [← t.len]; exact hi)] at hs
    cases hs
    rw [hb] at hc
    cases hc
    rw [upd_same, List.map_set]
    exact ⟨rfl, (t.row i _ r hb hr).2⟩
  · rw [if_neg e] at hs
    obtain ⟨h1, h2⟩ := t.row k c s hc hs
    obtain ⟨hk, hck⟩ := List.getElem?_eq_some_iff.mp hc
    have ne : c ≠ b := fun z => e ((List.getElem_inj t.nd).mp (hbi.trans (z.symm.trans hck.symm)))
    rw [upd_ne ne]
    exact ⟨h1, h2⟩
theorem Tab.same (t : Tab H0 H A bs T) (s : Same H0 H) {i : Nat} {b : Addr} (hb : bs[i]? = some b) (o : HO) : Same H0 (upd H b o) := fun c u e => by
  obtain ⟨hi, hbi⟩ := List.getElem?_eq_some_iff.mp hb
  obtain ⟨_, h2⟩ := t.row i b (T[i]'(by rw [← t.len]; exact hi)) hb (List.getElem?_eq_getElem (by rw [← t.len]; exact hi))
  rw [upd_ne (ne_of_none e h2)]
  exact s _ _ e
theorem Tab.same_g (t : Tab H0 H A bs T) {n : Nat} (s : Grow p H0 H) {i : Nat} {b : Addr} (hb : bs[i]? = some b) (o : HO) : Grow p H0 (upd H b o) := fun c u ne e => by
  obtain ⟨hi, hbi⟩ := List.getElem?_eq_some_iff.mp hb
  obtain ⟨_, h2⟩ := t.row i b (T[i]'(by rw [← t.len]; exact hi)) hb (List.getElem?_eq_getElem (by rw [← t.len]; exact hi))
  rw [upd_ne (ne_of_none e h2)]
  exact s _ _ ne e
end
/-- a comprehension that makes a table -/
theorem lc_tab {J : It} {n : Nat} {G : Hp → Prop} {Y : Nat → Hp → V → Hp → Prop} (w : Walk J n G Y) {g : TG} {σ : L2.St} {vs : List Nat} {te : TE} {H1 : Hp} {D : Addr} {Q : Hp → Prop} (hn : n ≤ 1000) (hD : H1 D = none) (hG : ∀ H, Same H1 H → G H) (f : Nat → List Int)
    (hs : ∀ i x H H', i < n → Same H1 H → (∃ o, H D = some o) → Y i H x H' → Same H H' ∧ ∀ k : VK, (∀ l H2, H' l = none → Same H' H2 → H2 l = some (.lst ((f i).map V.int)) → k (.ref l) H2) → g x (wipe σ vs) H' fun σ2 H2 => wipe σ2 vs = wipe σ vs ∧ te σ2 H2 k)
    (hq : ∀ H bs, Same H1 H → Tab H1 H D bs ((List.range n).map f) → Q H) :
    ∃ W : Nat → Nat → Hp → Prop, (∃ m, W 0 m (upd H1 D (.lst []))) ∧ ∀ i m H, W i m H →
      (J.stop i H ∧ Q H) ∨ (J.go i H ∧ ∃ Nx : Hp → Prop, (∀ H', Nx H' → ∃ m', m' < m ∧ W (i + 1) m' H') ∧ ∀ x H', J.yld i H x H' → g x (wipe σ vs) H' fun σ2 H2 => wipe σ2 vs = wipe σ vs ∧ tYes σ2 H2 fun b H3 =>
        if b = true then te σ2 H3 fun y H4 => ∃ acc, H4 D = some (.lst acc) ∧ acc.length < sizeLine ∧ Nx (upd H4 D (.lst (acc ++ [y]))) else Nx H3) := by
  refine lc_it w (Qd := Q) (Pv := fun i H => Same H1 H ∧ ∃ bs, Tab H1 H D bs ((List.range i).map f)) ⟨same_new hD, [], ⟨hD, upd_same, List.nodup_nil, (fun h => (nomatch h)), rfl, fun i b r h => by simp at h⟩⟩ (fun i H _ h => hG H h.1) ?_ ?_
  · rintro i x H H' hi ⟨s1, bs, t⟩ y
    obtain ⟨s2, go⟩ := hs i x H H' hi s1 ⟨_, t.a⟩ y
    refine go _ fun l H4 hl s3 e4 => ?_
    have t4 := (t.keep s2).keep s3
    have lb : bs.length = i := by rw [t.len, List.length_map, List.length_range]
    have lD : l ≠ D := fun e => by rw [e, s2 _ _ t.a] at hl; cases hl
    have lnew : l ∉ bs := fun h => by
      obtain ⟨k, hk, e⟩ := List.getElem_of_mem h
      have hb : bs[k]? = some l := by rw [List.getElem?_eq_getElem hk, e]
      obtain ⟨h1, _⟩ := t.row k l _ hb (List.getElem?_eq_getElem (by rw [← t.len]; exact hk))
      rw [s2 _ _ h1] at hl
      cases hl
    have s14 : Same H1 H4 := (s1.trans s2).trans s3
    refine ⟨bs.map V.ref, t4.a, Nat.lt_of_lt_of_le (by rw [List.length_map]; omega : (bs.map V.ref).length < 1000) (by decide), fun c u e => ?_, bs ++ [l], ⟨hD, ?_, ?_, ?_, ?_, fun k c r hc hr => ?_⟩⟩
    · rw [upd_ne (ne_of_none e hD)]
      exact s14 _ _ e
    · rw [upd_same, List.map_append] <;> rfl
    · rw [List.nodup_append]
      refine ⟨t.nd, by simp, fun a ha b hb e => ?_⟩
      rw [List.mem_singleton] at hb
      subst hb
      subst e
      exact lnew ha
    · intro h
      rcases List.mem_append.mp h with h | h
      · exact t.na h
      · exact lD (List.mem_singleton.mp h).symm
    · rw [List.length_append, lb, List.length_map, List.length_range] <;> rfl
    · rw [List.range_succ, List.map_append] at hr
      by_cases z : k < i
      · rw [List.getElem?_append_left (by omega)] at hc
        rw [List.getElem?_append_left (by simpa using z)] at hr
        obtain ⟨h1, h2⟩ := t4.row k c r hc hr
        have ne : c ≠ D := fun e => t.na (e ▸ List.mem_of_getElem? hc)
        rw [upd_ne ne]
        exact ⟨h1, h2⟩
      · rw [List.getElem?_append_right (by omega)] at hc
        rw [List.getElem?_append_right (by simp; omega)] at hr
        have z2 : k = i := by
          have := (List.getElem?_eq_some_iff.mp hc).1
          rw [List.length_singleton] at this
          omega
        subst z2
        rw [lb, Nat.sub_self] at hc
        rw [List.length_map, List.length_range, Nat.sub_self] at hr
        cases hc
        cases hr
        rw [upd_ne lD]
        refine ⟨e4, ?_⟩
        cases e : H1 l with
        | none => rfl
        | some o => rw [s2 _ _ (s1 _ _ e)] at hl; cases hl
  · rintro H ⟨s1, bs, t⟩
    exact hq H bs s1 t
def rowT (n : Nat) (f : Nat → Nat → Int) (a : Nat) : List Int := (List.range (n - a)).map fun j => f a (a + j)
def mkT (n : Nat) (f : Nat → Nat → Int) : List (List Int) := (List.range n).map (rowT n f)
section
variable {n : Nat} {f g : Nat → Nat → Int}
theorem rowT_len {a : Nat} : (rowT n f a).length = n - a := by
  unfold rowT
  rw [List.length_map, List.length_range]
theorem rowT_at {a j : Nat} (h : a + j < n) : (rowT n f a)[j]? = some (f a (a + j)) := by
  unfold rowT
  rw [List.getElem?_map, List.getElem?_range (by omega)] <;> rfl
theorem mkT_len : (mkT n f).length = n := by
  unfold mkT
  rw [List.length_map, List.length_range]
theorem mkT_at {a : Nat} (h : a < n) : (mkT n f)[a]? = some (rowT n f a) := by
  unfold mkT
  rw [List.getElem?_map, List.getElem?_range h] <;> rfl
theorem rowT_congr {a : Nat} (h : ∀ j, a + j < n → f a (a + j) = g a (a + j)) : rowT n f a = rowT n g a := List.map_congr_left fun j hj => h j (by have := List.mem_range.mp hj; omega)
theorem mkT_congr (h : ∀ a b, a ≤ b → b < n → f a b = g a b) : mkT n f = mkT n g := List.map_congr_left fun a ha => rowT_congr fun j hj => h a (a + j) (by omega) hj
theorem mkT_set {a b : Nat} (ab : a ≤ b) (hb : b < n) (v : Int) : (mkT n f).set a ((rowT n f a).set (b - a) v) = mkT n fun x y => if x = a ∧ y = b then v else f x y := by
  refine List.ext_getElem? fun x => ?_
  rw [List.getElem?_set]
  by_cases e : a = x
  · subst e
    rw [if_pos rfl, if_pos (by rw [mkT_len]; omega), mkT_at (by omega)]
    congr 1
    refine List.ext_getElem? fun j => ?_
    rw [List.getElem?_set]
    by_cases e2 : b - a = j
    · subst e2
      rw [if_pos rfl, if_pos (by rw [rowT_len]; omega), rowT_at (by omega)]
      rw [if_pos ⟨rfl, by omega⟩]
    · rw [if_neg e2]
      by_cases h : a + j < n
      · rw [rowT_at h, rowT_at h, if_neg fun z => e2 (by omega)]
      · rw [List.getElem?_eq_none (by rw [rowT_len]; omega), List.getElem?_eq_none (by rw [rowT_len]; omega)]
  · rw [if_neg e]
    by_cases h : x < n
    · rw [mkT_at h, mkT_at h, rowT_congr (f := f) (g := fun x y => if x = a ∧ y = b then v else f x y) fun j _ => by rw [if_neg fun z => e z.1.symm]]
    · rw [List.getElem?_eq_none (by rw [mkT_len]; omega), List.getElem?_eq_none (by rw [mkT_len]; omega)]
theorem tabT_mk (n0 : 1 ≤ n) (n7 : n ≤ 7) (h : ∀ a b, a ≤ b → b < n → 0 ≤ f a b ∧ f a b ≤ 6) : TabT n (mkT n f) (.list ((mkT n f).map lstI)) := by
  refine ⟨n0, n7, ?_, mkT_len, fun a r hr => ?_⟩
  · exact ⟨_, .inl rfl, likeV_lstsK _⟩
  · have ha : a < n := by
      have := (List.getElem?_eq_some_iff.mp hr).1
      rw [mkT_len] at this
      exact this
    rw [mkT_at ha] at hr
    cases hr
    refine ⟨by rw [rowT_len]; omega, fun e he => ?_⟩
    obtain ⟨j, hj, rfl⟩ := List.mem_map.mp he
    have := List.mem_range.mp hj
    exact h a (a + j) (by omega) (by omega)
end
theorem TabT.mk_eq {n : Nat} {T : List (List Int)} {d : PyData} (t : TabT n T d) : T = mkT n (tabV T) := by
  refine List.ext_getElem? fun a => ?_
  by_cases h : a < n
  · obtain ⟨r, hr, lr, _⟩ := t.at_ h
    rw [hr, mkT_at h]
    congr 1
    refine List.ext_getElem? fun j => ?_
    by_cases hj : a + j < n
    · rw [rowT_at hj]
      unfold tabV cl
      rw [hr, Option.getD_some, Nat.add_sub_cancel_left, List.getElem?_eq_getElem (by omega)] <;> rfl
    · rw [List.getElem?_eq_none (by omega), List.getElem?_eq_none (by rw [rowT_len]; omega)]
  · rw [List.getElem?_eq_none (by rw [t.l]; omega), List.getElem?_eq_none (by rw [mkT_len]; omega)]
end Rw
set_option Elab.async false
set_option linter.all false
set_option maxRecDepth 100000
set_option maxHeartbeats 2000000
namespace Rw
open PySem PySem.Spec PyProof.Rows L2
theorem lc_intG {J : It} {n : Nat} {G : Hp → Prop} {Y : Nat → Hp → V → Hp → Prop} (w : Walk J n G Y) {g : TG} {σ : L2.St} {vs : List Nat} {te : TE} {H1 : Hp} {D : Addr} {Q : Hp → Prop} (hn : n ≤ 1000) (hD : H1 D = none) (hG : ∀ H, Same H1 H → G H) (f : Nat → Int)
    (hs : ∀ i x H H', i < n → Same H1 H → Y i H x H' → Same H H' ∧ ∀ k : VK, (∀ H2, Same H' H2 → k (.int (f i)) H2) → g x (wipe σ vs) H' fun σ2 H2 => wipe σ2 vs = wipe σ vs ∧ te σ2 H2 k)
    (hq : ∀ H, Same H1 H → H D = some (.lst (((List.range n).map f).map V.int)) → Q H) :
    ∃ W : Nat → Nat → Hp → Prop, (∃ m, W 0 m (upd H1 D (.lst []))) ∧ ∀ i m H, W i m H →
      (J.stop i H ∧ Q H) ∨ (J.go i H ∧ ∃ Nx : Hp → Prop, (∀ H', Nx H' → ∃ m', m' < m ∧ W (i + 1) m' H') ∧ ∀ x H', J.yld i H x H' → g x (wipe σ vs) H' fun σ2 H2 => wipe σ2 vs = wipe σ vs ∧ tYes σ2 H2 fun b H3 =>
        if b = true then te σ2 H3 fun y H4 => ∃ acc, H4 D = some (.lst acc) ∧ acc.length < sizeLine ∧ Nx (upd H4 D (.lst (acc ++ [y]))) else Nx H3) := by
  refine lc_it w (Qd := Q) (Pv := fun i H => Same H1 H ∧ H D = some (.lst (((List.range i).map f).map V.int))) ⟨same_new hD, upd_same⟩ (fun i H _ h => hG H h.1) ?_ ?_
  · rintro i x H H' hi ⟨s1, e⟩ y
    obtain ⟨s2, go⟩ := hs i x H H' hi s1 y
    refine go _ fun H4 s3 => ?_
    have s14 : Same H1 H4 := (s1.trans s2).trans s3
    refine ⟨_, (s2.trans s3) _ _ e, Nat.lt_of_lt_of_le (by rw [List.length_map, List.length_map, List.length_range]; omega : _ < 1000) (by decide), fun c u ec => ?_, ?_⟩
    · rw [upd_ne (ne_of_none ec hD)]
      exact s14 _ _ ec
    · rw [upd_same, List.range_succ, List.map_append, List.map_append] <;> rfl
  · rintro H ⟨s1, e⟩
    exact hq H s1 e
end Rw
set_option Elab.async false
set_option linter.all false
set_option maxRecDepth 100000
set_option maxHeartbeats 8000000
namespace Rw
open PySem PySem.Spec PyProof.Rows L2
def spCountsT : Sp := fun vs H Q _ => ∃ v d n T, vs = [v] ∧ Any H v d ∧ TabT n T d ∧ ∀ D H', H D = none → Same H H' → H' D = some (.dT (numKT n T)) → Q (.ref D) H'
def kvT (n : Nat) (T : List (List Int)) (l : List (Nat × Nat)) : List (List L2.Key × V) := l.map fun q => (keyT q, .int (numT n T q))
def frontL (i k : Nat) : List (Nat × Nat) := (List.range k).map fun j => (i, i + j)
theorem front_all {i n : Nat} (h : i ≤ n) : frontL i (n - i) = partL i n := by
  unfold frontL partL
  have e : n = i + (n - i) := by omega
  conv => rhs; rw [e]
  generalize n - i = k
  induction k with
  | zero =>
    rw [Nat.add_zero, List.filter_eq_nil_iff.mpr fun b hb => by have := List.mem_range.mp hb; simp; omega] <;> rfl
  | succ k ih => rw [List.range_succ, List.map_append, ih, show i + (k + 1) = i + k + 1 by omega, List.range_succ, List.filter_append, List.filter_cons_of_pos (by simp), List.filter_nil, List.map_append] <;> rfl
theorem front_len {n i k : Nat} : (preL n i ++ frontL i k).length ≤ i * n + k := by
  have := pre_len n i
  rw [List.length_append]
  unfold frontL
  rw [List.length_map, List.length_range]
  omega
theorem front_new {n i k : Nat} : (i, i + k) ∉ preL n i ++ frontL i k := fun h => by
  rcases List.mem_append.mp h with h | h
  · have h2 : i < i := (pre_fst h).1
    omega
  · obtain ⟨j, hj, e⟩ := List.mem_map.mp h
    have := List.mem_range.mp hj
    have e2 := (Prod.mk.inj e).2
    omega
/-- the four places of a number -/
def endsQ (a b : Int) (i : Nat) : Int × Int := match i with
  | 0 => (a, b) | 1 => (a - 1, b) | 2 => (a, b + 1) | _ => (a - 1, b + 1)
end Rw
namespace K41
open PySem PySem.Spec PyProof.Rows L2 Rw
abbrev sCounts : Stmt := top 62
abbrev NCounts : List Str := ["_law_table", "_law_many", "_law_found", "_law_first", "_law_last", "_law_ends_in", "_law_told", "_law_a", "_law_b"]
theorem scCounts : FnScope NCounts ["_law_table"] (defScope sCounts) := ⟨rfl, rfl, rfl, by decide +kernel, rfl, by decide +kernel, by decide +kernel⟩
abbrev gABC (K : PySem.W.Frag) : TG := gTup K 2 (gCons (gName 7) (gCons (gName 8) gNil))
abbrev tValC (K : PySem.W.Frag) : TE := tIf (tAnd (tTest (tOp (rI0 fun i j => .bl (decide (j ≤ i))) (tVar 7) (tC (.int 0)))) (tTest (tOp (rI0 fun i j => .bl (decide (i < j))) (tVar 8) (tVar 1)))) (tOp (rIx K) (tOp (rIx K) (tVar 0) (tVar 7)) (tOp (rI0 fun i j => .int (i - j)) (tVar 8) (tVar 7))) (tC (.int 0))
section
variable {P : Program} {w : World} {K : PySem.W.Frag} {mg : Str → Option Value} {base : Heap}
theorem okCounts {f : Addr} {fd : FuncData} (F : Fun K "_law_counts" "_law_counts" sCounts f fd) (zr : mg "range" = none) (zl : mg "len" = none) : FnOk P w K mg base CX0 1 f fd ["_law_table"] spCountsT := by
  refine F.ok scCounts (fun vs H Q E h => ?_) (fun cdv A outer s H vs Q E hr h => ?_)
  · obtain ⟨v, d, n, T, rfl, _⟩ := h
    rfl
  · obtain ⟨v, d, n, T, rfl, av, t, q⟩ := h
    refine ⟨_, (pss_cons (ps_asg (pe_tup (pa_cons (pe_callB call_len_seq (by rfl) zl boot_len (pa_cons (pv 0) pa_nil)) (pa_cons pe_dnewT pa_nil))) (pg_tup rfl (pgs_cons (pg_name (i := 1) scCounts.nd rfl (Or.inr rfl)) (pgs_cons (pg_name (i := 2) scCounts.nd rfl (Or.inl rfl)) pgs_nil))))
    (pss_cons (ps_for PassesOwn.never rfl (pi_range1 rfl zr (pa_cons (pv 1) pa_nil)) (pg_name (i := 3) scCounts.nd rfl (Or.inl rfl)) (pss_one (ps_for PassesOwn.never rfl (pi_range2 rfl zr (pa_cons (pv 3) (pa_cons (pv 1) pa_nil))) (pg_name (i := 4) scCounts.nd rfl (Or.inl rfl)) (pss_cons (ps_set (i := 5) scCounts.nd rfl (Or.inl rfl) (pe_lst (pa_cons (pe_tup (pa_cons (pv 3) (pa_cons (pv 4) pa_nil))) (pa_cons (pe_tup (pa_cons (pe_op op_sub (pv 3) pe_int) (pa_cons (pv 4) pa_nil))) (pa_cons (pe_tup (pa_cons (pv 3) (pa_cons (pe_op op_add (pv 4) pe_int) pa_nil))) (pa_cons (pe_tup (pa_cons (pe_op op_sub (pv 3) pe_int) (pa_cons (pe_op op_add (pv 4) pe_int) pa_nil))) pa_nil))))))
        (pss_cons (ps_setLc (i := 6) (own := [("_law_a", 7), ("_law_b", 8)]) (g := gABC K) (tt := tYes) (te := tValC K) rfl scCounts.nd rfl rfl (sw_true rfl rfl rfl (by decide +kernel)) (pi_seq (pv 5)) (blkOk_by (N := NCounts) (sc := defScope sCounts) (by decide +kernel)) (fun _ _ _ _ _ => (pg_tup rfl (pgs_cons (pg_name (i := 7) scCounts.nd rfl (Or.inl rfl)) (pgs_cons (pg_name (i := 8) scCounts.nd rfl (Or.inl rfl)) pgs_nil)))) (fun _ _ _ _ _ => pts_nil) (fun _ _ _ _ _ => (pe_ifExp (PW.pt (pw_and (pt_cmpR op_ge (pv 7) pe_int (nomark _)) (pw_and1 (pt_cmpR op_lt (pv 8) (pv 1) (nomark _))))) (pe_ix ix_seq (pe_ix ix_seq (pv 0) (pv 7) (fun _ _ => rfl)) (pe_op op_sub (pv 8) (pv 7)) (fun _ _ => rfl)) pe_int)))
        (pss_one (ps_dput (hu_of hr) (pv 2) (pe_tup (pa_cons (pv 3) (pa_cons (pv 4) pa_nil))) (pe_op op_add (pe_op op_sub (pe_op op_sub (pe_ix ix_seq (pv 6) pe_int (fun _ _ => rfl)) (pe_ix ix_seq (pv 6) pe_int (fun _ _ => rfl))) (pe_ix ix_seq (pv 6) pe_int (fun _ _ => rfl))) (pe_ix ix_seq (pv 6) pe_int (fun _ _ => rfl))) rfl)))))))
    (pss_one (ps_ret (pv 2))))), ?_⟩
    obtain ⟨ky, p, xs, rfl, hs, ln, lines⟩ := tab_lines t av
    have n7 := t.n7
    refine ⟨_, rfl, p, xs, rfl, (hs (Same.refl _) K).or, fun D hD => ?_⟩
    have k0 := same_new (o := .dT []) hD
    have eD := upd_same (H := H) (a := D) (o := .dT [])
    generalize upd H D (.dT []) = H0 at k0 eD ⊢
    refine ⟨by show 2 ≤ sizeLine; decide, fun t0 ht0 => ?_⟩
    have k1 := same_new (o := .tup [.int ((xs.length : Nat) : Int), .ref D]) ht0
    have e1 := upd_same (H := H0) (a := t0) (o := .tup [.int ((xs.length : Nat) : Int), .ref D])
    have eD1 := k1 _ _ eD
    have k01 := k0.trans k1
    generalize upd H0 t0 (.tup [.int ((xs.length : Nat) : Int), .ref D]) = H1 at k01 e1 eD1 ⊢
    refine ⟨t0, _, rfl, SqT.of e1, rfl, _, _, rfl, _, _, rfl, rfl, ?_⟩
    refine ⟨_, rfl, _, rfl, by omega, by omega, ?_⟩
    rw [ln, show (((n : Nat) : Int)).toNat = n by omega]
    refine for_range (lo := 0) (n := n) (fun i σ' H' => ∃ y3 y4 y5 y6, σ' = [some (.ref p), some (.int ((n : Nat) : Int)), some (.ref D), y3, y4, y5, y6, none, none] ∧ Same H H' ∧ H' D = some (.dT (kvT n T (preL n i)))) ⟨_, _, _, _, rfl, k01, eD1⟩ ?_ ?_
    · rintro i σ' H2 hi ⟨y3, y4, y5, y6, rfl, s2, eD2⟩
      rw [show (0 : Int) + ((i : Nat) : Int) = ((i : Nat) : Int) by omega]
      refine ⟨_, rfl, _, rfl, _, _, rfl, ⟨by omega, by omega, by omega, by omega⟩, ?_⟩
      rw [show (((n : Nat) : Int) - ((i : Nat) : Int)).toNat = n - i by omega]
      refine for_range (lo := ((i : Nat) : Int)) (n := n - i) (fun k σ' H' => ∃ y4 y5 y6, σ' = [some (.ref p), some (.int ((n : Nat) : Int)), some (.ref D), some (.int ((i : Nat) : Int)), y4, y5, y6, none, none] ∧ Same H H' ∧ H' D = some (.dT (kvT n T (preL n i ++ frontL i k)))) ⟨_, _, _, rfl, s2, by show H2 D = some (.dT (kvT n T (preL n i ++ []))); rw [List.append_nil]; exact eD2⟩ ?_ ?_
      · rintro k σ' H3 hk ⟨y4, y5, y6, rfl, s3, eD3⟩
        rw [show ((i : Nat) : Int) + ((k : Nat) : Int) = ((i + k : Nat) : Int) by omega]
        obtain ⟨a, ha⟩ : ∃ a : Int, a = ((i : Nat) : Int) := ⟨_, rfl⟩
        obtain ⟨b, hb⟩ : ∃ b : Int, b = ((i + k : Nat) : Int) := ⟨_, rfl⟩
        rw [← ha, ← hb]
        refine ⟨_, rfl, _, rfl, by show 2 ≤ sizeLine; decide, fun t1 h1 => ?_⟩
        have q1 := same_new (o := .tup [.int a, .int b]) h1
        have f1 := upd_same (H := H3) (a := t1) (o := .tup [.int a, .int b])
        generalize upd H3 t1 (.tup [.int a, .int b]) = G1 at q1 f1 ⊢
        refine ⟨_, rfl, _, _, rfl, rfl, _, rfl, by show 2 ≤ sizeLine; decide, fun t2 h2 => ?_⟩
        have q2 := same_new (o := .tup [.int (a - 1), .int b]) h2
        have f2 := upd_same (H := G1) (a := t2) (o := .tup [.int (a - 1), .int b])
        generalize upd G1 t2 (.tup [.int (a - 1), .int b]) = G2 at q2 f2 ⊢
        refine ⟨_, rfl, _, rfl, _, _, rfl, rfl, by show 2 ≤ sizeLine; decide, fun t3 h3 => ?_⟩
        have q3 := same_new (o := .tup [.int a, .int (b + 1)]) h3
        have f3 := upd_same (H := G2) (a := t3) (o := .tup [.int a, .int (b + 1)])
        generalize upd G2 t3 (.tup [.int a, .int (b + 1)]) = G3 at q3 f3 ⊢
        refine ⟨_, rfl, _, _, rfl, rfl, _, rfl, _, _, rfl, rfl, by show 2 ≤ sizeLine; decide, fun t4 h4 => ?_⟩
        have q4 := same_new (o := .tup [.int (a - 1), .int (b + 1)]) h4
        have f4 := upd_same (H := G3) (a := t4) (o := .tup [.int (a - 1), .int (b + 1)])
        generalize upd G3 t4 (.tup [.int (a - 1), .int (b + 1)]) = G4 at q4 f4 ⊢
        refine ⟨by show 4 ≤ sizeLine; decide, fun l hl => ?_⟩
        have q5 := same_new (o := .lst [.ref t1, .ref t2, .ref t3, .ref t4]) hl
        have f5 := upd_same (H := G4) (a := l) (o := .lst [.ref t1, .ref t2, .ref t3, .ref t4])
        generalize upd G4 l (.lst [.ref t1, .ref t2, .ref t3, .ref t4]) = G5 at q5 f5 ⊢
        have all : ∀ j, j < 4 → ∃ t, ([V.ref t1, .ref t2, .ref t3, .ref t4])[j]? = some (.ref t) ∧ G5 t = some (.tup [.int (endsQ a b j).1, .int (endsQ a b j).2]) := fun j hj => by
          rcases (by omega : j = 0 ∨ j = 1 ∨ j = 2 ∨ j = 3) with z | z | z | z <;> subst z
          · exact ⟨t1, rfl, q5 _ _ (q4 _ _ (q3 _ _ (q2 _ _ f1)))⟩
          · exact ⟨t2, rfl, q5 _ _ (q4 _ _ (q3 _ _ f2))⟩
          · exact ⟨t3, rfl, q5 _ _ (q4 _ _ f3)⟩
          · exact ⟨t4, rfl, q5 _ _ f4⟩
        have s5 : Same H G5 := s3.trans (q1.trans (q2.trans (q3.trans (q4.trans q5))))
        have eD5 : G5 D = some (.dT (kvT n T (preL n i ++ frontL i k))) := q5 _ _ (q4 _ _ (q3 _ _ (q2 _ _ (q1 _ _ eD3))))
        have lo : ∀ j, j < 4 → -1 ≤ (endsQ a b j).1 ∧ (endsQ a b j).1 ≤ (endsQ a b j).2 ∧ (endsQ a b j).2 ≤ (n : Int) := fun j hj => by
          rcases (by omega : j = 0 ∨ j = 1 ∨ j = 2 ∨ j = 3) with z | z | z | z <;> subst z
          · show -1 ≤ a ∧ a ≤ b ∧ b ≤ (n : Int); omega
          · show -1 ≤ a - 1 ∧ a - 1 ≤ b ∧ b ≤ (n : Int); omega
          · show -1 ≤ a ∧ a ≤ b + 1 ∧ b + 1 ≤ (n : Int); omega
          · show -1 ≤ a - 1 ∧ a - 1 ≤ b + 1 ∧ b + 1 ≤ (n : Int); omega
        refine ⟨_, rfl, l, true, _, rfl, SqL.of f5, fun D2 hD2 => ?_⟩
        refine lc_intG (walk_seq (k := true)) (by show 4 ≤ 1000; decide) hD2 (fun H' s' => SqL.of (s' _ _ f5)) (fun j => valT n T (endsQ a b j).1 (endsQ a b j).2) ?_ ?_
        · rintro j y H7 H8 hj s7 ⟨rfl, hy⟩
          obtain ⟨u, hu, eu⟩ := all j hj
          rw [hu] at hy
          cases hy
          obtain ⟨l1, l2, l3⟩ := lo j hj
          refine ⟨Same.refl _, fun kk hkk => ?_⟩
          generalize endsQ a b j = e at eu l1 l2 l3 hkk
          refine ⟨u, _, rfl, SqT.of (s7 _ _ eu), rfl, _, _, rfl, _, _, rfl, rfl, rfl, ?_⟩
          have s57 := s5.trans s7
          refine ⟨_, rfl, _, _, rfl, rfl, _, rfl, ite2 (fun z => ?_) (fun z => ?_)⟩
          · have z2 : 0 ≤ e.1 := of_decide_eq_true z
            refine ⟨_, rfl, _, rfl, _, _, rfl, rfl, _, rfl, ite2 (fun y => ?_) (fun y => ?_)⟩
            · have y2 : e.2 < (n : Int) := of_decide_eq_true y
              obtain ⟨c, hc⟩ : ∃ c : Nat, e.1 = (c : Int) := ⟨e.1.toNat, by omega⟩
              obtain ⟨d', hd⟩ : ∃ d' : Nat, e.2 = (d' : Int) := ⟨e.2.toNat, by omega⟩
              obtain ⟨k2, q', r, hx, hT, lr, rr, hq⟩ := lines c (by omega)
              refine ⟨_, rfl, _, rfl, ?_⟩
              rw [hc]
              refine ix_sq (hs s57 K) hx ⟨_, rfl, _, rfl, _, _, rfl, rfl, ?_⟩
              dsimp only
              rw [hd, show ((d' : Nat) : Int) - ((c : Nat) : Int) = ((d' - c : Nat) : Int) by omega]
              refine ix_sq (hq s57 K) (v := .int (valT n T e.1 e.2)) ?_ (hkk _ (Same.refl _))
              have : valT n T e.1 e.2 = cl r (d' - c) := by
                unfold valT
                rw [if_neg (by omega), hc, hd]
                unfold tabV
                rw [show ((c : Nat) : Int).toNat = c by omega, show ((d' : Nat) : Int).toNat = d' by omega, hT, Option.getD_some]
              rw [this]
              unfold cl
              rw [List.getElem?_map, List.getElem?_eq_getElem (by omega : d' - c < r.length)] <;> rfl
            · have y2 : ¬ e.2 < (n : Int) := fun q => y (decide_eq_true q)
              have v0 : valT n T e.1 e.2 = 0 := if_pos (.inr (by omega))
              have := hkk _ (Same.refl _)
              rw [v0] at this
              exact this
          · have z2 : ¬ 0 ≤ e.1 := fun q => z (decide_eq_true q)
            have v0 : valT n T e.1 e.2 = 0 := if_pos (.inl (by omega))
            have := hkk _ (Same.refl _)
            rw [v0] at this
            exact iteF this
        intro H6 s6 e6
        have s56 := s5.trans s6
        have eD6 := s6 _ _ eD5
        refine ⟨_, rfl, .inl ⟨D2, _, _, _, rfl, rfl, SqL.of e6, atI_nat (j := 0) rfl, _, rfl, .inl ⟨D2, _, _, _, rfl, rfl, SqL.of e6, atI_nat (j := 1) rfl, _, _, rfl, rfl, _, rfl, .inl ⟨D2, _, _, _, rfl, rfl, SqL.of e6, atI_nat (j := 2) rfl, _, _, rfl, rfl, _, rfl, .inl ⟨D2, _, _, _, rfl, rfl, SqL.of e6, atI_nat (j := 3) rfl, _, _, rfl, rfl, ?_⟩⟩⟩⟩⟩
        refine ⟨_, rfl, _, rfl, _, rfl, by show 2 ≤ sizeLine; decide, fun u hu => ?_⟩
        have q7 := same_new (o := .tup [.int a, .int b]) hu
        have f7 := upd_same (H := H6) (a := u) (o := .tup [.int a, .int b])
        have eD7 := q7 _ _ eD6
        have s7 := s56.trans q7
        generalize upd H6 u (.tup [.int a, .int b]) = H7 at s7 f7 eD7 ⊢
        have fl := front_len (n := n) (i := i) (k := k)
        have sm : i * n ≤ 7 * 7 := Nat.mul_le_mul (by omega) (by omega)
        refine ⟨D, _, rfl, DPut.t (k := keyT (i, i + k)) eD7 (by rw [f7, ha, hb] <;> rfl) ?_, ?_⟩
        · refine Nat.lt_of_le_of_lt (?_ : _ ≤ 100) (by decide)
          unfold kvT
          rw [List.length_map]
          omega
        refine ⟨_, _, _, rfl, fun c o e => ?_, ?_⟩
        · rw [upd_ne (ne_of_none e hD)]
          exact s7 _ _ e
        · rw [upd_same]
          have e8 := put_map (f := fun q => V.int (numT n T q)) (q := (i, i + k)) (l := preL n i ++ frontL i k) front_new
          have e9 : numT n T (i, i + k) = valT n T a b - valT n T (a - 1) b - valT n T a (b + 1) + valT n T (a - 1) (b + 1) := by
            unfold numT
            rw [ha, hb]
          have e10 : preL n i ++ frontL i (k + 1) = preL n i ++ frontL i k ++ [(i, i + k)] := by
            unfold frontL
            rw [List.range_succ, List.map_append, ← List.append_assoc] <;> rfl
          rw [e10]
          unfold kvT
          rw [← e8, e9] <;> rfl
      · rintro σ' H3 ⟨y4, y5, y6, rfl, s3, eD3⟩
        rw [front_all (by omega), ← pre_succ] at eD3
        exact ⟨_, _, _, _, rfl, s3, eD3⟩
    · rintro σ' H2 ⟨y3, y4, y5, y6, rfl, s2, eD2⟩
      exact ⟨_, rfl, q D H2 hD s2 eD2⟩
end
end K41
set_option Elab.async false
set_option linter.all false
set_option maxRecDepth 100000
set_option maxHeartbeats 4000000
namespace K41
open PySem PySem.Spec PyProof.Rows L2 Rw
abbrev sCell : Stmt := top 52
abbrev sBox : Stmt := top 53
abbrev sTake : Stmt := top 54
abbrev sPrimeL : Stmt := top 61
abbrev sTurn : Stmt := top 55
abbrev sLess : Stmt := top 56
abbrev NCell : List Str := ["_law_script", "_law_k"]
theorem scCell : FnScope NCell ["_law_script", "_law_k"] (defScope sCell) := ⟨rfl, rfl, rfl, by decide +kernel, rfl, by decide +kernel, by decide +kernel⟩
abbrev NBox : List Str := ["_law_cell_here"]
theorem scBox : FnScope NBox ["_law_cell_here"] (defScope sBox) := ⟨rfl, rfl, rfl, by decide +kernel, rfl, by decide +kernel, by decide +kernel⟩
abbrev NTake : List Str := ["_law_box_here", "_law_many", "_law_digit", "_law_blend"]
theorem scTake : FnScope NTake ["_law_box_here", "_law_many"] (defScope sTake) := ⟨rfl, rfl, rfl, by decide +kernel, rfl, by decide +kernel, by decide +kernel⟩
abbrev NPrimeL : List Str := ["_law_box_here"]
theorem scPrimeL : FnScope NPrimeL ["_law_box_here"] (defScope sPrimeL) := ⟨rfl, rfl, rfl, by decide +kernel, rfl, by decide +kernel, by decide +kernel⟩
abbrev rInt1 : List V → Hp → VK → Prop := fun xs H Q => (∃ i, xs = [.int i] ∧ Q (.int i) H) ∨ ∃ k, xs = [.bl k] ∧ Q (.int (if k then 1 else 0)) H
abbrev rModN : R2 := rI (fun _ j => j ≠ 0) fun i j => .int (i.fmod j)
abbrev NTurn : List Str := ["_law_p", "_law_item", "_law_k"]
abbrev NLess : List Str := ["_law_p", "_law_rows", "_law_head", "_law_spot", "_law_row", "_law_k"]
theorem scTurn : FnScope NTurn ["_law_p", "_law_item"] (defScope sTurn) := ⟨rfl, rfl, rfl, by decide +kernel, rfl, by decide +kernel, by decide +kernel⟩
theorem scLess : FnScope NLess ["_law_p", "_law_rows", "_law_head", "_law_spot"] (defScope sLess) := ⟨rfl, rfl, rfl, by decide +kernel, rfl, by decide +kernel, by decide +kernel⟩
section
variable {P : Program} {w : World} {K : PySem.W.Frag} {mg : Str → Option Value} {base : Heap}
theorem okCell {f : Addr} {fd : FuncData} (F : Fun K "_law_cell" "_law_cell" sCell f fd) (zl : mg "len" = none) : FnOk P w K mg base CX0 1 f fd ["_law_script", "_law_k"] (spCellR K) := by
  refine F.ok scCell (fun vs H Q E h => ?_) (fun cdv A outer s H vs Q E hr h => ?_)
  · obtain ⟨a, ns, j, rfl, _⟩ := h
    rfl
  · obtain ⟨a, ns, j, rfl, hs, hj, q⟩ := h
    refine ⟨_, (pss_cons (ps_if (pt_cmpR op_lt (pv 1) (pe_callB call_len_seq (by rfl) zl PySem.boot_len (pa_cons (pv 0) pa_nil)) (nomark _)) (pss_one (ps_ret (pe_ix ix_list (pv 0) (pv 1) (fun _ _ => rfl)))) pss_nil)
      (pss_one (ps_ret (pe_op op_add (pe_op op_mul pe_int (pv 1)) pe_int)))), ?_⟩
    refine ⟨_, rfl, _, rfl, a, _, rfl, .inl hs, _, _, rfl, rfl, _, rfl, ?_⟩
    refine ite2 (fun z => ?_) (fun z => ?_)
    · have z2 := of_decide_eq_true z
      have z3 : j < ns.length := by
        rw [List.length_map] at z2
        omega
      exact ⟨_, rfl, _, rfl, a, _, _, _, rfl, rfl, hs, atI_nat (j := j) (v := .int ns[j]) (by rw [List.getElem?_map, List.getElem?_eq_getElem z3] <;> rfl), q _⟩
    · exact ⟨_, rfl, _, _, rfl, rfl, .inr ⟨by omega, by omega⟩, _, _, rfl, rfl, q _⟩
theorem okBox {f : Addr} {fd : FuncData} (F : Fun K "_law_box" "_law_box" sBox f fd) (zm : mg "max" = none) (zi : mg "int" = none) : FnOk P w K mg base CX0 1 f fd ["_law_cell_here"] spBoxR := by
  refine F.ok scBox (fun vs H Q E h => ?_) (fun cdv A outer s H vs Q E hr h => ?_)
  · obtain ⟨z, rfl, _⟩ := h
    rfl
  · obtain ⟨z, rfl, q⟩ := h
    refine ⟨_, (pss_one (ps_ret (pe_lst (pa_cons (pe_callB (call_max2 rfl) (by rfl) zm (by decide +kernel) (pa_cons pe_int (pa_cons (pe_op op_sub (pv 0) (pe_op op_pow pe_int pe_int)) pa_nil))) (pa_cons (pe_op op_modN (pe_callTy call_int1 (by rfl) zi (by decide +kernel) (pa_cons (pv 0) pa_nil)) pe_int) (pa_cons pe_int pa_nil)))))), ?_⟩
    refine ⟨_, rfl, _, _, rfl, rfl, ⟨by decide, by decide, by decide⟩, _, _, rfl, rfl, _, _, rfl, _, rfl, .inl ⟨_, rfl, _, _, rfl, rfl, (by dsimp only; omega), (by show 3 ≤ sizeLine; decide), fun p hp => ?_⟩⟩
    refine q p _ hp (same_new hp) ⟨_, _, _, upd_same, ?_, ?_, ?_, by omega, by omega⟩
    · split <;> omega
    · rw [fmod_pos (by decide)]
      exact Int.emod_nonneg _ (by decide)
    · rw [fmod_pos (by decide)]
      exact Int.emod_lt_of_pos _ (by decide)
theorem okTake {f : Addr} {fd : FuncData} (F : Fun K "_law_take" "_law_take" sTake f fd) (zi : mg "int" = none) : FnOk P w K mg base CX0 1 f fd ["_law_box_here", "_law_many"] spTakeR := by
  refine F.ok scTake (fun vs H Q E h => ?_) (fun cdv A outer s H vs Q E hr h => ?_)
  · obtain ⟨p, m, n, rfl, _⟩ := h
    rfl
  · obtain ⟨p, m, n, rfl, m0, m1, ⟨a, b, c, hp, a0, b0, b1, c0, c1⟩, hn, q⟩ := h
    refine ⟨_, (pss_cons (ps_if (pt_cmpR op_gt (pe_ix ix_list (pv 0) pe_int (fun _ _ => rfl)) pe_int (nomark _)) (pss_cons (ps_set (i := 2) scTake.nd rfl (Or.inl rfl) (pe_op op_modN (pe_callTy call_int1 (by rfl) zi (by decide +kernel) (pa_cons (pe_ix ix_list (pv 0) pe_int (fun _ _ => rfl)) pa_nil)) (pv 1)))
        (pss_cons (ps_asg (pe_op op_fdivW (pe_ix ix_list (pv 0) pe_int (fun _ _ => rfl)) (pv 1)) (pg_sub (pv 0) pe_int set_list))
        (pss_one (ps_ret (pv 2))))) pss_nil)
      (pss_cons (ps_asg (pe_op op_add (pe_ix ix_list (pv 0) pe_int (fun _ _ => rfl)) pe_int) (pg_sub (pv 0) pe_int set_list))
      (pss_cons (ps_set (i := 3) scTake.nd rfl (Or.inl rfl) (pe_op op_modN (pe_op op_pow (pe_callTy call_int1 (by rfl) zi (by decide +kernel) (pa_cons (pe_op op_add (pe_op op_add (pe_ix ix_list (pv 0) pe_int (fun _ _ => rfl)) (pe_op op_mul pe_int (pe_ix ix_list (pv 0) pe_int (fun _ _ => rfl)))) pe_int) pa_nil)) pe_int) pe_int))
      (pss_cons (ps_set (i := 3) scTake.nd rfl (Or.inl rfl) (pe_op op_modN (pe_op op_pow (pe_callTy call_int1 (by rfl) zi (by decide +kernel) (pa_cons (pe_op op_add (pv 3) (pe_op op_mul pe_int (pe_ix ix_list (pv 0) pe_int (fun _ _ => rfl)))) pa_nil)) pe_int) pe_int))
      (pss_one (ps_ret (pe_op op_modN (pe_callTy call_int1 (by rfl) zi (by decide +kernel) (pa_cons (pe_op op_fdivW (pv 3) pe_int) pa_nil)) (pv 1)))))))), ?_⟩
    refine ⟨_, rfl, p, _, 0, _, rfl, rfl, SqL.of hp, atI_nat (j := 0) rfl, _, _, rfl, rfl, _, rfl, ?_⟩
    refine ite2 (fun z => ?_) (fun z => ?_)
    · refine ⟨_, rfl, p, _, 0, _, rfl, rfl, SqL.of hp, atI_nat (j := 0) rfl, .inl ⟨_, rfl, _, rfl, _, _, rfl, rfl, (by show m ≠ 0; omega), ?_⟩⟩
      refine ⟨_, rfl, p, _, 0, _, rfl, rfl, SqL.of hp, atI_nat (j := 0) rfl, _, rfl, _, _, rfl, rfl, wide_div (b := 200) m0 (by omega) (by decide) (by decide), _, rfl, p, _, 0, 0, rfl, rfl, hp, rfl, ?_⟩
      refine ⟨_, rfl, ?_⟩
      show Q (.int (a.fmod m)) _
      rw [fmod_pos m0]
      exact q _ _ (Int.emod_nonneg _ (by omega)) (Int.emod_lt_of_pos _ m0) Grow.put ⟨_, b, c, upd_same, fdiv_nonneg' a0 m0, b0, b1, c0, by omega⟩
    · refine ⟨_, rfl, p, _, 2, _, rfl, rfl, SqL.of hp, atI_nat (j := 2) rfl, _, _, rfl, rfl, _, rfl, p, _, 2, 2, rfl, rfl, hp, rfl, ?_⟩
      have hp2 : (upd H p (.lst ([V.int a, V.int b, V.int c].set 2 (.int (c + 1))))) p = some (.lst [.int a, .int b, .int (c + 1)]) := upd_same
      refine ⟨_, rfl, p, _, 1, _, rfl, rfl, SqL.of hp2, atI_nat (j := 1) rfl, _, rfl, p, _, 2, _, rfl, rfl, SqL.of hp2, atI_nat (j := 2) rfl, _, _, rfl, rfl, .inl ⟨by omega, by omega⟩, _, _, rfl, rfl, _, _, rfl, rfl, .inl ⟨_, rfl, _, _, rfl, rfl, ⟨by decide, by decide, by omega⟩, _, _, rfl, rfl, (by dsimp only; omega), ?_⟩⟩
      generalize ((b + _ * (c + 1) + _) ^ _ : Int) = y1
      have y2 : 0 ≤ y1.fmod 2147483647 ∧ y1.fmod 2147483647 < 2147483647 := by
        rw [fmod_pos (by decide)]
        exact ⟨Int.emod_nonneg _ (by decide), Int.emod_lt_of_pos _ (by decide)⟩
      refine ⟨_, rfl, _, rfl, p, _, 2, _, rfl, rfl, SqL.of hp2, atI_nat (j := 2) rfl, _, _, rfl, rfl, .inl ⟨by omega, by omega⟩, _, _, rfl, rfl, .inl ⟨_, rfl, _, _, rfl, rfl, ⟨by decide, by decide, by omega⟩, _, _, rfl, rfl, (by dsimp only; omega), ?_⟩⟩
      generalize ((y1.fmod 2147483647 + _ * (c + 1)) ^ _ : Int) = y4
      refine ⟨_, rfl, _, _, rfl, rfl, ⟨by decide, by decide +kernel⟩, .inl ⟨_, rfl, _, rfl, _, _, rfl, rfl, (by show m ≠ 0; omega), ?_⟩⟩
      show Q (.int (Int.fmod _ m)) _
      rw [fmod_pos m0]
      exact q _ _ (Int.emod_nonneg _ (by omega)) (Int.emod_lt_of_pos _ m0) Grow.put ⟨a, b, c + 1, hp2, a0, b0, b1, by omega, by omega⟩
theorem okPrimeL {f : Addr} {fd : FuncData} (F : Fun K "_law_prime" "_law_prime" sPrimeL f fd) (GT : Own P w K mg base CX0 1 "_law_take" ["_law_box_here", "_law_many"] [] spTakeR) : FnOk P w K mg base CX0 2 f fd ["_law_box_here"] spPrimeR := by
  refine F.ok scPrimeL (fun vs H Q E h => ?_) (fun cdv A outer s H vs Q E hr h => ?_)
  · obtain ⟨p, n, rfl, _⟩ := h
    rfl
  · obtain ⟨p, n, rfl, bx, hn, q⟩ := h
    refine ⟨_, (pss_one (ps_ret (pe_ix ix_list (pe_lst (pa_cons pe_int (pa_cons pe_int (pa_cons pe_int (pa_cons pe_int (pa_cons pe_int (pa_cons pe_int (pa_cons pe_int (pa_cons pe_int pa_nil))))))))) (pe_own GT hr pass0 (pa_cons (pv 0) (pa_cons pe_int pa_nil))) (fun _ _ => rfl)))), ?_⟩
    refine ⟨by show 8 ≤ sizeLine; decide, fun l hl => ?_⟩
    have nl : l ≠ p := (bx.ne hl).symm
    refine ⟨_, rfl, p, 8, n, rfl, by decide, by decide, bx.keep (same_new hl), by omega, fun r H' r0 r1 G B => ?_⟩
    obtain ⟨i, rfl⟩ : ∃ i : Nat, r = (i : Int) := ⟨r.toNat, by omega⟩
    have hi : i < ([2, 3, 5, 7, 11, 13, 2, 3] : List Int).length := by show i < 8; omega
    have mem : ∀ z ∈ ([2, 3, 5, 7, 11, 13, 2, 3] : List Int), z ∈ primesL := by decide
    refine ⟨l, ([2, 3, 5, 7, 11, 13, 2, 3] : List Int).map V.int, _, _, rfl, rfl, SqL.of (G l _ nl upd_same), atI_nat (v := .int (([2, 3, 5, 7, 11, 13, 2, 3] : List Int)[i])) (by rw [List.getElem?_map, List.getElem?_eq_getElem hi] <;> rfl), q _ H' (mem _ (List.getElem_mem hi)) ((Grow.of (same_new hl)).trans G) B⟩
theorem okTurn {f : Addr} {fd : FuncData} (F : Fun K "_law_turn" "_law_turn" sTurn f fd) (zr : mg "range" = none) (zi : mg "int" = none) : FnOk P w K mg base CX0 1 f fd ["_law_p", "_law_item"] spTurn := by
  refine F.ok scTurn (fun vs H Q E h => ?_) (fun cdv A outer s H vs Q E hr h => ?_)
  · obtain ⟨p, x, rfl, _⟩ := h
    rfl
  · obtain ⟨p, n, rfl, hp, nz, hn, k1⟩ := h
    have pp := prime_pos hp
    refine ⟨_, (pss_one (ps_ret (pe_ix ix_list (pe_lc (own := [("_law_k", 2)]) (g := gName 2) rfl scTurn.nd (pi_range2 rfl zr (pa_cons pe_int (pa_cons (pv 0) pa_nil))) (blkOk_by (N := NTurn) (sc := defScope sTurn) (by decide +kernel)) (fun _ _ _ _ _ => (pg_name (i := 2) scTurn.nd rfl (Or.inl rfl)))
      (fun _ _ _ _ _ => (pts_one (pt_cmpR op_eq (pe_op op_modN (pe_callTy call_int1 (by rfl) zi (by decide +kernel) (pa_cons (pe_op op_mul (pv 1) (pv 2)) pa_nil)) (pv 0)) pe_int (nomark _)))) (fun _ _ _ _ _ => (pv 2))) pe_int (fun _ _ => rfl)))), ?_⟩
    refine ⟨_, rfl, 1, p, rfl, ⟨by omega, by omega, by omega, by omega⟩, fun D hD => ?_⟩
    refine lc_range (lo := 1) (n := (p - 1).toNat) (fun i H' => ∃ acc : List Int, H' = upd H D (.lst (acc.map V.int)) ∧ acc.length ≤ i ∧ (∀ r ∈ acc, 0 < r ∧ r < p ∧ (r * n) % p = 1) ∧ (∀ j : Nat, j < i → ((1 + (j : Int)) * n) % p = 1 → acc ≠ []))
      ⟨[], rfl, Nat.le_refl _, fun r hr => (nomatch hr), fun j hj => absurd hj (Nat.not_lt_zero _)⟩ ?_ ?_
    · rintro i H' hi ⟨acc, rfl, hl, hr1, hr2⟩
      have hi2 : (i : Int) < p - 1 := by omega
      refine ⟨rfl, _, rfl, _, rfl, _, _, rfl, rfl, .inr ⟨by omega, by omega⟩, .inl ⟨_, rfl, _, rfl, _, _, rfl, rfl, (by show p ≠ 0; omega), rfl, _, rfl, ?_⟩⟩
      rw [dec_intR, fmod_pos (by omega), Int.mul_comm]
      refine ite2 (fun z => ⟨_, rfl, _, upd_same, ?_, ?_⟩) (fun z => ?_)
      · rw [List.length_map]
        exact Nat.lt_of_le_of_lt (Nat.le_trans hl (by omega : i ≤ 100)) (by decide)
      · refine ⟨acc ++ [1 + (i : Int)], ?_, ?_, ?_, ?_⟩
        · rw [upd_upd, List.map_append] <;> rfl
        · rw [List.length_append, List.length_singleton]
          omega
        · intro r hr
          rcases List.mem_append.mp hr with h | h
          · exact hr1 r h
          · have e := List.mem_singleton.mp h
            subst e
            exact ⟨by omega, by omega, of_decide_eq_true z⟩
        · intro j _ _ h
          exact absurd h (by simp)
      · refine ⟨acc, rfl, by omega, hr1, fun j hj e => ?_⟩
        by_cases h : j = i
        · subst h
          exact absurd (decide_eq_true e) z
        · exact hr2 j (by omega) e
    · rintro H' ⟨acc, rfl, hl, hr1, hr2⟩
      obtain ⟨j, j1, j2⟩ := has_inverse hp nz
      have ne := hr2 j (by omega) j2
      cases acc with
      | nil => exact absurd rfl ne
      | cons r acc =>
        obtain ⟨a, b, c⟩ := hr1 r List.mem_cons_self
        exact ⟨D, _, 0, _, rfl, rfl, SqL.of upd_same, atI_nat (j := 0) rfl, k1 r _ (same_new hD) a b (by rw [Int.mul_comm]; exact c)⟩
abbrev tLessC (K : PySem.W.Frag) : TE := tOp (rI (fun _ j => j ≠ 0) fun i j => .int (i.fmod j)) (tCB (fun xs H Q => (∃ i, xs = [.int i] ∧ Q (.int i) H) ∨ ∃ k, xs = [.bl k] ∧ Q (.int (if k then 1 else 0)) H) (tCons (tOp (rI0 fun i j => .int (i - j)) (tOp (rIxL K) (tVar 4) (tVar 5)) (tOp (rI CMul fun i j => .int (i * j)) (tOp (rIxL K) (tVar 4) (tVar 3)) (tOp (rIx K) (tVar 2) (tVar 5)))) tNil)) (tVar 0)
abbrev tLenK (K : PySem.W.Frag) (i : Nat) : TE := tCB (fun xs H Q => ∃ p ys, xs = [.ref p] ∧ (SqL K H p ys ∨ SqT K H p ys) ∧ Q (.int ys.length) H) (tCons (tVar i) tNil)
theorem okLess {f : Addr} {fd : FuncData} (F : Fun K "_law_less" "_law_less" sLess f fd) (zr : mg "range" = none) (zi : mg "int" = none) (zl : mg "len" = none) : FnOk P w K mg base CX0 1 f fd ["_law_p", "_law_rows", "_law_head", "_law_spot"] spLess := by
  refine F.ok scLess (fun vs H Q E h => ?_) (fun cdv A outer s H vs Q E hr h => ?_)
  · obtain ⟨p, va, vb, rs, hd, db, st, rfl, _⟩ := h
    rfl
  · obtain ⟨p, va, vb, rs, hd, db, st, rfl, hp, av, bv, eb, l1, l2, hs, hl, sm, q⟩ := h
    have pp := prime_pos hp
    refine ⟨_, (pss_one (ps_ret (pe_lc (own := [("_law_row", 4)]) (g := gName 4) (tt := tYes) (te := tLc (iRng1 (tCons (tLenK K 2) tNil)) (gName 5) tYes (tLessC K) [5]) rfl scLess.nd (pi_seq (pv 1)) (blkOk_by (N := NLess) (sc := defScope sLess) (by decide +kernel)) (fun _ _ _ _ _ => (pg_name (i := 4) scLess.nd rfl (Or.inr rfl))) (fun _ _ _ _ _ => pts_nil)
      (fun _ _ _ _ _ => (pe_lc (own := [("_law_k", 5)]) (g := gName 5) (tt := tYes) (te := tLessC K) rfl scLess.nd (pi_range1 (by rfl) zr (pa_cons (pe_callB call_len_seq (by rfl) zl (by decide +kernel) (pa_cons (pv 2) pa_nil)) pa_nil)) (blkOk_by (N := NLess) (by rfl)) (fun _ _ _ _ _ => (pg_name (i := 5) scLess.nd rfl (Or.inl rfl))) (fun _ _ _ _ _ => pts_nil)
        (fun _ _ _ _ _ => (pe_op op_modN (pe_callTy call_int1 (by rfl) zi (by decide +kernel) (pa_cons (pe_op op_sub (pe_ix ix_list (pv 4) (pv 5) (fun _ _ => rfl)) (pe_op op_mul (pe_ix ix_list (pv 4) (pv 3) (fun _ _ => rfl)) (pe_ix ix_seq (pv 2) (pv 5) (fun _ _ => rfl)))) pa_nil)) (pv 0)))))))), ?_⟩
    cases av with
    | lst ea ha =>
      rename_i a xs
      obtain ⟨kb, b, rfl, hsb⟩ := row_seq bv eb
      · skip
        have ln := anyL_len ha
        rw [List.length_map] at ln
        refine ⟨_, rfl, a, true, xs, rfl, SqL.of ea, fun D hD => ?_⟩
        refine lc_same (walk_seq (k := true)) (by omega) hD (fun H' s' => SqL.of (s' _ _ ea)) (fun i => rowD (lessR p hd st (rs[i]?.getD []))) ?_ ?_
        · rintro i x H1 hi hx s1 ⟨o, hd1⟩
          refine ⟨rfl, fun k' hk => ?_⟩
          obtain ⟨dx, hdx, ax⟩ := anyL_at ha hx
          rw [List.getElem?_map] at hdx
          obtain ⟨r, hr1, rfl⟩ : ∃ r, rs[i]? = some r ∧ rowD r = dx := by
            cases e : rs[i]? with
            | none => rw [e] at hdx; cases hdx
            | some r =>
              rw [e] at hdx
              exact ⟨r, rfl, Option.some.inj hdx⟩
          have hrm := List.mem_of_getElem? hr1
          have rl := hl r hrm
          rw [hr1] at hk
          cases ax with
          | lst er har =>
            rename_i c zs
            have ezs := anyL_ints har
            subst ezs
            refine ⟨_, rfl, b, _, rfl, sqb_or (hsb s1 K), _, rfl, by omega, by rw [List.length_map]; omega, fun D2 hD2 => ?_⟩
            have hdl : ((hd.map V.int).length : Int).toNat = hd.length := by rw [List.length_map] <;> rfl
            refine lc_same (n := ((hd.map V.int).length : Int).toNat) walk_rng (by omega) hD2 (fun _ _ => trivial) (fun k => .int ((cl r k - cl r st * cl hd k) % p)) ?_ ?_
            · rintro k x H2 hk2 rfl s2 _
              refine ⟨rfl, fun k4 hk4 => ?_⟩
              have s12 := s1.trans s2
              have hk3 : k < hd.length := by omega
              have hkr : k < r.length := by omega
              have hsr : st < r.length := by omega
              have at1 : (r.map V.int)[k]? = some (.int (cl r k)) := by
                unfold cl
                rw [List.getElem?_map, List.getElem?_eq_getElem hkr] <;> rfl
              have at2 : (r.map V.int)[st]? = some (.int (cl r st)) := by
                unfold cl
                rw [List.getElem?_map, List.getElem?_eq_getElem hsr] <;> rfl
              have at3 : (hd.map V.int)[k]? = some (.int (cl hd k)) := by
                unfold cl
                rw [List.getElem?_map, List.getElem?_eq_getElem hk3] <;> rfl
              have b3 : 0 ≤ cl hd k ∧ cl hd k < 13 := by
                unfold cl
                rw [List.getElem?_eq_getElem hk3]
                exact sm hd List.mem_cons_self _ (List.getElem_mem hk3)
              refine ⟨_, rfl, _, rfl, c, _, (k : Int), _, rfl, rfl, SqL.of (s12 _ _ er), atI_nat at1, _, rfl, _, rfl, c, _, (st : Int), _, rfl, rfl, SqL.of (s12 _ _ er), atI_nat at2, _, rfl, _, rfl, ix_rowg (hsb s12 K) hk3 ?_⟩
              refine ⟨_, _, rfl, rfl, .inr ⟨by omega, by omega⟩, _, _, rfl, rfl, .inl ⟨_, rfl, _, rfl, _, p, rfl, rfl, (by show p ≠ 0; omega), ?_⟩⟩
              show k4 (.int ((cl r k - cl r st * cl hd k).fmod p)) H2
              rw [fmod_pos (by omega)]
              exact hk4 _ _ (fun _ _ z => z) (.int _)
            · intro H2 acc s2 ha2 hal2
              refine hk (.ref D2) H2 s2 (.lst (xs := acc) ?_ ?_)
              · rw [del_ne (ne_of_none hd1 hD2).symm]
                exact ha2
              · have e2 : acc = (lessR p hd st r).map V.int := anyL_ints (H := del H2 D2) (by
                  unfold lessR
                  rw [List.map_map, ← hdl]
                  exact hal2)
                rw [e2]
                exact ints_anyL _
        · intro H1 acc s1 ha1 hal1
          refine q D acc H1 hD s1 ha1 ?_
          have e := map_get (fun r => rowD (lessR p hd st r)) [] rs
          rw [← ln] at e
          rw [e] at hal1
          rw [List.map_map]
          exact hal1
end
end K41
set_option Elab.async false
set_option linter.all false
set_option maxRecDepth 100000
set_option maxHeartbeats 8000000
namespace K41
open PySem PySem.Spec PyProof.Rows L2 Rw
abbrev sBaseL : Stmt := top 57
abbrev sRankL : Stmt := top 58
abbrev NBaseL : List Str := ["_law_p", "_law_rows", "_law_left", "_law_found", "_law_spot", "_law_heads", "_law_head", "_law_turn_here", "_law_row", "_law_k", "_law_item"]
theorem scBaseL : FnScope NBaseL ["_law_p", "_law_rows"] (defScope sBaseL) := ⟨rfl, rfl, rfl, by decide +kernel, rfl, by decide +kernel, by decide +kernel⟩
abbrev NRankL : List Str := ["_law_p", "_law_rows"]
theorem scRankL : FnScope NRankL ["_law_p", "_law_rows"] (defScope sRankL) := ⟨rfl, rfl, rfl, by decide +kernel, rfl, by decide +kernel, by decide +kernel⟩
abbrev tMod10 : TE := tOp rModN (tCB rInt1 (tCons (tVar 10) tNil)) (tVar 0)
abbrev tMul10 : TE := tOp rModN (tCB rInt1 (tCons (tOp (rI CMul fun i j => .int (i * j)) (tVar 10) (tVar 7)) tNil)) (tVar 0)
abbrev tHd (K : PySem.W.Frag) : TE := tOp rNe (tOp (rIxL K) (tOp (rIxL K) (tVar 2) (tVar 9)) (tVar 4)) (tC (.int 0))
/-- where the law's elimination stands -/
def LF (p : Int) (W : Nat) (rows : List (List Int)) (H H' : Hp) (l g : Addr) (i : Nat) : Prop := ∃ acc bcc left found, Same H H' ∧ H l = none ∧ H g = none ∧ l ≠ g ∧ H' l = some (.lst acc) ∧ AnyL H' acc (left.map rowD) ∧ H' g = some (.lst bcc) ∧ AnyL H' bcc (found.map rowD) ∧ Elim p W rows i left found ∧ left.length + found.length ≤ 90
theorem ixn2 {n j : Nat} (hj : j < n) : seqIndex? ((j : Nat) : Int) n = some j := by
  have h : ixN n (j : Int) = some j := by
    unfold ixN
    rw [if_pos (by omega), if_pos (by omega)]
    simp
  exact (ixN_seq h).1
section
variable {P : Program} {w : World} {K : PySem.W.Frag} {mg : Str → Option Value} {base : Heap}
theorem okBaseL {f : Addr} {fd : FuncData} (F : Fun K "_law_base" "_law_base" sBaseL f fd) (zr : mg "range" = none) (zl : mg "len" = none) (zi : mg "int" = none) (zt : mg "tuple" = none) (GT : Own P w K mg base CX0 1 "_law_turn" ["_law_p", "_law_item"] [] spTurn) (GL : Own P w K mg base CX0 1 "_law_less" ["_law_p", "_law_rows", "_law_head", "_law_spot"] [] spLess) :
    FnOk P w K mg base CX0 2 f fd ["_law_p", "_law_rows"] spBaseL := by
  refine F.ok scBaseL (fun vs H Q E h => ?_) (fun cdv A outer s H vs Q E hr h => ?_)
  · obtain ⟨p, v, d, rows, W, rfl, _⟩ := h
    rfl
  · obtain ⟨p, v, d, rows, W, rfl, hp, av, ed, ⟨ds0, rfl⟩, l90, w12, hrow, q⟩ := h
    have pp := prime_pos hp
    refine ⟨_, (pss_cons (ps_asg (pe_tup (pa_cons (pe_lc (own := [("_law_row", 8)]) (g := gName 8) (tt := tYes) (te := tLc (iSeq K (tVar 8)) (gName 10) tYes tMod10 [10]) rfl scBaseL.nd (pi_seq (pv 1)) (blkOk_by (N := NBaseL) (sc := defScope sBaseL) (by decide +kernel)) (fun _ _ _ _ _ => (pg_name (i := 8) scBaseL.nd rfl (Or.inl rfl))) (fun _ _ _ _ _ => pts_nil) (fun _ _ _ _ _ => (pe_lc (own := [("_law_item", 10)]) (g := gName 10) (tt := tYes) (te := tMod10) rfl scBaseL.nd (pi_seq (pv 8)) (blkOk_by (N := NBaseL) (by rfl)) (fun _ _ _ _ _ => (pg_name (i := 10) scBaseL.nd rfl (Or.inl rfl))) (fun _ _ _ _ _ => pts_nil) (fun _ _ _ _ _ => (pe_op op_modN (pe_callTy call_int1 (by rfl) zi (by decide +kernel) (pa_cons (pv 10) pa_nil)) (pv 0)))))) (pa_cons (pe_lst pa_nil) pa_nil))) (pg_tup rfl (pgs_cons (pg_name (i := 2) scBaseL.nd rfl (Or.inr rfl)) (pgs_cons (pg_name (i := 3) scBaseL.nd rfl (Or.inl rfl)) pgs_nil))))
      (pss_cons (ps_for PassesOwn.never rfl (pi_range1 rfl zr (pa_cons (pe_ifExp (pt_cmpR (op_neD (hr.units)) (pv 2) (pe_lst pa_nil) (nomark _)) (pe_callB call_len_seq (by rfl) zl boot_len (pa_cons (pe_ix ix_list (pv 2) pe_int (fun _ _ => rfl)) pa_nil)) pe_int) pa_nil)) (pg_name (i := 4) scBaseL.nd rfl (Or.inr rfl)) (pss_cons (ps_setLc (i := 5) (own := [("_law_k", 9)]) (g := gName 9) (tt := tTest (tHd K)) rfl scBaseL.nd rfl rfl (sw_true rfl rfl rfl (by decide +kernel)) (pi_range1 rfl zr (pa_cons (pe_callB call_len_seq (by rfl) zl boot_len (pa_cons (pv 2) pa_nil)) pa_nil)) (blkOk_by (N := NBaseL) (sc := defScope sBaseL) (by decide +kernel)) (fun _ _ _ _ _ => (pg_name (i := 9) scBaseL.nd rfl (Or.inl rfl))) (fun _ _ _ _ _ => (pts_one (pt_cmpR op_ne (pe_ix ix_list (pe_ix ix_list (pv 2) (pv 9) (fun _ _ => rfl)) (pv 4) (fun _ _ => rfl)) pe_int (nomark _)))) (fun _ _ _ _ _ => (pv 9)))
        (pss_one (ps_if (pt_cmpR (op_neD (hr.units)) (pv 5) (pe_lst pa_nil) (nomark _)) (pss_cons (ps_set (i := 6) scBaseL.nd rfl (Or.inl rfl) (pe_bm PySem.F.plainAttrs_list PySem.F.slot_list_pop PySem.F.type_list_pop mt_popAt (pv 2) (pa_cons (pe_ix ix_list (pv 5) pe_int (fun _ _ => rfl)) pa_nil)))
          (pss_cons (ps_set (i := 7) scBaseL.nd rfl (Or.inr rfl) (pe_own GT (hr.mono (by decide)) pass0 (pa_cons (pv 0) (pa_cons (pe_ix ix_list (pv 6) (pv 4) (fun _ _ => rfl)) pa_nil))))
          (pss_cons (ps_setLc (i := 6) (own := [("_law_item", 10)]) (g := gName 10) (tt := tYes) (te := tMul10) rfl scBaseL.nd rfl rfl (sw_true rfl rfl rfl (by decide +kernel)) (pi_seq (pv 6)) (blkOk_by (N := NBaseL) (sc := defScope sBaseL) (by decide +kernel)) (fun _ _ _ _ _ => (pg_name (i := 10) scBaseL.nd rfl (Or.inl rfl))) (fun _ _ _ _ _ => pts_nil) (fun _ _ _ _ _ => (pe_op op_modN (pe_callTy call_int1 (by rfl) zi (by decide +kernel) (pa_cons (pe_op op_mul (pv 10) (pv 7)) pa_nil)) (pv 0))))
          (pss_one (ps_asg (pe_tup (pa_cons (pe_own GL (hr.mono (by decide)) pass0 (pa_cons (pv 0) (pa_cons (pv 2) (pa_cons (pv 6) (pa_cons (pv 4) pa_nil))))) (pa_cons (pe_op op_cat (pe_own GL (hr.mono (by decide)) pass0 (pa_cons (pv 0) (pa_cons (pv 3) (pa_cons (pv 6) (pa_cons (pv 4) pa_nil))))) (pe_lst (pa_cons (pv 6) pa_nil))) pa_nil))) (pg_tup rfl (pgs_cons (pg_name (i := 2) scBaseL.nd rfl (Or.inr rfl)) (pgs_cons (pg_name (i := 3) scBaseL.nd rfl (Or.inl rfl)) pgs_nil)))))))) pss_nil))))
      (pss_one (ps_ret (pe_lc (own := [("_law_row", 8)]) (g := gName 8) (tt := tYes) (te := tCB (rTupOf K) (tCons (tVar 8) tNil)) rfl scBaseL.nd (pi_seq (pv 3)) (blkOk_by (N := NBaseL) (sc := defScope sBaseL) (by decide +kernel)) (fun _ _ _ _ _ => (pg_name (i := 8) scBaseL.nd rfl (Or.inl rfl))) (fun _ _ _ _ _ => pts_nil) (fun _ _ _ _ _ => (pe_callTy call_tuple_of (by rfl) zt (by decide +kernel) (pa_cons (pv 8) pa_nil)))))))), ?_⟩
    obtain ⟨k, a, xs, ds, rfl, hs, al, lk⟩ := vecs_seq av ed
    have lx := (anyL_len al).trans lk.len
    refine ⟨_, rfl, a, k, xs, rfl, hs (Same.refl _) K, fun D hD => ?_⟩
    refine lc_same (walk_seq (k := k)) (by omega) hD (fun H' s' => hs s' K) (fun i => rowD ((rows[i]?.getD []).map fun x => x % p)) ?_ ?_
    · rintro i x H1 hi hx s1 ⟨o, hd1⟩
      refine ⟨rfl, fun k' hk => ?_⟩
      obtain ⟨dx, hdx, ax⟩ := anyL_at al hx
      obtain ⟨r, hr2, er⟩ := lk.at_ i dx hdx
      rw [hr2] at hk
      obtain ⟨lr, sm⟩ := hrow r (List.mem_of_getElem? hr2)
      obtain ⟨kr, c, rfl, hc⟩ := row_seq ax er
      refine ⟨_, rfl, c, kr, r.map V.int, rfl, hc s1 K, fun D2 hD2 => ?_⟩
      refine lc_same (n := r.length) (by rw [← List.length_map (f := V.int) (as := r)]; exact walk_seq (k := kr)) (by omega) hD2 (fun H' s' => hc (s1.trans s') K) (fun j => .int (cl r j % p)) ?_ ?_
      · rintro j x H2 hj hx2 s2 _
        refine ⟨rfl, fun k4 hk4 => ?_⟩
        have ex := int_cl hx2 hj
        subst ex
        have b := sm.sm (cl r j) (List.mem_of_getElem? (at_cl hj))
        refine ⟨_, rfl, .inl ⟨_, rfl, _, rfl, _, p, rfl, rfl, (by show p ≠ 0; omega), ?_⟩⟩
        show k4 (.int ((cl r j).fmod p)) H2
        rw [fmod_pos (by omega)]
        exact hk4 _ _ (fun _ _ z => z) (.int _)
      · intro H2 acc s2 ha2 hal2
        refine hk (.ref D2) H2 s2 (.lst (xs := acc) ?_ ?_)
        · rw [del_ne (ne_of_none hd1 hD2).symm]
          exact ha2
        · have e3 : (List.range r.length).map (fun j => PyData.int (cl r j % p)) = (r.map fun x => x % p).map PyData.int := by
            rw [List.map_map]
            exact map_get (fun x => PyData.int (x % p)) 0 r
          rw [e3] at hal2
          rw [anyL_ints hal2]
          exact ints_anyL _
    · intro H1 acc s1 ha1 hal1
      have e3 : (List.range xs.length).map (fun i => rowD ((rows[i]?.getD []).map fun x => x % p)) = (rows.map fun r => r.map fun x => x % p).map rowD := by
        rw [List.map_map, lx]
        exact map_get (fun r => rowD (r.map fun x => x % p)) [] rows
      rw [e3] at hal1
      refine ⟨by show 0 ≤ sizeLine; decide, fun F0 hF => ?_⟩
      have DF : D ≠ F0 := ne_of_none ha1 hF
      have k2 := same_new (o := .lst []) hF
      have eF := upd_same (H := H1) (a := F0) (o := .lst [])
      have al2 : AnyL (upd H1 F0 (.lst [])) acc ((rows.map fun r => r.map fun x => x % p).map rowD) := anyL_keep k2 (anyL_keep (same_del (p := D)) hal1)
      refine ⟨by show 2 ≤ sizeLine; decide, fun t ht => ?_⟩
      refine ⟨t, _, rfl, SqT.of upd_same, rfl, _, _, rfl, _, _, rfl, rfl, ?_⟩
      have k3 := same_new (o := .tup [.ref D, .ref F0]) ht
      have eF3 := k3 _ _ eF
      have eD3 := k3 _ _ (k2 _ _ ha1)
      have al3 := anyL_keep k3 al2
      have s3 := s1.trans (k2.trans k3)
      have hF0 : H F0 = none := s1.free hF
      clear eF al2 k3 ht k2 hal1
      generalize upd (upd H1 F0 (.lst [])) t (.tup [.ref D, .ref F0]) = H3 at eF3 eD3 al3 s3 ⊢
      refine ⟨_, rfl, by show 0 ≤ sizeLine; decide, fun l0 hl0 => ?_⟩
      have k4 := same_new (o := .lst []) hl0
      have eF4 := k4 _ _ eF3
      have eD4 := k4 _ _ eD3
      have al4 := anyL_keep k4 al3
      have s4 := s3.trans k4
      refine ne_two (d := rowsD (rows.map fun r => r.map fun x => x % p)) (e := .list []) (.lst eD4 al4) (.lst upd_same .nil) (rowsD_ok _).1 rfl (rowsD_ok _).2 (by decide) ?_
      clear eF3 eD3 al3 s3 k4
      generalize upd H3 l0 (.lst []) = H4 at eF4 eD4 al4 s4 ⊢
      refine ⟨_, rfl, ?_⟩
      unfold rowsD
      rw [eqv_nilL]
      by_cases hrows : rows = []
      · have hb : (!decide ((rows.map fun r => r.map fun x => x % p).map rowD = [])) = false := by
          rw [hrows] <;> rfl
        rw [hb]
        refine iteF ?_
        refine ⟨_, rfl, by decide, by decide, ?_⟩
        refine for_range (lo := 0) (n := 0) (fun i σ' H' => i = 0 ∧ σ' = [some (.int p), some (.ref a), some (.ref D), some (.ref F0), none, none, none, none, none, none, none] ∧ H' = H4) ⟨rfl, rfl, rfl⟩ (fun i _ _ hi => absurd hi (Nat.not_lt_zero _)) ?_
        rintro σ' H' ⟨_, rfl, rfl⟩
        refine ⟨_, rfl, F0, true, _, rfl, SqL.of eF4, fun D5 hD5 => ?_⟩
        refine lc_same (walk_seq (k := true)) (by decide) hD5 (fun H' s' => SqL.of (s' _ _ eF4)) (fun i => .int 0) (fun i x H1 hi => absurd hi (Nat.not_lt_zero _)) ?_
        intro H6 ac s6 ha6 al6
        subst hrows
        exact q D5 ac [] H6 (s4.free hD5) (s4.trans s6) ha6 al6 ⟨fun _ z => (nomatch z), ⟨fun _ => 0, ⟨fun i hi => absurd hi (Nat.not_lt_zero _), fun i j _ hj => absurd hj (Nat.not_lt_zero _), fun i hi => absurd hi (Nat.not_lt_zero _), fun i j hi => absurd hi (Nat.not_lt_zero _), fun i c hi => absurd hi (Nat.not_lt_zero _), fun i c hi => absurd hi (Nat.not_lt_zero _)⟩⟩, fun _ z => (nomatch z), fun _ z => (nomatch z)⟩
      · obtain ⟨r0, rows0, hrows2⟩ := List.exists_cons_of_ne_nil hrows
        have hb : (!decide ((rows.map fun r => r.map fun x => x % p).map rowD = [])) = true := by
          rw [hrows2] <;> rfl
        rw [hb]
        have nW : ∀ r, r ∈ rows → r.length = W := fun r hr => (hrow r hr).1
        have el0 := Elim.start (rows := rows) (by omega : 1 < p) nW
        have len0 : (rows.map fun r => r.map fun x => x % p).length ≤ 90 := by rw [List.length_map]; exact l90
        have z0 : ∃ c, acc[0]? = some (.ref c) ∧ H4 c = some (.lst ((r0.map fun x => x % p).map V.int)) := by
          rw [hrows2] at al4
          cases al4 with
          | cons a1 _ =>
            obtain ⟨c, rfl, ec⟩ := rowD_any a1
            exact ⟨c, rfl, ec⟩
        generalize (rows.map fun r => r.map fun x => x % p) = left0 at al4 el0 len0
        refine iteT ?_
        obtain ⟨c0, hc0, ec0⟩ := z0
        refine ⟨_, rfl, D, acc, 0, _, rfl, rfl, SqL.of eD4, atI_nat (j := 0) hc0, c0, _, rfl, .inl (SqL.of ec0), ((W : Nat) : Int), ?_, by omega, by omega, ?_⟩
        · rw [List.length_map, List.length_map, nW r0 (by rw [hrows2]; exact List.mem_cons_self)]
        refine for_range (lo := 0) (n := W) (fun i σ' H' => ∃ l g y4 y5 y6 y7, σ' = [some (.int p), some (.ref a), some (.ref l), some (.ref g), y4, y5, y6, y7, none, none, none] ∧ LF p W rows H H' l g i) ⟨_, _, _, _, _, _, rfl, ⟨acc, [], left0, [], s4, hD, hF0, DF, eD4, al4, eF4, .nil, el0, by simpa using len0⟩⟩ ?_ ?_
        · rintro i σ' H5 hi ⟨l, g, y4, y5, y6, y7, rfl, ⟨ac, bc, left, found, s5, hl, hg, nlg, e1, a1, e2, a2, el, ln⟩⟩
          rw [Int.zero_add]
          have la := (anyL_len a1).trans (List.length_map _)
          have lb := (anyL_len a2).trans (List.length_map _)
          have rlen : ∀ r, r ∈ left → r.length = W := fun r hr => el.len r (List.mem_append_left _ hr)
          have flen : ∀ r, r ∈ found → r.length = W := fun r hr => el.len r (List.mem_append_right _ hr)
          have rat : ∀ (j : Nat) (r : List Int), left[j]? = some r → ∃ c, ac[j]? = some (.ref c) ∧ H5 c = some (.lst (r.map V.int)) := fun j r hj => by
            have hj2 := (List.getElem?_eq_some_iff.mp hj).1
            obtain ⟨d, hd, ad⟩ := anyL_at a1 (i := j) (List.getElem?_eq_getElem (by omega))
            rw [List.getElem?_map, hj] at hd
            cases Option.some.inj hd
            obtain ⟨c, hc, ec⟩ := rowD_any ad
            exact ⟨c, by rw [List.getElem?_eq_getElem (by omega), hc], ec⟩
          refine ⟨_, rfl, l, ac, rfl, .inl (SqL.of e1), _, rfl, by omega, by omega, fun D5 hD5 => ?_⟩
          have k5 := same_new (o := .lst []) hD5
          refine lc_range (lo := 0) (n := ac.length) (fun j H' => ∃ ks : List Nat, H' = upd H5 D5 (.lst ((ks.map fun k => ((k : Nat) : Int)).map V.int)) ∧ ks.length ≤ j ∧ (∀ k, k ∈ ks → ∃ r, left[k]? = some r ∧ cl r i ≠ 0) ∧ (ks = [] → ∀ (m : Nat) r, m < j → left[m]? = some r → cl r i = 0)) ⟨[], rfl, Nat.le_refl _, fun k z => (nomatch z), fun _ m r z => absurd z (Nat.not_lt_zero _)⟩ ?_ ?_
          · rintro j H6 hj ⟨ks, rfl, hks, h1, h2⟩
            rw [Int.zero_add]
            have hj2 : left[j]? = some left[j] := List.getElem?_eq_getElem (by omega)
            obtain ⟨c, hc, ec⟩ := rat j _ hj2
            have lr := rlen left[j] (List.getElem_mem (by omega))
            have k6 := same_new (o := .lst ((ks.map fun k => ((k : Nat) : Int)).map V.int)) hD5
            refine ⟨rfl, _, rfl, _, rfl, l, _, _, _, rfl, rfl, SqL.of (k6 _ _ e1), atI_nat hc, _, rfl, c, _, _, .int (cl left[j] i), rfl, rfl, SqL.of (k6 _ _ ec), atI_nat (by rw [List.getElem?_map, at_cl (by omega)] <;> rfl), rfl, _, rfl, ?_⟩
            by_cases z : cl left[j] i = 0
            · rw [show (!decide (V.int (cl left[j] i) = V.int 0)) = false by rw [z, decide_eq_true rfl] <;> rfl]
              refine iteF ⟨ks, rfl, by omega, h1, fun e m r hm er => ?_⟩
              by_cases y : m = j
              · subst y
                rw [hj2] at er
                cases er
                exact z
              · exact h2 e m r (by omega) er
            · rw [show (!decide (V.int (cl left[j] i) = V.int 0)) = true by rw [decide_eq_false (fun y => z (V.int.inj y))] <;> rfl]
              refine iteT ⟨_, rfl, _, upd_same, ?_, ks ++ [j], ?_, ?_, ?_, ?_⟩
              · rw [List.length_map, List.length_map]
                exact Nat.lt_of_le_of_lt (by omega : ks.length ≤ 1000) (by decide)
              · rw [upd_upd, List.map_append, List.map_append] <;> rfl
              · rw [List.length_append, List.length_singleton]
                omega
              · intro k hk
                rcases List.mem_append.mp hk with y | y
                · exact h1 k y
                · rw [List.mem_singleton.mp y]
                  exact ⟨_, hj2, z⟩
              · intro e
                exact absurd e (by simp)
          · rintro H6 ⟨ks, rfl, hks, h1, h2⟩
            have k6 := same_new (o := .lst ((ks.map fun k => ((k : Nat) : Int)).map V.int)) hD5
            have eK := upd_same (H := H5) (a := D5) (o := .lst ((ks.map fun k => ((k : Nat) : Int)).map V.int))
            have s6 := s5.trans k6
            have e16 := k6 _ _ e1
            have e26 := k6 _ _ e2
            have a16 := anyL_keep k6 a1
            have a26 := anyL_keep k6 a2
            have rat6 : ∀ (j : Nat) (r : List Int), left[j]? = some r → ∃ c, ac[j]? = some (.ref c) ∧ upd H5 D5 (.lst ((ks.map fun k => ((k : Nat) : Int)).map V.int)) c = some (.lst (r.map V.int)) := fun j r hj => by
              obtain ⟨c, h3, h4⟩ := rat j r hj
              exact ⟨c, h3, k6 _ _ h4⟩
            have nlD : l ≠ D5 := ne_of_none e1 hD5
            have hDn : H D5 = none := s5.free hD5
            clear k5 k6 rat e1 e2 a1 a2 s5 hD5
            generalize upd H5 D5 (.lst ((ks.map fun k => ((k : Nat) : Int)).map V.int)) = H6 at eK s6 e16 e26 a16 a26 rat6 ⊢
            refine ⟨_, rfl, by show 0 ≤ sizeLine; decide, fun l0 hl0 => ?_⟩
            have k7 := same_new (o := .lst []) hl0
            refine ne_two (d := rowD (ks.map fun k => ((k : Nat) : Int))) (e := .list []) (any_rowD (k7 _ _ eK)) (.lst upd_same .nil) (rowD_ok _).1 rfl (Nat.le_trans (rowD_ok _).2 (by decide)) (by decide) ?_
            refine ⟨_, rfl, ?_⟩
            have eK7 := k7 _ _ eK
            have e17 := k7 _ _ e16
            have e27 := k7 _ _ e26
            have a17 := anyL_keep k7 a16
            have a27 := anyL_keep k7 a26
            have s7 := s6.trans k7
            have rat7 : ∀ (j : Nat) (r : List Int), left[j]? = some r → ∃ c, ac[j]? = some (.ref c) ∧ upd H6 l0 (.lst []) c = some (.lst (r.map V.int)) := fun j r hj => by
              obtain ⟨c, h3, h4⟩ := rat6 j r hj
              exact ⟨c, h3, k7 _ _ h4⟩
            clear rat6 eK e16 e26 a16 a26 s6 k7 hl0
            generalize upd H6 l0 (.lst []) = H7 at eK7 e17 e27 a17 a27 s7 rat7 ⊢
            unfold rowD
            rw [eqv_nilL]
            cases ks with
            | nil =>
              refine iteF ⟨l, g, _, _, _, _, rfl, ac, bc, left, found, s7, hl, hg, nlg, e17, a17, e27, a27, el.skip fun r hr => ?_, ln⟩
              obtain ⟨m, hm⟩ := List.getElem?_of_mem hr
              exact h2 rfl m r (by have := (List.getElem?_eq_some_iff.mp hm).1; omega) hm
            | cons k ks =>
              refine iteT ?_
              obtain ⟨h0, hk, nz⟩ := h1 k List.mem_cons_self
              have hk2 := (List.getElem?_eq_some_iff.mp hk).1
              obtain ⟨c, hc, ec⟩ := rat7 k h0 hk
              have m0 : h0 ∈ left := List.mem_of_getElem? hk
              have l0W := rlen h0 m0
              have rng := fun c2 hc2 => el.rng h0 (List.mem_append_left _ m0) c2 hc2
              refine ⟨_, rfl, .inl ⟨rfl, _, SqL.of e17⟩, _, rfl, D5, _, 0, _, rfl, rfl, SqL.of eK7, atI_nat (j := 0) rfl, l, ac, ((k : Nat) : Int), k, .ref c, rfl, rfl, e17, by omega, by omega, ixn2 (by omega), hc, ?_⟩
              have refs := rows_refs a17
              have nonE : ∀ r, r ∈ left ++ found → r ≠ [] := fun r hr z => by
                have := el.len r hr
                rw [z] at this
                exact absurd this (by show ¬ (0 = W); omega)
              have a18 : AnyL (upd H7 l (.lst (ac.eraseIdx k))) (ac.eraseIdx k) ((left.eraseIdx k).map rowD) := by
                rw [← map_erase]
                exact anyL_erase k (rows_put a17 e17 refs fun r hr => nonE r (List.mem_append_left _ hr))
              have a28 : AnyL (upd H7 l (.lst (ac.eraseIdx k))) bc (found.map rowD) := rows_put a27 e17 refs fun r hr => nonE r (List.mem_append_right _ hr)
              have ncl : c ≠ l := fun z => by
                rw [z, e17] at ec
                have e9 : ac = h0.map V.int := by cases ec; rfl
                rw [e9, List.getElem?_map] at hc
                cases e10 : h0[k]? with
                | none => rw [e10] at hc; cases hc
                | some x => rw [e10] at hc; cases hc
              have ec8 : upd H7 l (.lst (ac.eraseIdx k)) c = some (.lst (h0.map V.int)) := by
                rw [upd_ne ncl]
                exact ec
              have e28 : upd H7 l (.lst (ac.eraseIdx k)) g = some (.lst bc) := by
                rw [upd_ne nlg.symm]
                exact e27
              have s8 : Same H (upd H7 l (.lst (ac.eraseIdx k))) := same_put s7 hl
              have e18 := upd_same (H := H7) (a := l) (o := .lst (ac.eraseIdx k))
              generalize upd H7 l (.lst (ac.eraseIdx k)) = H8 at a18 a28 ec8 e28 s8 e18 ⊢
              clear rat7 eK7 e17 e27 a17 a27 s7 ec
              have bi := rng i hi
              refine ⟨_, rfl, _, rfl, _, rfl, c, _, _, _, rfl, rfl, SqL.of ec8, atI_nat (by rw [List.getElem?_map, at_cl (by omega)] <;> rfl), p, cl h0 i, rfl, hp, ?_, ?_, fun t H9 k9 t0 t1 te => ?_⟩
              · rw [Int.emod_eq_of_lt bi.1 bi.2]
                exact nz
              · exact Nat.lt_of_le_of_lt (by omega : (cl h0 i).natAbs ≤ 13) (by decide)
              refine ⟨_, rfl, c, true, _, rfl, SqL.of (k9 _ _ ec8), fun D2 hD2 => ?_⟩
              refine lc_same (n := h0.length) (by rw [← List.length_map (f := V.int) (as := h0)]; exact walk_seq (k := true)) (by omega) hD2 (fun H' s' => SqL.of (s' _ _ (k9 _ _ ec8))) (fun j => .int (cl h0 j * t % p)) ?_ ?_
              · rintro j x H10 hj hx2 s10 _
                refine ⟨rfl, fun k4 hk4 => ?_⟩
                have ex := int_cl hx2 hj
                subst ex
                have bj := rng j (by omega)
                refine ⟨_, rfl, _, rfl, _, _, rfl, rfl, .inr ⟨by omega, by omega⟩, .inl ⟨_, rfl, _, rfl, _, p, rfl, rfl, (by show p ≠ 0; omega), ?_⟩⟩
                show k4 (.int ((cl h0 j * t).fmod p)) H10
                rw [fmod_pos (by omega)]
                exact hk4 _ _ (fun _ _ z => z) (.int _)
              · intro H10 acc2 s10 ha10 hal10
                have e3 : (List.range h0.length).map (fun j => PyData.int (cl h0 j * t % p)) = (unitR p t h0).map PyData.int := by
                  unfold unitR
                  rw [List.map_map]
                  exact map_get (fun x => PyData.int (x * t % p)) 0 h0
                rw [e3] at hal10
                have e4 := anyL_ints hal10
                subst e4
                have k10 := k9.trans s10
                have a1a := anyL_keep k10 a18
                have a2a := anyL_keep k10 a28
                have e1a := k10 _ _ e18
                have e2a := k10 _ _ e28
                have sa := s8.trans k10
                have lu : (unitR p t h0).length = W := by unfold unitR; rw [List.length_map]; exact l0W
                have ru := unit_rng (p := p) (t := t) (r := h0) (by omega)
                have rng2 : ∀ r, r ∈ left ++ found → ∀ x, x ∈ r → 0 ≤ x ∧ x < 13 := fun r hr x hx => by
                  obtain ⟨m, hm⟩ := List.getElem?_of_mem hx
                  have hm2 := (List.getElem?_eq_some_iff.mp hm).1
                  have lw := el.len r hr
                  have := el.rng r hr m (by omega)
                  unfold cl at this
                  rw [hm] at this
                  have h9 : 0 ≤ x ∧ x < p := this
                  omega
                have el2 := el.turn (by omega) hi hk te
                have lE : (left.eraseIdx k).length = left.length - 1 := by
                  rw [List.length_eraseIdx, if_pos (by omega)]
                refine ⟨_, rfl, _, rfl, _, rfl, _, rfl, p, _, _, left.eraseIdx k, unitR p t h0, _, i, rfl, hp, .lst e1a a1a, any_rowD ha10, .inl rfl, by omega, by omega, by omega, fun r hr => (rlen r (List.mem_of_mem_eraseIdx hr)).trans lu.symm, fun r hr x hx => ?_, fun l1 ac1 Hb hl1 sb el1 al1 => ?_⟩
                · rcases List.mem_cons.mp hr with y | y
                  · rw [y] at hx
                    have := ru x hx
                    omega
                  · exact rng2 r (List.mem_append_left _ (List.mem_of_mem_eraseIdx y)) x hx
                refine ⟨_, rfl, _, rfl, _, rfl, _, rfl, p, _, _, found, unitR p t h0, _, i, rfl, hp, .lst (sb _ _ e2a) (anyL_keep sb a2a), any_rowD (sb _ _ ha10), .inl rfl, by omega, by omega, by omega, fun r hr => (flen r hr).trans lu.symm, fun r hr x hx => ?_, fun g1 bc1 Hc hg1 sc eg1 ag1 => ?_⟩
                · rcases List.mem_cons.mp hr with y | y
                  · rw [y] at hx
                    have := ru x hx
                    omega
                  · exact rng2 r (List.mem_append_right _ y) x hx
                refine ⟨_, rfl, by show 1 ≤ sizeLine; decide, fun b1 hb1 => ?_⟩
                have kd := same_new (o := .lst [.ref D2]) hb1
                have lbc1 := (anyL_len ag1).trans (by rw [List.length_map, List.length_map])
                refine ⟨g1, b1, bc1, _, rfl, rfl, kd _ _ eg1, upd_same, Nat.le_trans (by show bc1.length + 1 ≤ 100; omega) (by decide), fun g2 hg2 => ?_⟩
                have ke := same_new (o := .lst (bc1 ++ [.ref D2])) hg2
                refine ⟨by show 2 ≤ sizeLine; decide, fun t2 ht2 => ?_⟩
                have kf := same_new (o := .tup [.ref l1, .ref g2]) ht2
                refine ⟨t2, _, rfl, SqT.of upd_same, rfl, _, _, rfl, _, _, rfl, rfl, ?_⟩
                have s1f := sc.trans (kd.trans (ke.trans kf))
                refine ⟨l1, g2, _, _, _, _, rfl, ac1, bc1 ++ [.ref D2], _, _, sa.trans (sb.trans s1f), sa.free hl1, (sa.trans (sb.trans (sc.trans kd))).free hg2, ne_of_none ((sc.trans kd) _ _ el1) hg2, s1f _ _ el1, anyL_keep s1f (anyL_keep (same_del (p := l1)) al1), kf _ _ upd_same, ?_, el2, ?_⟩
                · rw [List.map_append]
                  exact anyL_snoc (anyL_keep (kd.trans (ke.trans kf)) (anyL_keep (same_del (p := g1)) ag1)) (any_rowD ((sb.trans s1f) _ _ ha10))
                · rw [List.length_append, List.length_map, List.length_map, List.length_singleton, lE]
                  omega
        · rintro σ' H5 ⟨l, g, y4, y5, y6, y7, rfl, ⟨ac, bc, left, found, s5, hl, hg, nlg, e1, a1, e2, a2, el, ln⟩⟩
          have lb := (anyL_len a2).trans (List.length_map _)
          refine ⟨_, rfl, g, true, bc, rfl, SqL.of e2, fun D5 hD5 => ?_⟩
          refine lc_same (walk_seq (k := true)) (by omega) hD5 (fun H' s' => SqL.of (s' _ _ e2)) (fun i => tupI (found[i]?.getD [])) ?_ ?_
          · rintro i x H6 hi hx s6 ⟨o, ho⟩
            refine ⟨rfl, fun k6 hk6 => ?_⟩
            obtain ⟨dx, hdx, ax⟩ := anyL_at a2 hx
            rw [List.getElem?_map] at hdx
            cases er : found[i]? with
            | none => rw [er] at hdx; cases hdx
            | some r =>
              rw [er] at hdx hk6
              cases Option.some.inj hdx
              obtain ⟨c, rfl, ec⟩ := rowD_any ax
              refine ⟨_, rfl, c, _, rfl, .inl ⟨SqL.of (s6 _ _ ec), fun l6 hl6 => ?_⟩⟩
              refine hk6 _ _ (same_new hl6) (.tup ?_ (ints_anyL r))
              rw [del_ne (ne_of_none ho hl6).symm]
              exact upd_same
          · intro H6 ac2 s6 ha6 al6
            have e4 := map_get (fun r => tupI r) [] found
            rw [← lb] at e4
            rw [e4] at al6
            exact q D5 ac2 found H6 (s5.free hD5) (s5.trans s6) ha6 al6 (base_of_elim el (.inr rfl))
end
end K41
set_option Elab.async false
set_option linter.all false
set_option maxRecDepth 100000
set_option maxHeartbeats 8000000
namespace Rw
open PySem PySem.Spec PyProof.Rows L2
end Rw
namespace K41
open PySem PySem.Spec PyProof.Rows L2 Rw
section
variable {P : Program} {w : World} {K : PySem.W.Frag} {mg : Str → Option Value} {base : Heap}
theorem okRankL {f : Addr} {fd : FuncData} (F : Fun K "_law_rank" "_law_rank" sRankL f fd) (zl : mg "len" = none) (GB : Own P w K mg base CX0 2 "_law_base" ["_law_p", "_law_rows"] [] spBaseL) : FnOk P w K mg base CX0 3 f fd ["_law_p", "_law_rows"] spRankL := by
  refine F.ok scRankL (fun vs H Q E h => ?_) (fun cdv A outer s H vs Q E hr h => ?_)
  · obtain ⟨p, v, d, rows, W, rfl, _⟩ := h
    rfl
  · obtain ⟨p, v, d, rows, W, rfl, hp, av, ed, hl, l90, w12, hrow, q⟩ := h
    refine ⟨_, (pss_one (ps_ret (pe_callB call_len_seq (by rfl) zl boot_len (pa_cons (pe_own GB hr pass0 (pa_cons (pv 0) (pa_cons (pv 1) pa_nil))) pa_nil)))), ?_⟩
    refine ⟨_, rfl, _, rfl, p, v, d, rows, W, rfl, hp, av, ed, hl, l90, w12, hrow, fun l acc found H' hl' s' e' a' b => ⟨l, acc, rfl, .inl (SqL.of e'), ?_⟩⟩
    have ln := (anyL_len a').trans (List.length_map _)
    rw [ln]
    exact q found H' s' b
end
end K41
set_option Elab.async false
set_option linter.all false
set_option maxRecDepth 100000
set_option maxHeartbeats 2000000
namespace Rw
open PySem PySem.Spec PyProof.Rows L2
def rGetN : V → V → Hp → VK → Prop := fun x y H Q => ∃ (p : Addr) (xs : List V) (j : Nat) (v : V), x = .ref p ∧ y = .int ((j : Nat) : Int) ∧ H p = some (.lst xs) ∧ xs[j]? = some v ∧ Q v H
theorem get_listN {X : Cx} : PGet X rGetN := by
  intro pins s σ H o i ov iv Q I ro ri h
  obtain ⟨p, xs, j, v, rfl, rfl, hp, he, q⟩ := h
  cases ro
  obtain ⟨t, rfl⟩ := ri
  obtain ⟨its, n, r, pl, hz⟩ := I.lst hp
  obtain ⟨w, ew, rw'⟩ := r.get he
  have hl := r.length
  have hj := (List.getElem?_eq_some_iff.mp he).1
  have hn := line63
  exact wpAny_getItem_list (items := its.toArray) ⟨_, pl, rfl, n, rfl⟩ (by omega) (by omega) (by simpa using ew) ⟨v, H, I, rw', q⟩
/-- the table of some bars, none of the sizes above six -/
def spSummedT : Sp := fun vs H Q _ => ∃ (p : Addr) (n c : Nat), vs = [.ref p, .int ((n : Nat) : Int)] ∧ Bx H p c ∧ c ≤ 500000 ∧ 1 ≤ n ∧ n ≤ 7 ∧
  ∀ l bs f H', Grow p H H' → Bx H' p (c + 20) → Tab H H' l bs (mkT n f) → (∀ a b, a ≤ b → b < n → 0 ≤ f a b ∧ f a b ≤ 6) → Q (.ref l) H'
def intsF (n : Nat) (s : Nat → Int) : List V := ((List.range n).map s).map V.int
theorem intsF_len {n : Nat} {s : Nat → Int} : (intsF n s).length = n := by
  unfold intsF
  rw [List.length_map, List.length_map, List.length_range]
theorem intsF_at {n : Nat} {s : Nat → Int} {i : Nat} (h : i < n) : (intsF n s)[i]? = some (.int (s i)) := by
  unfold intsF
  rw [List.getElem?_map, List.getElem?_map, List.getElem?_range h] <;> rfl
theorem mid_cutF {n : Nat} {s : Nat → Int} {b e : Nat} (h1 : b ≤ e) (h2 : e < n) : cutV (intsF n s) (some ((b : Nat) : Int)) (some (((e : Nat) : Int) + 1)) = intsF (e + 1 - b) fun j => s (b + j) := by
  rw [show ((e : Nat) : Int) + 1 = ((e + 1 : Nat) : Int) by omega]
  have e1 : HT.sIx (intsF n s).length 0 (some ((b : Nat) : Int)) = b := by rw [HT.sIx_nat, intsF_len, Nat.min_eq_left (by omega)]
  have e2 : HT.sIx (intsF n s).length (intsF n s).length (some ((e + 1 : Nat) : Int)) = e + 1 := by rw [HT.sIx_nat, intsF_len, Nat.min_eq_left (by omega)]
  unfold cutV
  rw [e1, e2]
  apply List.ext_getElem?
  intro j
  by_cases hj : j < e + 1 - b
  · rw [List.getElem?_take_of_lt hj, List.getElem?_drop, intsF_at (by omega), intsF_at hj]
  · rw [List.getElem?_take_eq_none (by omega), List.getElem?_eq_none (by rw [intsF_len]; omega)]
theorem zeros_F (n : Nat) : (List.replicate n [V.int 0]).flatten = intsF n fun _ => 0 := by
  unfold intsF
  rw [show (List.replicate n [V.int 0]).flatten = List.replicate n (V.int 0) by simp]
  apply List.ext_getElem?
  intro j
  by_cases hj : j < n
  · rw [List.getElem?_replicate, if_pos hj, List.getElem?_map, List.getElem?_map, List.getElem?_range hj] <;> rfl
  · rw [List.getElem?_eq_none (by simpa using hj), List.getElem?_eq_none (by simpa using hj)]
end Rw
namespace Rw
open PySem PySem.Spec PyProof.Rows L2
def addG (f : Nat → Nat → Int) (lo hi a k : Nat) : Nat → Nat → Int := fun u v => if (lo ≤ u ∧ u < a ∧ v ≤ hi) ∨ (u = a ∧ v < a + k) then f u v + 1 else f u v
section
variable {f : Nat → Nat → Int} {n lo hi a k : Nat}
theorem addG_start : mkT n (addG f lo hi lo 0) = mkT n f := mkT_congr fun u v uv hv => by
  unfold addG
  rw [if_neg (by omega)]
theorem addG_here : addG f lo hi a k a (a + k) = f a (a + k) := by
  unfold addG
  rw [if_neg (by omega)]
theorem addG_next (h : a + k < n) : (mkT n fun x y => if x = a ∧ y = a + k then f a (a + k) + 1 else addG f lo hi a k x y) = mkT n (addG f lo hi a (k + 1)) := mkT_congr fun u v uv hv => by
  unfold addG
  by_cases e : u = a ∧ v = a + k
  · obtain ⟨e1, e2⟩ := e
    subst e1
    subst e2
    rw [if_pos ⟨rfl, rfl⟩, if_pos (.inr ⟨rfl, by omega⟩)]
  · rw [if_neg e]
    by_cases z : (lo ≤ u ∧ u < a ∧ v ≤ hi) ∨ (u = a ∧ v < a + k)
    · rw [if_pos z, if_pos (by omega)]
    · rw [if_neg z, if_neg (by omega)]
theorem addG_turn (h1 : lo ≤ a) (h2 : a ≤ hi) : mkT n (addG f lo hi a (hi + 1 - a)) = mkT n (addG f lo hi (a + 1) 0) := mkT_congr fun u v uv hv => by
  unfold addG
  by_cases z : (lo ≤ u ∧ u < a ∧ v ≤ hi) ∨ (u = a ∧ v < a + (hi + 1 - a))
  · rw [if_pos z, if_pos (by omega)]
  · rw [if_neg z, if_neg (by omega)]
theorem addG_low {s : Nat → Int} (low : ∀ u v, u ≤ v → v < n → 0 ≤ f u v ∧ f u v ≤ s u) (hn : hi < n) : ∀ u v, u ≤ v → v < n → 0 ≤ addG f lo hi (hi + 1) 0 u v ∧ addG f lo hi (hi + 1) 0 u v ≤ s u + if lo ≤ u ∧ u ≤ hi then 1 else 0 := fun u v uv hv => by
  have := low u v uv hv
  unfold addG
  by_cases z : (lo ≤ u ∧ u < hi + 1 ∧ v ≤ hi) ∨ (u = hi + 1 ∧ v < hi + 1 + 0)
  · rw [if_pos z, if_pos (by omega)]
    omega
  · rw [if_neg z]
    split <;> omega
end
end Rw
set_option Elab.async false
set_option linter.all false
set_option maxRecDepth 100000
set_option maxHeartbeats 8000000
namespace K41
open PySem PySem.Spec PyProof.Rows L2 Rw
abbrev sSummed : Stmt := top 64
abbrev NSummed : List Str := ["_law_box_here", "_law_many", "_law_table", "_law_sizes", "_law_turn_here", "_law_first", "_law_last", "_law_a", "_law_b", "_law_place", "_law_size"]
theorem scSummed : FnScope NSummed ["_law_box_here", "_law_many"] (defScope sSummed) := ⟨rfl, rfl, rfl, by decide +kernel, rfl, by decide +kernel, by decide +kernel⟩
abbrev gPSS (K : PySem.W.Frag) : TG := gTup K 2 (gCons (gName 9) (gCons (gName 10) gNil))
abbrev tMoreS : TE := tOp (rI0 fun i j => .int (i + j)) (tVar 10) (tCB rInt1 (tCons (tChain rLe rLe (tVar 5) (tVar 9) (tVar 6)) tNil))
abbrev tZeroS : TE := tOp rRep (tLst (tCons (tC (.int 0)) tNil)) (tOp (rI0 fun i j => .int (i - j)) (tVar 1) (tVar 9))
section
variable {P : Program} {w : World} {K : PySem.W.Frag} {mg : Str → Option Value} {base : Heap}
theorem okSummed {f : Addr} {fd : FuncData} (F : Fun K "_law_summed" "_law_summed" sSummed f fd) (zr : mg "range" = none) (zx : mg "max" = none) (ze : mg "enumerate" = none) (zi : mg "int" = none) (GT : Own P w K mg base CX0 1 "_law_take" ["_law_box_here", "_law_many"] [] spTakeR) : FnOk P w K mg base CX0 2 f fd ["_law_box_here", "_law_many"] spSummedT := by
  refine F.ok scSummed (fun vs H Q E h => ?_) (fun cdv A outer s H vs Q E hr h => ?_)
  · obtain ⟨p, n, c, rfl, _⟩ := h
    rfl
  · obtain ⟨p, n, c, rfl, bx, hc, n1, n7, q⟩ := h
    refine ⟨_, (pss_cons (ps_par (i := 2) (j := 3) (by rfl) scSummed.nd rfl rfl (by decide) rfl rfl (pa_cons (pe_lc (own := [("_law_place", 9)]) (g := gName 9) (tt := tYes) (te := tZeroS) rfl scSummed.nd (pi_range1 rfl zr (pa_cons (pv 1) pa_nil)) (blkOk_by (N := NSummed) (sc := defScope sSummed) (by decide +kernel)) (fun _ _ _ _ _ => (pg_name (i := 9) scSummed.nd rfl (Or.inl rfl))) (fun _ _ _ _ _ => pts_nil) (fun _ _ _ _ _ => (pe_op op_rep (pe_lst (pa_cons pe_int pa_nil)) (pe_op op_sub (pv 1) (pv 9))))) (pa_cons (pe_op op_rep (pe_lst (pa_cons pe_int pa_nil)) (pv 1)) pa_nil)) (by rfl))
    (pss_cons (ps_for PassesOwn.never rfl (pi_range1 rfl zr (pa_cons (pe_own GT (hr.mono (by decide)) pass0 (pa_cons (pv 0) (pa_cons pe_int pa_nil))) pa_nil)) (pg_name (i := 4) scSummed.nd rfl (Or.inl rfl)) (pss_cons (ps_set (i := 5) scSummed.nd rfl (Or.inr rfl) (pe_own GT (hr.mono (by decide)) pass0 (pa_cons (pv 0) (pa_cons (pv 1) pa_nil))))
      (pss_cons (ps_set (i := 6) scSummed.nd rfl (Or.inr rfl) (pe_op op_add (pv 5) (pe_own GT (hr.mono (by decide)) pass0 (pa_cons (pv 0) (pa_cons (pe_op op_sub (pv 1) (pv 5)) pa_nil)))))
      (pss_one (ps_if (pt_cmpR op_lt (pe_callB (cr_max rfl) (by rfl) zx (by decide +kernel) (pa_cons (pe_slice sl_list (pv 3) (po_some (pv 5)) (po_some (pe_op op_add (pv 6) pe_int))) pa_nil)) pe_int (nomark _)) (pss_cons (ps_setLc (i := 3) (own := [("_law_place", 9), ("_law_size", 10)]) (g := gPSS K) (tt := tYes) (te := tMoreS) rfl scSummed.nd rfl rfl (sw_true rfl rfl rfl (by decide +kernel)) (pi_enumB (by rfl) ze (pa_cons (pv 3) pa_nil)) (blkOk_by (N := NSummed) (sc := defScope sSummed) (by decide +kernel)) (fun _ _ _ _ _ => (pg_tup rfl (pgs_cons (pg_name (i := 9) scSummed.nd rfl (Or.inl rfl)) (pgs_cons (pg_name (i := 10) scSummed.nd rfl (Or.inl rfl)) pgs_nil)))) (fun _ _ _ _ _ => pts_nil) (fun _ _ _ _ _ => (pe_op op_add (pv 10) (pe_callTy call_int1 (by rfl) zi boot_int (pa_cons (pe_chain op_le op_le (pv 5) (pv 9) (pv 6)) pa_nil)))))
        (pss_one (ps_for PassesOwn.never rfl (pi_range2 rfl zr (pa_cons (pv 5) (pa_cons (pe_op op_add (pv 6) pe_int) pa_nil))) (pg_name (i := 7) scSummed.nd rfl (Or.inl rfl)) (pss_one (ps_for PassesOwn.never rfl (pi_range2 rfl zr (pa_cons (pv 7) (pa_cons (pe_op op_add (pv 6) pe_int) pa_nil))) (pg_name (i := 8) scSummed.nd rfl (Or.inl rfl)) (pss_one (ps_augS (pe_ix ix_list (pv 2) (pv 7) (fun _ _ => rfl)) (pe_op op_sub (pv 8) (pv 7)) get_listN pe_int ip_add set_list))))))) pss_nil)))))
    (pss_one (ps_ret (pv 2))))), ?_⟩
    -- the table of noughts
    refine ⟨_, rfl, _, rfl, by omega, by omega, fun D hD => ?_⟩
    rw [show (((n : Nat) : Int)).toNat = n by omega]
    refine lc_tab walk_rng (by omega) hD (fun _ _ => trivial) (fun i => rowT n (fun _ _ => 0) i) ?_ ?_
    · rintro i y H0 H1 hi s1 _ ⟨rfl, rfl⟩
      refine ⟨Same.refl _, fun k hk => ⟨rfl, by show 1 ≤ sizeLine; decide, fun z hz => ?_⟩⟩
      have k2 := same_new (o := .lst [V.int 0]) hz
      have e4 := upd_same (H := H1) (a := z) (o := .lst [V.int 0])
      generalize upd H1 z (.lst [V.int 0]) = H4 at k2 e4 ⊢
      refine ⟨_, rfl, _, rfl, _, _, rfl, rfl, ?_⟩
      have en : (((n : Nat) : Int) - ((i : Nat) : Int)).toNat = n - i := by omega
      refine ⟨z, _, [V.int 0], rfl, rfl, e4, by omega, by omega, ?_, fun u hu => ?_⟩
      · rw [en]
        show 1 * (n - i) ≤ sizeLine
        exact Nat.le_trans (by omega : 1 * (n - i) ≤ 100) (by decide)
      refine hk u _ (k2.free hu) (k2.trans (same_new hu)) ?_
      rw [upd_same, en, zeros_F] <;> rfl
    intro H1 bs s1 t1
    rw [show (List.range n).map (fun i => rowT n (fun _ _ => 0) i) = mkT n (fun _ _ => 0) from rfl] at t1
    refine ⟨by show 1 ≤ sizeLine; decide, fun z hz => ?_⟩
    have k2 := same_new (o := .lst [V.int 0]) hz
    have e2 := upd_same (H := H1) (a := z) (o := .lst [V.int 0])
    generalize upd H1 z (.lst [V.int 0]) = H2 at k2 e2 ⊢
    refine ⟨_, rfl, z, _, [V.int 0], rfl, rfl, e2, by omega, by omega, ?_, fun S hS => ?_⟩
    · rw [show (((n : Nat) : Int)).toNat = n by omega]
      show 1 * n ≤ sizeLine
      exact Nat.le_trans (by omega : 1 * n ≤ 100) (by decide)
    rw [show (((n : Nat) : Int)).toNat = n by omega, zeros_F]
    have t2 := t1.keep k2
    have clear_ : ∀ {H' : Hp} {S : Addr} {g : Nat → Nat → Int}, Tab H H' D bs (mkT n g) → H' S = none → S ≠ D ∧ S ∉ bs := fun {H' S g} t h => by
      refine ⟨fun e => (by rw [e, t.a] at h; cases h), fun m => ?_⟩
      obtain ⟨i, hi, e⟩ := List.getElem_of_mem m
      have hT : (mkT n g)[i]? = some (rowT n g i) := mkT_at (by rw [← mkT_len (n := n) (f := g), ← t.len]; exact hi)
      obtain ⟨b, hb, eb, _, _⟩ := t.at_ hT
      rw [List.getElem?_eq_getElem hi, e] at hb
      cases hb
      rw [eb] at h
      cases h
    obtain ⟨c1, c2⟩ := clear_ t2 hS
    have k3 := same_new (o := .lst (intsF n fun _ => 0)) hS
    have e3 := upd_same (H := H2) (a := S) (o := .lst (intsF n fun _ => 0))
    have t3 := t2.keep k3
    have s3 : Same H _ := (s1.trans k2).trans k3
    generalize upd H2 S (.lst (intsF n fun _ => 0)) = H3 at k3 e3 t3 s3 ⊢
    refine ⟨_, _, rfl, ?_⟩
    obtain ⟨b1, b2, b3, hpe, _⟩ := id bx
    refine ⟨_, rfl, p, 9, c, rfl, by decide, by decide, bx.keep s3, by omega, fun r H4 r0 r1 G4 B4 => ⟨_, rfl, by omega, by omega, ?_⟩⟩
    obtain ⟨m, rfl⟩ : ∃ m : Nat, r = ((m : Nat) : Int) := ⟨r.toNat, by omega⟩
    rw [show ((m : Nat) : Int).toNat = m by omega]
    have nS : S ≠ p := ((bx.keep (s1.trans k2)).ne hS).symm
    refine for_range (lo := 0) (n := m) (fun i σ' H' => ∃ y4 y5 y6 y7 y8 S s f, σ' = [some (.ref p), some (.int ((n : Nat) : Int)), some (.ref D), some (.ref S), y4, y5, y6, y7, y8, none, none] ∧ Grow p H H' ∧ Bx H' p (c + 1 + 2 * i) ∧ Tab H H' D bs (mkT n f) ∧ H' S = some (.lst (intsF n s)) ∧ S ≠ p ∧ S ≠ D ∧ S ∉ bs ∧ (∀ u v, u ≤ v → v < n → 0 ≤ f u v ∧ f u v ≤ s u) ∧ ∀ u, u < n → s u ≤ 6)
      ⟨_, _, _, _, _, S, _, _, rfl, (Grow.of s3).trans G4, B4, t3.grow hpe G4, G4 _ _ nS e3, nS, c1, c2, fun _ _ _ _ => ⟨Int.le_refl _, Int.le_refl _⟩, fun _ _ => by decide⟩ ?_ ?_
    · rintro i σ' H5 hi ⟨y4, y5, y6, y7, y8, S, s, f, rfl, G5, B5, t5, e5, nS, nD, nb, low, hs6⟩
      refine ⟨_, rfl, _, rfl, p, ((n : Nat) : Int), _, rfl, by omega, by omega, B5, by omega, fun x H6 x0 x1 G6 B6 => ?_⟩
      obtain ⟨a, rfl⟩ : ∃ a : Nat, x = ((a : Nat) : Int) := ⟨x.toNat, by omega⟩
      refine ⟨_, rfl, _, rfl, _, rfl, _, rfl, _, _, rfl, rfl, p, ((n : Nat) : Int) - ((a : Nat) : Int), _, rfl, by omega, by omega, B6, by omega, fun y H7 y0 y1 G7 B7 => ?_⟩
      obtain ⟨d, rfl⟩ : ∃ d : Nat, y = ((d : Nat) : Int) := ⟨y.toNat, by omega⟩
      refine ⟨_, _, rfl, rfl, ?_⟩
      dsimp only
      rw [show ((a : Nat) : Int) + ((d : Nat) : Int) = ((a + d : Nat) : Int) by omega]
      have hb : a + d < n := by omega
      obtain ⟨b, hbd⟩ : ∃ b, b = a + d := ⟨_, rfl⟩
      rw [← hbd] at hb ⊢
      have hab : a ≤ b := by omega
      have G57 := G5.trans (G6.trans G7)
      have t7 := (t5.grow hpe G6).grow hpe G7
      have e7 := G7 _ _ nS (G6 _ _ nS e5)
      refine ⟨_, rfl, _, rfl, _, rfl, _, rfl, _, _, rfl, rfl, _, rfl, S, _, rfl, SqL.of e7, fun U hU => ?_⟩
      rw [mid_cutF hab hb]
      have k8 := same_new (o := .lst (intsF (b + 1 - a) fun j => s (a + j))) hU
      have e8 := upd_same (H := H7) (a := U) (o := .lst (intsF (b + 1 - a) fun j => s (a + j)))
      have t8 := t7.keep k8
      have eS8 := k8 _ _ e7
      have B8 := B7.keep k8
      have G8 := G57.trans (Grow.of k8)
      generalize upd H7 U (.lst (intsF (b + 1 - a) fun j => s (a + j))) = H8 at k8 e8 t8 eS8 B8 G8 ⊢
      refine ⟨U, _, rfl, SqL.of e8, by rw [List.length_map, List.length_range]; omega, fun M hM hmax => ?_⟩
      refine ⟨_, _, rfl, rfl, _, rfl, ite2 (fun z => ?_) (fun z => ?_)⟩
      · have z2 : M < 6 := of_decide_eq_true z
        have le : ∀ u, a ≤ u → u ≤ b → s u < 6 := fun u h1 h2 => by
          have : s u ≤ M := hmax _ (List.mem_map.mpr ⟨u - a, List.mem_range.mpr (by omega), by rw [show a + (u - a) = u by omega]⟩)
          omega
        refine ⟨_, rfl, S, true, _, rfl, SqL.of eS8, fun S2 hS2 => ?_⟩
        refine lc_intG walk_enumB (by rw [intsF_len]; omega) hS2 (fun H' s' => SqL.of (s' _ _ eS8)) (fun j => s j + if a ≤ j ∧ j ≤ b then 1 else 0) ?_ ?_
        · rintro j y H9 H10 hj s9 ⟨T1, v1, v2, rfl, hT, rfl, h1, h2⟩
          cases h1
          rw [intsF_len] at hj
          replace h2 : (intsF n s)[j]? = some v2 := h2
          rw [intsF_at hj] at h2
          cases h2
          refine ⟨same_new hT, fun kk hkk => ?_⟩
          have eT := upd_same (H := H9) (a := T1) (o := .tup [.int ((j : Nat) : Int), .int (s j)])
          generalize upd H9 T1 (.tup [.int ((j : Nat) : Int), .int (s j)]) = H10 at eT hkk ⊢
          refine ⟨T1, _, rfl, SqT.of eT, rfl, _, _, rfl, _, _, rfl, rfl, rfl, ?_⟩
          refine ⟨_, rfl, chain_go (var_go rfl) (var_go rfl) (var_go rfl) (.inr ⟨_, rfl, _, _, rfl, rfl, ?_⟩)⟩
          have := hkk H10 (Same.refl _)
          by_cases c : a ≤ j ∧ j ≤ b
          · rw [if_pos c] at this
            rw [decide_eq_true c]
            exact this
          · rw [if_neg c] at this
            rw [decide_eq_false c]
            exact this
        intro H9 s9 e9
        rw [intsF_len] at e9
        replace e9 : H9 S2 = some (.lst (intsF n fun j => s j + if a ≤ j ∧ j ≤ b then 1 else 0)) := e9
        have t9 := t8.keep s9
        have B9 := B8.keep s9
        have G9 := G8.trans (Grow.of s9)
        have nS2 : S2 ≠ p := (B8.ne hS2).symm
        obtain ⟨n1', n2'⟩ := clear_ t8 hS2
        have rows_ : ∀ {H' : Hp} {g : Nat → Nat → Int} {i : Nat}, i < n → Tab H H' D bs (mkT n g) → ∃ b, bs[i]? = some b ∧ H' b = some (.lst ((rowT n g i).map V.int)) ∧ H b = none ∧ b ≠ D := fun hi t => t.at_ (mkT_at hi)
        refine ⟨_, rfl, _, rfl, _, _, rfl, rfl, _, _, rfl, ⟨by omega, by omega, by omega, by omega⟩, ?_⟩
        rw [show (((b : Nat) : Int) + 1 - ((a : Nat) : Int)).toNat = b + 1 - a by omega]
        refine for_range (lo := ((a : Nat) : Int)) (n := b + 1 - a) (fun j σ' H' => ∃ y7 y8, σ' = [some (.ref p), some (.int ((n : Nat) : Int)), some (.ref D), some (.ref S2), some (.int (0 + ((i : Nat) : Int))), some (.int ((a : Nat) : Int)), some (.int ((b : Nat) : Int)), y7, y8, none, none] ∧ Grow p H H' ∧ Bx H' p (c + 1 + 2 * i + 2) ∧ Tab H H' D bs (mkT n (addG f a b (a + j) 0)) ∧ H' S2 = some (.lst (intsF n fun j => s j + if a ≤ j ∧ j ≤ b then 1 else 0)))
          ⟨_, _, rfl, G9, B9, by rw [Nat.add_zero, addG_start]; exact t9, e9⟩ ?_ ?_
        · rintro j σ' H10 hj ⟨y7, y8, rfl, G10, B10, t10, e10⟩
          have haj : a + j < n := by omega
          rw [show ((a : Nat) : Int) + ((j : Nat) : Int) = ((a + j : Nat) : Int) by omega]
          refine ⟨_, rfl, _, rfl, _, _, rfl, rfl, _, _, rfl, ⟨by omega, by omega, by omega, by omega⟩, ?_⟩
          rw [show (((b : Nat) : Int) + 1 - ((a + j : Nat) : Int)).toNat = b + 1 - (a + j) by omega]
          refine for_range (lo := ((a + j : Nat) : Int)) (n := b + 1 - (a + j)) (fun k σ' H' => ∃ y8, σ' = [some (.ref p), some (.int ((n : Nat) : Int)), some (.ref D), some (.ref S2), some (.int (0 + ((i : Nat) : Int))), some (.int ((a : Nat) : Int)), some (.int ((b : Nat) : Int)), some (.int ((a + j : Nat) : Int)), y8, none, none] ∧ Grow p H H' ∧ Bx H' p (c + 1 + 2 * i + 2) ∧ Tab H H' D bs (mkT n (addG f a b (a + j) k)) ∧ H' S2 = some (.lst (intsF n fun j => s j + if a ≤ j ∧ j ≤ b then 1 else 0)))
            ⟨_, rfl, G10, B10, t10, e10⟩ ?_ ?_
          · rintro k σ' H11 hk ⟨y8, rfl, G11, B11, t11, e11⟩
            have hajk : a + j + k < n := by omega
            rw [show ((a + j : Nat) : Int) + ((k : Nat) : Int) = ((a + j + k : Nat) : Int) by omega]
            obtain ⟨r, hr', er, hrH, hrD⟩ := rows_ haj t11
            have hrs : (bs.map V.ref)[a + j]? = some (.ref r) := by rw [List.getElem?_map, hr'] <;> rfl
            have hcell : ((rowT n (addG f a b (a + j) k) (a + j)).map V.int)[k]? = some (.int (addG f a b (a + j) k (a + j) (a + j + k))) := by rw [List.getElem?_map, rowT_at hajk] <;> rfl
            refine ⟨_, rfl, _, rfl, D, _, _, _, rfl, rfl, SqL.of t11.a, atI_nat (j := a + j) hrs, ?_⟩
            refine ⟨_, rfl, _, rfl, _, _, rfl, rfl, ?_⟩
            dsimp only
            rw [show ((a + j + k : Nat) : Int) - ((a + j : Nat) : Int) = ((k : Nat) : Int) by omega]
            refine ⟨r, _, k, _, rfl, rfl, er, hcell, _, _, rfl, rfl, r, _, _, k, rfl, rfl, er, Evl.ixN_nat (by rw [List.length_map, rowT_len]; omega), ?_⟩
            have t12 := t11.cell (mkT_at haj) hr' k (addG f a b (a + j) k (a + j) (a + j + k) + 1)
            have hm := mkT_set (n := n) (f := addG f a b (a + j) k) (a := a + j) (b := a + j + k) (by omega) hajk (addG f a b (a + j) k (a + j) (a + j + k) + 1)
            rw [show a + j + k - (a + j) = k by omega] at hm
            rw [hm, addG_here, addG_next hajk] at t12
            rw [addG_here]
            have nr : r ≠ p := fun z => by rw [z, hpe] at hrH; cases hrH
            have nS2r : S2 ≠ r := fun z => n2' (z ▸ List.mem_of_getElem? hr')
            refine ⟨_, rfl, t11.same_g (n := 0) G11 hr' _, bxB_put B11 nr, t12, ?_⟩
            rw [upd_ne nS2r]
            exact e11
          · rintro σ' H11 ⟨y8, rfl, G11, B11, t11, e11⟩
            rw [addG_turn (by omega) (by omega)] at t11
            exact ⟨_, _, rfl, G11, B11, t11, e11⟩
        · rintro σ' H10 ⟨y7, y8, rfl, G10, B10, t10, e10⟩
          rw [show a + (b + 1 - a) = b + 1 by omega] at t10
          refine ⟨_, _, _, _, _, S2, _, _, rfl, G10, B10.more (by omega), t10, e10, nS2, n1', n2', addG_low low hb, fun u hu => ?_⟩
          have := hs6 u hu
          split
          · rename_i z
            have := le u z.1 z.2
            omega
          · omega
      · exact ⟨_, _, _, _, _, S, s, f, rfl, G8, B8.more (by omega), t8, eS8, nS, nD, nb, low, hs6⟩
    · rintro σ' H5 ⟨y4, y5, y6, y7, y8, S, s, f, rfl, G5, B5, t5, e5, nS, nD, nb, low, hs6⟩
      exact ⟨_, rfl, q D bs f H5 G5 (B5.more (by omega)) t5 fun u v uv hv => ⟨(low u v uv hv).1, Int.le_trans (low u v uv hv).2 (hs6 u (by omega))⟩⟩
end
end K41
set_option Elab.async false
set_option linter.all false
set_option maxRecDepth 100000
set_option maxHeartbeats 2000000
namespace Rw
open PySem PySem.Spec PyProof.Rows L2
theorem lc_boxI {J : It} {n : Nat} {G : Hp → Prop} {P : Nat → V → Prop} (w : Walk J n G (fun i H x H' => H' = H ∧ P i x)) {j : Nat} {σ : L2.St} {vs : List Nat} {te : TE} {H1 : Hp} {p D : Addr} {c t : Nat} {Q : Hp → Prop} (hn : n ≤ 1000) (hD : H1 D = none) (b0 : Bx H1 p c) (hG : ∀ H, Grow p H1 H → G H) (Good : Nat → PyData → Prop)
    (hs : ∀ i x H, i < n → P i x → Grow p H1 H → Bx H p (c + i * t) → (∃ o, H D = some o) → wipe ((wipe σ vs).set j (some x)) vs = wipe σ vs ∧ ∀ k : VK, (∀ y d H', Grow p H H' → Bx H' p (c + i * t + t) → Good i d → Any (del (del H' p) D) y d → k y H') → te ((wipe σ vs).set j (some x)) H k)
    (hq : ∀ H acc ds, Grow p H1 H → Bx H p (c + n * t) → H D = some (.lst acc) → AnyL (del (del H p) D) acc ds → ds.length = n → (∀ i d, ds[i]? = some d → Good i d) → Q H) :
    ∃ W : Nat → Nat → Hp → Prop, (∃ m, W 0 m (upd H1 D (.lst []))) ∧ ∀ i m H, W i m H →
      (J.stop i H ∧ Q H) ∨ (J.go i H ∧ ∃ Nx : Hp → Prop, (∀ H', Nx H' → ∃ m', m' < m ∧ W (i + 1) m' H') ∧ ∀ x H', J.yld i H x H' → gName j x (wipe σ vs) H' fun σ2 H2 => wipe σ2 vs = wipe σ vs ∧ tYes σ2 H2 fun b H3 =>
        if b = true then te σ2 H3 fun y H4 => ∃ acc, H4 D = some (.lst acc) ∧ acc.length < sizeLine ∧ Nx (upd H4 D (.lst (acc ++ [y]))) else Nx H3) := by
  have pD := b0.ne hD
  refine lc_it w (Qd := Q) (Pv := fun i H => Grow p H1 H ∧ Bx H p (c + i * t) ∧ ∃ acc ds, H D = some (.lst acc) ∧ AnyL (del (del H p) D) acc ds ∧ ds.length = i ∧ ∀ k d, ds[k]? = some d → Good k d) ⟨Grow.of (same_new hD), by simpa using b0.keep (same_new hD), [], [], upd_same, .nil, rfl, fun k d hd => by simp at hd⟩ (fun i H _ h => hG H h.1) ?_ ?_
  · rintro i x H H' hi ⟨g, b, acc, ds, ha, al, l, gd⟩ ⟨rfl, hp⟩
    obtain ⟨e1, e2⟩ := hs i x H' hi hp g b ⟨_, ha⟩
    refine ⟨e1, ?_⟩
    show te _ _ _
    refine e2 _ fun y d H4 g4 b4 gd4 an => ?_
    have ha4 := g4 _ _ pD.symm ha
    have ln := anyL_len al
    have eqd : ∀ o, del (del (upd H4 D o) p) D = del (del H4 p) D := fun o => by
      funext z
      by_cases y1 : z = D
      · rw [y1, del_same, del_same]
      · rw [del_ne y1, del_ne y1]
        by_cases y2 : z = p
        · rw [y2, del_same, del_same]
        · rw [del_ne y2, del_ne y2, upd_ne y1]
    refine ⟨acc, ha4, Nat.lt_of_lt_of_le (by omega : acc.length < 1000) (by decide), ?_, ?_, acc ++ [y], ds ++ [d], upd_same, ?_, by rw [List.length_append, l] <;> rfl, ?_⟩
    · intro z o ne eo
      rw [upd_ne (ne_of_none eo hD)]
      exact (g.trans g4) z o ne eo
    · obtain ⟨a1, a2, a3, h1, rest⟩ := b4
      refine Bx.more ⟨a1, a2, a3, by rw [upd_ne pD]; exact h1, rest⟩ ?_
      rw [Nat.succ_mul]
      omega
    · rw [eqd]
      exact anyL_snoc (anyL_keep (Grow.del (Grow.of g4.del)) al) an
    · intro k e hk
      by_cases z : k < ds.length
      · rw [List.getElem?_append_left z] at hk
        exact gd k e hk
      · rw [List.getElem?_append_right (by omega)] at hk
        have hk2 : k - ds.length = 0 := by
          have := (List.getElem?_eq_some_iff.mp hk).1
          rw [List.length_singleton] at this
          omega
        rw [hk2] at hk
        cases hk
        have : k = i := by omega
        rw [this]
        exact gd4
  · rintro H ⟨g, b, acc, ds, ha, al, l, gd⟩
    exact hq H acc ds g b ha al l gd
theorem rows_of {P : Nat → List Int → Prop} : ∀ {ds : List PyData}, (∀ (i : Nat) (d : PyData), ds[i]? = some d → ∃ r, d = lstI r ∧ P i r) → ∃ T : List (List Int), ds = T.map lstI ∧ ∀ i r, T[i]? = some r → P i r := fun {ds} h => by
  induction ds generalizing P with
  | nil => exact ⟨[], rfl, fun i r e => by simp at e⟩
  | cons d ds ih =>
    obtain ⟨r, rfl, p0⟩ := h 0 d rfl
    obtain ⟨T, rfl, hT⟩ := ih (P := fun i r => P (i + 1) r) fun i d e => h (i + 1) d e
    refine ⟨r :: T, rfl, fun i s e => ?_⟩
    cases i with
    | zero =>
      cases Option.some.inj e
      exact p0
    | succ i => exact hT i s e
theorem ints_of {P : Int → Prop} : ∀ {ds : List PyData}, (∀ (i : Nat) (d : PyData), ds[i]? = some d → ∃ e : Int, d = PyData.int e ∧ P e) → ∃ r : List Int, ds = r.map PyData.int ∧ ∀ e, e ∈ r → P e := fun {ds} h => by
  induction ds with
  | nil => exact ⟨[], rfl, fun e he => (nomatch he)⟩
  | cons d ds ih =>
    obtain ⟨e, rfl, p0⟩ := h 0 d rfl
    obtain ⟨r, rfl, hr⟩ := ih fun i d q => h (i + 1) d q
    refine ⟨e :: r, rfl, fun x hx => ?_⟩
    rcases List.mem_cons.mp hx with z | z
    · rw [z]
      exact p0
    · exact hr x z
theorem tabT_rows {n : Nat} {T : List (List Int)} (n0 : 1 ≤ n) (n7 : n ≤ 7) (l : T.length = n) (h : ∀ a r, T[a]? = some r → r.length + a = n ∧ ∀ e, e ∈ r → 0 ≤ e ∧ e ≤ 6) : TabT n T (.list (T.map lstI)) :=
  ⟨n0, n7, ⟨_, .inl rfl, likeV_lstsK _⟩, l, h⟩
/-- a table drawn: a new list of lists -/
def spDrawnT : Sp := fun vs H Q _ => ∃ (p : Addr) (c : Nat), vs = [.ref p] ∧ Bx H p c ∧ c ≤ 400000 ∧
  ∀ l n T H', Grow p H H' → Bx H' p (c + 80) → Any (del H' p) (.ref l) (.list (T.map lstI)) → TabT n T (.list (T.map lstI)) → Q (.ref l) H'
end Rw
set_option Elab.async false
set_option linter.all false
set_option maxRecDepth 100000
set_option maxHeartbeats 8000000
namespace K41
open PySem PySem.Spec PyProof.Rows L2 Rw
abbrev sDrawn : Stmt := top 65
abbrev NDrawn : List Str := ["_law_box_here", "_law_many", "_law_way", "_law_table", "_law_turn_here", "_law_place", "_law_at", "_law_line", "_law_item"]
theorem scDrawn : FnScope NDrawn ["_law_box_here"] (defScope sDrawn) := ⟨rfl, rfl, rfl, by decide +kernel, rfl, by decide +kernel, by decide +kernel⟩
abbrev tTake4 : TE := tCall spTakeR [] E0 (tCons (tVar 0) (tCons (tC (.int 4)) tNil))
abbrev tLine4 (K : PySem.W.Frag) : TE := tLc (iSeq K (tVar 7)) (gName 8) tYes tTake4 [8]
section
variable {P : Program} {w : World} {K : PySem.W.Frag} {mg : Str → Option Value} {base : Heap}
theorem okDrawn {f : Addr} {fd : FuncData} (F : Fun K "_law_drawn" "_law_drawn" sDrawn f fd) (zr : mg "range" = none) (zx : mg "max" = none) (zn : mg "min" = none) (GT : Own P w K mg base CX0 1 "_law_take" ["_law_box_here", "_law_many"] [] spTakeR) (GS : Own P w K mg base CX0 2 "_law_summed" ["_law_box_here", "_law_many"] [] spSummedT) : FnOk P w K mg base CX0 3 f fd ["_law_box_here"] spDrawnT := by
  refine F.ok scDrawn (fun vs H Q E h => ?_) (fun cdv A outer s H vs Q E hr h => ?_)
  · obtain ⟨p, c, rfl, _⟩ := h
    rfl
  · obtain ⟨p, c, rfl, bx, hc, q⟩ := h
    refine ⟨_, (pss_cons (ps_par (i := 1) (j := 2) (by rfl) scDrawn.nd rfl rfl (by decide) rfl rfl (pa_cons (pe_op op_add pe_int (pe_own GT (hr.mono (by decide)) pass0 (pa_cons (pv 0) (pa_cons pe_int pa_nil)))) (pa_cons (pe_own GT (hr.mono (by decide)) pass0 (pa_cons (pv 0) (pa_cons pe_int pa_nil))) pa_nil)) (by rfl))
    (pss_cons (ps_set (i := 3) scDrawn.nd rfl (Or.inl rfl) (pe_own GS (hr.mono (by decide)) pass0 (pa_cons (pv 0) (pa_cons (pv 1) pa_nil))))
    (pss_cons (ps_if (pt_cmpR op_eq (pv 2) pe_int (nomark _)) (pss_one (ps_ret (pe_lc (own := [("_law_line", 7)]) (g := gName 7) (tt := tYes) (te := tLine4 K) rfl scDrawn.nd (pi_seq (pv 3)) (blkOk_by (N := NDrawn) (sc := defScope sDrawn) (by decide +kernel)) (fun _ _ _ _ _ => (pg_name (i := 7) scDrawn.nd rfl (Or.inl rfl))) (fun _ _ _ _ _ => pts_nil) (fun _ _ _ _ _ => (pe_lc (own := [("_law_item", 8)]) (g := gName 8) (tt := tYes) (te := tTake4) rfl scDrawn.nd (pi_seq (pv 7)) (blkOk_by (N := NDrawn) (by rfl)) (fun _ _ _ _ _ => (pg_name (i := 8) scDrawn.nd rfl (Or.inl rfl))) (fun _ _ _ _ _ => pts_nil) (fun _ _ _ _ _ => (pe_own GT (hr.mono (by decide)) pass0 (pa_cons (pv 0) (pa_cons pe_int pa_nil))))))))) pss_nil)
    (pss_cons (ps_for PassesOwn.never rfl (pi_range1 rfl zr (pa_cons (pe_op op_sub (pv 2) pe_int) pa_nil)) (pg_name (i := 4) scDrawn.nd rfl (Or.inl rfl)) (pss_cons (ps_set (i := 5) scDrawn.nd rfl (Or.inl rfl) (pe_own GT (hr.mono (by decide)) pass0 (pa_cons (pv 0) (pa_cons (pv 1) pa_nil))))
      (pss_cons (ps_set (i := 6) scDrawn.nd rfl (Or.inl rfl) (pe_own GT (hr.mono (by decide)) pass0 (pa_cons (pv 0) (pa_cons (pe_op op_sub (pv 1) (pv 5)) pa_nil))))
      (pss_one (ps_asg (pe_callB (call_max2 rfl) (by rfl) zx boot_max (pa_cons pe_int (pa_cons (pe_callB (call_min2 rfl) (by rfl) zn boot_min (pa_cons pe_int (pa_cons (pe_op op_add (pe_ix ix_list (pe_ix ix_list (pv 3) (pv 5) (fun _ _ => rfl)) (pv 6) (fun _ _ => rfl)) (pe_ix ix_list (pe_lst (pa_cons pe_int (pa_cons (pe_un un_neg pe_int) (pa_cons pe_int (pa_cons (pe_un un_neg pe_int) (pa_cons pe_int (pa_cons (pe_un un_neg pe_int) pa_nil))))))) (pe_own GT (hr.mono (by decide)) pass0 (pa_cons (pv 0) (pa_cons pe_int pa_nil))) (fun _ _ => rfl))) pa_nil))) pa_nil))) (pg_sub (pe_ix ix_list (pv 3) (pv 5) (fun _ _ => rfl)) (pv 6) set_list))))))
    (pss_one (ps_ret (pv 3))))))), ?_⟩
    refine ⟨_, rfl, p, 7, c, rfl, by decide, by decide, bx, by omega, fun r H1 r0 r1 G1 B1 => ⟨_, _, rfl, rfl, ?_⟩⟩
    obtain ⟨m, rfl⟩ : ∃ m : Nat, r = ((m : Nat) : Int) := ⟨r.toNat, by omega⟩
    obtain ⟨n, hn⟩ : ∃ n, n = m + 1 := ⟨_, rfl⟩
    dsimp only
    rw [show (1 : Int) + ((m : Nat) : Int) = ((n : Nat) : Int) by omega]
    refine ⟨_, rfl, p, 4, c + 1, rfl, by decide, by decide, B1, by omega, fun w' H2 w0 w1 G2 B2 => ⟨_, _, rfl, ?_⟩⟩
    refine ⟨_, rfl, _, rfl, p, n, c + 2, rfl, B2, by omega, by omega, by omega, fun D bs f H3 G3 B3 t3 low => ?_⟩
    have G12 := G1.trans G2
    have G13 := G12.trans G3
    obtain ⟨b1, b2, b3, hpe2, _⟩ := id B2
    have nDp : D ≠ p := fun z => by have := t3.nA; rw [z, hpe2] at this; cases this
    refine ⟨_, rfl, rfl, _, rfl, ite2 (fun z => ?_) (fun z => ?_)⟩
    · -- all drawn anew
      refine ⟨_, rfl, D, true, _, rfl, SqL.of t3.a, fun L hL => ?_⟩
      have lb : bs.length = n := t3.len.trans mkT_len
      refine lc_boxI (walk_seq (k := true)) (by rw [List.length_map]; omega) hL B3 (fun H' g => SqL.of (g _ _ nDp t3.a)) (t := 7) (fun i d => ∃ r, d = lstI r ∧ (r.length + i = n ∧ ∀ e, e ∈ r → 0 ≤ e ∧ e ≤ 6)) ?_ ?_
      · rintro i y H4 hi hy G4 B4 ⟨o4, ho4⟩
        refine ⟨rfl, fun k hk => ?_⟩
        have hi2 : i < n := by rw [List.length_map] at hi; omega
        obtain ⟨b, hb, eb, hbH, bD⟩ := t3.at_ (mkT_at (f := f) hi2)
        rw [List.getElem?_map, hb] at hy
        cases hy
        have nbp : b ≠ p := fun z => by rw [z, hpe2] at hbH; cases hbH
        have eb4 := G4 _ _ nbp eb
        refine ⟨_, rfl, b, true, _, rfl, SqL.of eb4, fun L2 hL2 => ?_⟩
        have lr : ((rowT n f i).map V.int).length = n - i := by rw [List.length_map, rowT_len]
        refine lc_boxI (walk_seq (k := true)) (by omega) hL2 B4 (fun H' g => SqL.of (g _ _ nbp eb4)) (t := 1) (fun _ d => ∃ e, d = .int e ∧ (0 ≤ e ∧ e ≤ 6)) ?_ ?_
        · rintro j y H5 hj hy G5 B5 _
          refine ⟨rfl, fun k' hk' => ?_⟩
          refine ⟨_, rfl, p, 4, _, rfl, by decide, by decide, B5, by omega, fun e H6 e0 e1 G6 B6 => hk' _ (.int e) H6 G6 (by simpa using B6) ⟨e, rfl, by omega, by omega⟩ (.int e)⟩
        · intro H5 acc ds G5 B5 ha al ld gd
          obtain ⟨r, rfl, hr2⟩ := ints_of (P := fun e => 0 ≤ e ∧ e ≤ 6) gd
          rw [List.length_map, lr] at ld
          have pL2 := B4.ne hL2
          have LL2 : L2 ≠ L := fun z => by rw [z, ho4] at hL2; cases hL2
          refine hk (.ref L2) (lstI r) H5 G5 (B5.more ?_) ⟨r, rfl, by omega, hr2⟩ ?_
          · rw [lr]
            have : (n - i) * 1 ≤ 7 := by omega
            omega
          · have e := anyL_ints al
            exact .lst (by rw [del_ne LL2, del_ne pL2.symm, ha, e]) (ints_anyL r)
      · intro H4 acc ds G4 B4 ha al ld gd
        obtain ⟨T, rfl, hT⟩ := rows_of gd
        rw [List.length_map, List.length_map, lb] at ld
        have pL := B3.ne hL
        refine q L n T H4 (G13.trans G4) (B4.more ?_) (.lst (by rw [del_ne pL.symm]; exact ha) (anyL_keep same_del al)) (tabT_rows (by omega) (by omega) ld hT)
        rw [List.length_map, lb]
        have : n * 7 ≤ 7 * 7 := Nat.mul_le_mul (by omega) (by omega)
        omega
    · -- one or two items otherwise
      obtain ⟨w2, rfl⟩ : ∃ w2 : Nat, w' = ((w2 : Nat) : Int) := ⟨w'.toNat, by omega⟩
      have hw0 : w2 ≠ 0 := fun y => z (decide_eq_true (by rw [y] <;> rfl))
      refine ⟨_, rfl, _, _, rfl, rfl, _, rfl, by omega, by omega, ?_⟩
      rw [show (((w2 : Nat) : Int) - 1).toNat = w2 - 1 by omega]
      have w4 : w2 < 4 := by omega
      refine for_range (lo := 0) (n := w2 - 1) (fun i σ' H' => ∃ y4 y5 y6 f, σ' = [some (.ref p), some (.int ((n : Nat) : Int)), some (.int ((w2 : Nat) : Int)), some (.ref D), y4, y5, y6, none, none] ∧ Grow p H2 H' ∧ Bx H' p (c + 22 + 3 * i) ∧ Tab H2 H' D bs (mkT n f) ∧ ∀ a b, a ≤ b → b < n → 0 ≤ f a b ∧ f a b ≤ 6)
        ⟨_, _, _, f, rfl, G3, B3, t3, low⟩ ?_ ?_
      · rintro i σ' H4 hi ⟨y4, y5, y6, f, rfl, G4, B4, t4, low⟩
        refine ⟨_, rfl, _, rfl, p, ((n : Nat) : Int), _, rfl, by omega, by omega, B4, by omega, fun x H5 x0 x1 G5 B5 => ?_⟩
        obtain ⟨a, rfl⟩ : ∃ a : Nat, x = ((a : Nat) : Int) := ⟨x.toNat, by omega⟩
        refine ⟨_, rfl, _, rfl, _, rfl, _, _, rfl, rfl, p, ((n : Nat) : Int) - ((a : Nat) : Int), _, rfl, by omega, by omega, B5, by omega, fun y H6 y0 y1 G6 B6 => ?_⟩
        obtain ⟨d, rfl⟩ : ∃ d : Nat, y = ((d : Nat) : Int) := ⟨y.toNat, by omega⟩
        have ha : a < n := by omega
        have had : a + d < n := by omega
        have t6 := (t4.grow hpe2 G5).grow hpe2 G6
        obtain ⟨r, hr', er, hrH, hrD⟩ := t6.at_ (mkT_at (f := f) ha)
        have hrs : (bs.map V.ref)[a]? = some (.ref r) := by rw [List.getElem?_map, hr'] <;> rfl
        have hcell : ((rowT n f a).map V.int)[d]? = some (.int (f a (a + d))) := by rw [List.getElem?_map, rowT_at had] <;> rfl
        refine ⟨_, rfl, _, rfl, D, _, _, _, rfl, rfl, SqL.of t6.a, atI_nat (j := a) hrs, _, rfl, r, _, _, _, rfl, rfl, SqL.of er, atI_nat (j := d) hcell, ?_⟩
        refine ⟨_, rfl, _, rfl, _, rfl, by show 6 ≤ sizeLine; decide, fun U hU => ?_⟩
        have k7 := same_new (o := .lst [V.int 1, .int (-1), .int 1, .int (-1), .int 2, .int (-2)]) hU
        have e7 := upd_same (H := H6) (a := U) (o := .lst [V.int 1, .int (-1), .int 1, .int (-1), .int 2, .int (-2)])
        have t7 := t6.keep k7
        have B7 := B6.keep k7
        have G7 := (G4.trans (G5.trans G6)).trans (Grow.of k7)
        have nU : U ≠ p := (B6.ne hU).symm
        replace e7 : (upd H6 U (.lst [V.int 1, .int (-1), .int 1, .int (-1), .int 2, .int (-2)])) U = some (.lst [V.int 1, .int (-1), .int 1, .int (-1), .int 2, .int (-2)]) := e7
        generalize upd H6 U (.lst [V.int 1, .int (-1), .int 1, .int (-1), .int 2, .int (-2)]) = H7 at k7 e7 t7 B7 G7
        refine ⟨_, rfl, p, 6, _, rfl, by decide, by decide, B7, by omega, fun e H8 e0 e1 G8 B8 => ?_⟩
        obtain ⟨e, rfl⟩ : ∃ e' : Nat, e = ((e' : Nat) : Int) := ⟨e.toNat, by omega⟩
        obtain ⟨v, hv⟩ : ∃ v : Int, ([V.int 1, .int (-1), .int 1, .int (-1), .int 2, .int (-2)])[e]? = some (.int v) := by
          rcases (by omega : e = 0 ∨ e = 1 ∨ e = 2 ∨ e = 3 ∨ e = 4 ∨ e = 5) with y | y | y | y | y | y <;> subst y <;> exact ⟨_, rfl⟩
        have t8 := t7.grow hpe2 G8
        refine ⟨U, _, _, _, rfl, rfl, SqL.of (G8 _ _ nU e7), atI_nat (j := e) hv, _, _, rfl, rfl, _, _, rfl, _, _, rfl, ?_⟩
        obtain ⟨u, hu⟩ : ∃ u : Int, u = if (if f a (a + d) + v < 6 then f a (a + d) + v else 6) > 0 then (if f a (a + d) + v < 6 then f a (a + d) + v else 6) else 0 := ⟨_, rfl⟩
        rw [← hu]
        have hu2 : 0 ≤ u ∧ u ≤ 6 := by
          rw [hu]
          split <;> split <;> omega
        obtain ⟨r2, hr2, er2, hrH2, _⟩ := t8.at_ (mkT_at (f := f) ha)
        rw [hr'] at hr2
        cases hr2
        refine ⟨_, rfl, _, rfl, D, _, _, _, rfl, rfl, SqL.of t8.a, atI_nat (j := a) hrs, _, rfl, r, _, _, d, rfl, rfl, er2, Evl.ixN_nat (by rw [List.length_map, rowT_len]; omega), ?_⟩
        have t9 := t8.cell (mkT_at ha) hr' d u
        have hm := mkT_set (n := n) (f := f) (a := a) (b := a + d) (by omega) had u
        rw [show a + d - a = d by omega] at hm
        rw [hm] at t9
        have nr : r ≠ p := fun y => by rw [y, hpe2] at hrH; cases hrH
        refine ⟨_, _, _, _, rfl, t8.same_g (n := 0) (G7.trans G8) hr' _, (bxB_put B8 nr).more (by omega), t9, fun x y xy hy => ?_⟩
        split
        · exact hu2
        · exact low x y xy hy
      · rintro σ' H4 ⟨y4, y5, y6, f, rfl, G4, B4, t4, low⟩
        refine ⟨_, rfl, q D n (mkT n f) H4 (G12.trans G4) (B4.more (by omega)) (t4.any fun b hb o e => ?_) (tabT_mk (by omega) (by omega) low)⟩
        rw [del_ne fun y => by rw [y, hpe2] at hb; cases hb]
        exact e
end
end K41
set_option Elab.async false
set_option linter.all false
set_option maxRecDepth 100000
set_option maxHeartbeats 8000000
namespace K41
open PySem PySem.Spec PyProof.Rows L2 Rw
abbrev sPatOf : Stmt := top 48
theorem scPatOf : FnScope ["table"] ["table"] (defScope sPatOf) := ⟨rfl, rfl, rfl, by decide +kernel, rfl, by decide +kernel, by decide +kernel⟩
abbrev sNumBy : Stmt := top 49
abbrev NNumBy : List Str := ["table", "bar", "first", "last", "inner"]
theorem scNumBy : FnScope NNumBy ["table", "bar"] (defScope sNumBy) := ⟨rfl, rfl, rfl, by decide +kernel, rfl, by decide +kernel, by decide +kernel⟩
abbrev sValAt : Stmt := top 50
abbrev NValAt : List Str := ["table", "first", "last"]
theorem scValAt : FnScope NValAt NValAt (defScope sValAt) := ⟨rfl, rfl, rfl, by decide +kernel, rfl, by decide +kernel, by decide +kernel⟩
theorem mul_patX {k : Nat} (h : k ≤ 6) : PySem.MulOk ">" ((k : Nat) : Int) := by
  rcases (by omega : k = 0 ∨ k = 1 ∨ k = 2 ∨ k = 3 ∨ k = 4 ∨ k = 5 ∨ k = 6) with e | e | e | e | e | e | e <;> subst e <;> first | exact ⟨by decide, fun h => absurd (by decide) h, fun h => absurd (by decide) h⟩ | exact ⟨by decide, fun _ _ => by decide +kernel, fun _ _ => by decide +kernel⟩
section
variable {P : Program} {w : World} {K : PySem.W.Frag} {mg : Str → Option Value} {base : Heap}
theorem okPatOf {f : Addr} {fd : FuncData} (F : Fun K "_pattern_of" "_pattern_of" sPatOf f fd) (zn : mg "len" = none) : FnOk P w K mg base CX0 1 f fd ["table"] spPatT := by
  refine F.ok scPatOf (fun vs H Q E h => ?_) (fun cdv A outer s H vs Q E hr h => ?_)
  · obtain ⟨v, d, n, T, rfl, _⟩ := h
    rfl
  · obtain ⟨v, d, n, T, rfl, an, t, q⟩ := h
    have n0 := t.n0
    have n7 := t.n7
    obtain ⟨k, p, xs, rfl, hs, ln, _⟩ := tab_lines t an
    refine ⟨_, (pss_one (ps_ret (pe_op op_mulS pe_str (pe_op op_sub (pe_callB call_len_seq (by rfl) zn (by decide +kernel) (pa_cons (pv 0) pa_nil)) pe_int)))), ?_⟩
    refine ⟨_, rfl, p, xs, rfl, (hs (Same.refl _) K).or, _, _, rfl, rfl, _, ((n - 1 : Nat) : Int), rfl, ?_, ?_, q⟩
    · show V.int ((xs.length : Int) - 1) = V.int ((n - 1 : Nat) : Int)
      rw [ln, show (n : Int) - 1 = ((n - 1 : Nat) : Int) by omega]
    · exact mul_patX (by omega)
theorem okValAt {f : Addr} {fd : FuncData} (F : Fun K "_value_at" "_value_at" sValAt f fd) (zn : mg "len" = none) : FnOk P w K mg base CX0 1 f fd ["table", "first", "last"] spValT := by
  refine F.ok scValAt (fun vs H Q E h => ?_) (fun cdv A outer s H vs Q E hr h => ?_)
  · obtain ⟨v, d, n, T, a, b, rfl, _⟩ := h
    rfl
  · obtain ⟨v, d, n, T, a, b, rfl, an, t, a0, ab, bn, q⟩ := h
    have n0 := t.n0
    obtain ⟨k, p, xs, rfl, hs, ln, lines⟩ := tab_lines t an
    refine ⟨_, (pss_one (ps_ret (pe_ifExp (PW.pt (pw_or (pt_cmpR op_eq (pv 1) (pe_un un_neg pe_int) (nomark _)) (pw_or1 (pt_cmpR op_eq (pv 2) (pe_callB call_len_seq (by rfl) zn (by decide +kernel) (pa_cons (pv 0) pa_nil)) (nomark _))))) pe_int (pe_ix ix_seq (pe_ix ix_seq (pv 0) (pv 1) (fun _ _ => rfl)) (pe_op op_sub (pv 2) (pv 1)) (fun _ _ => rfl))))), ?_⟩
    refine ⟨_, rfl, _, rfl, rfl, _, rfl, ?_⟩
    unfold valT at q
    refine ite2 (fun z => ?_) (fun z => ?_)
    · have z1 : V.int a = V.int (-1) := of_decide_eq_true z
      rw [if_pos (.inl (V.int.inj z1))] at q
      exact iteT q
    · refine ⟨_, rfl, _, rfl, p, xs, rfl, (hs (Same.refl _) K).or, rfl, _, rfl, ?_⟩
      have na : a ≠ -1 := fun y => z (decide_eq_true (by rw [y] <;> rfl))
      refine ite2 (fun y => ?_) (fun y => ?_)
      · have y1 : V.int b = V.int (xs.length : Int) := of_decide_eq_true y
        rw [if_pos (.inr (by rw [← ln]; exact V.int.inj y1))] at q
        exact q
      · have nb : b ≠ (n : Int) := fun x => y (decide_eq_true (by rw [x, ln]))
        rw [if_neg (by omega)] at q
        obtain ⟨i, rfl⟩ : ∃ i : Nat, a = (i : Int) := ⟨a.toNat, by omega⟩
        obtain ⟨j, rfl⟩ : ∃ j : Nat, b = (j : Int) := ⟨b.toNat, by omega⟩
        obtain ⟨k2, l2, r, hx, hr2, lr, rr, h2⟩ := lines i (by omega)
        refine ⟨_, rfl, _, rfl, ix_sq (hs (Same.refl _) K) hx ⟨_, rfl, _, rfl, _, _, rfl, rfl, ?_⟩⟩
        have e : ((j : Int) - (i : Int)) = ((j - i : Nat) : Int) := by omega
        show rIx K (.ref l2) (.int ((j : Int) - (i : Int))) H _
        rw [e]
        refine ix_rowg (h2 (Same.refl _) K) (by omega) ?_
        unfold tabV at q
        rw [show ((i : Int)).toNat = i by omega, show ((j : Int)).toNat = j by omega, hr2] at q
        exact q
theorem okNumBy {f : Addr} {fd : FuncData} (F : Fun K "_number_by" "_number_by" sNumBy f fd) (GV : Own P w K mg base CX0 1 "_value_at" ["table", "first", "last"] [] spValT) : FnOk P w K mg base CX0 2 f fd ["table", "bar"] spNumT := by
  refine F.ok scNumBy (fun vs H Q E h => ?_) (fun cdv A outer s H vs Q E hr h => ?_)
  · obtain ⟨v, t, d, n, T, b, rfl, _⟩ := h
    rfl
  · obtain ⟨v, t, d, n, T, b, rfl, an, cn, et, hb, q⟩ := h
    obtain ⟨b1, b2⟩ := bars_mem hb
    have n7 := cn.n7
    refine ⟨_, (pss_cons (ps_asg (pv 1) (pg_tup rfl (pgs_cons (pg_name (i := 2) scNumBy.nd rfl (Or.inl rfl)) (pgs_cons (pg_name (i := 3) scNumBy.nd rfl (Or.inl rfl)) pgs_nil))))
      (pss_cons (ps_set (i := 4) scNumBy.nd rfl (Or.inl rfl) (pe_op op_sub (pe_own GV hr pass0 (pa_cons (pv 0) (pa_cons (pv 2) (pa_cons (pv 3) pa_nil)))) (pe_own GV hr pass0 (pa_cons (pv 0) (pa_cons (pe_op op_sub (pv 2) pe_int) (pa_cons (pv 3) pa_nil))))))
      (pss_one (ps_ret (pe_op op_add (pe_op op_sub (pv 4) (pe_own GV hr pass0 (pa_cons (pv 0) (pa_cons (pv 2) (pa_cons (pe_op op_add (pv 3) pe_int) pa_nil))))) (pe_own GV hr pass0 (pa_cons (pv 0) (pa_cons (pe_op op_sub (pv 2) pe_int) (pa_cons (pe_op op_add (pv 3) pe_int) pa_nil))))))))), ?_⟩
    refine ⟨_, rfl, t, _, rfl, SqT.of et, rfl, _, _, rfl, _, _, rfl, rfl, ?_⟩
    refine ⟨_, rfl, _, rfl, _, rfl, v, d, n, T, _, _, rfl, an, cn, by omega, by omega, by omega, ?_⟩
    refine ⟨_, rfl, _, rfl, _, _, rfl, rfl, _, rfl, v, d, n, T, _, _, rfl, an, cn, by omega, by omega, by omega, ?_⟩
    refine ⟨_, _, rfl, rfl, ?_⟩
    refine ⟨_, rfl, _, rfl, _, rfl, _, rfl, _, _, rfl, rfl, v, d, n, T, _, _, rfl, an, cn, by omega, by omega, by omega, ?_⟩
    refine ⟨_, _, rfl, rfl, ?_⟩
    refine ⟨_, rfl, _, rfl, _, _, rfl, rfl, _, rfl, _, _, rfl, rfl, v, d, n, T, _, _, rfl, an, cn, by omega, by omega, by omega, ?_⟩
    exact ⟨_, _, rfl, rfl, q⟩
end
end K41
set_option Elab.async false
set_option linter.all false
set_option maxRecDepth 100000
set_option maxHeartbeats 8000000
namespace Rw
open PySem PySem.Spec PyProof.Rows L2
def rLenQ (K : PySem.W.Frag) : List V → Hp → VK → Prop := fun xs H Q => ∃ p ys, xs = [.ref p] ∧ (SqL K H p ys ∨ SqT K H p ys) ∧ Q (.int ys.length) H
theorem bls_all {f : Nat → Bool} (n : Nat) : ((List.range n).map f).all id = (List.range n).all f := by simp
end Rw
namespace K41
open PySem PySem.Spec PyProof.Rows L2 Rw
abbrev sIsTab : Stmt := top 46
abbrev NIsTab : List Str := ["value", "place", "ranks", "rank"]
theorem scIsTab : FnScope NIsTab ["value"] (defScope sIsTab) := ⟨rfl, rfl, rfl, by decide +kernel, rfl, by decide +kernel, by decide +kernel⟩
abbrev sCTab : Stmt := top 47
theorem scCTab : FnScope ["table"] ["table"] (defScope sCTab) := ⟨rfl, rfl, rfl, by decide +kernel, rfl, by decide +kernel, by decide +kernel⟩
abbrev gPR (K : PySem.W.Frag) : TG := gTup K 2 (gCons (gName 1) (gCons (gName 2) gNil))
abbrev tLn (K : PySem.W.Frag) (r1 r2 : R2) : TE := tAndV (tCall spList [] E0 (tCons (tVar 2) tNil)) (tAndV (tOp r1 (tCB (rLenQ K) (tCons (tVar 2) tNil)) (tOp r2 (tCB (rLenQ K) (tCons (tVar 0) tNil)) (tVar 1))) (tCB (rAll K) (tCons (tLc (iSeq K (tVar 2)) (gName 3) tYes (tCall spInt [] E0 (tCons (tVar 3) (tCons (tC (.int 0)) (tCons (tC (.int 6)) tNil)))) [3]) tNil)))
section
variable {P : Program} {w : World} {K : PySem.W.Frag} {mg : Str → Option Value} {base : Heap} {aI aT C CP CT CZ CA CM CL CG CB CV : Addr} {kI : List (Int × Value)} {kT : List (Str × Value)}
theorem okIsTab {f : Addr} {fd : FuncData} (F : Fun K "_is_table" "_is_table" sIsTab f fd) (T : Txt K w mg aI aT CP CT CZ CA CM CL kI kT) (GL : Own P w K mg base CX0 1 "is_list" ["value"] [] spList) (GI : Own P w K mg base CX0 2 "is_integer" ["value", "low", "high"] [] spInt) : FnOk P w K mg base CX0 3 f fd ["value"] spIsTab := by
  refine F.ok scIsTab (fun vs H Q E h => ?_) (fun cdv A outer s H vs Q E hr h => ?_)
  · obtain ⟨v, d, rfl, _⟩ := h
    rfl
  · obtain ⟨v, d, rfl, an, wd, q⟩ := h
    obtain ⟨tM, gM⟩ := T.gM
    refine ⟨_, (pss_cons (ps_if (pt_not (PW.pt (pw_and (pt_val (pe_own GL (hr.mono (by decide)) pass0 (pa_cons (pv 0) pa_nil))) (pw_and1 (pt_chain op_le op_le pe_int (pe_callB call_len_seq (by rfl) T.len (by decide +kernel) (pa_cons (pv 0) pa_nil)) (pe_op op_add (pe_glob (v := .int 6) rfl gM ⟨_, rfl⟩) pe_int)))))) (pss_one (ps_ret pe_bl)) pss_nil)
      (pss_one (ps_ret (pe_callB (cr_all rfl) (by rfl) T.all (by decide +kernel) (pa_cons (pe_lc (own := [("place", 1), ("ranks", 2)]) (g := gPR K) (tt := tYes) (te := tLn K _ _) rfl scIsTab.nd (pi_enumB (by rfl) T.enum (pa_cons (pv 0) pa_nil)) (blkOk_by (N := NIsTab) (sc := defScope sIsTab) (by decide +kernel)) (fun _ _ _ _ _ => (pg_tup rfl (pgs_cons (pg_name (i := 1) scIsTab.nd rfl (Or.inl rfl)) (pgs_cons (pg_name (i := 2) scIsTab.nd rfl (Or.inl rfl)) pgs_nil)))) (fun _ _ _ _ _ => pts_nil)
        (fun _ _ _ _ _ => (pe_and (pe_own GL (hr.mono (by decide)) pass0 (pa_cons (pv 2) pa_nil)) (pe_and (pe_cmpR op_eq (pe_callB call_len_seq (by rfl) T.len (by decide +kernel) (pa_cons (pv 2) pa_nil)) (pe_op op_sub (pe_callB call_len_seq (by rfl) T.len (by decide +kernel) (pa_cons (pv 0) pa_nil)) (pv 1)) (nomark _)) (pe_one (pe_callB (cr_all rfl) (by rfl) T.all (by decide +kernel) (pa_cons (pe_lc (own := [("rank", 3)]) (g := gName 3) (tt := tYes) rfl scIsTab.nd (pi_seq (pv 2)) (blkOk_by (N := NIsTab) (by rfl)) (fun _ _ _ _ _ => (pg_name (i := 3) scIsTab.nd rfl (Or.inl rfl))) (fun _ _ _ _ _ => pts_nil)
          (fun _ _ _ _ _ => (pe_own GI (hr.mono (by decide)) pass0 (pa_cons (pv 3) (pa_cons pe_int (pa_cons (pe_glob (v := .int 6) rfl gM ⟨_, rfl⟩) pa_nil)))))) pa_nil))))))) pa_nil))))), ?_⟩
    refine ⟨_, rfl, v, d, rfl, an, fun H1 k1 => ?_⟩
    rcases seq_flag an with ⟨e, k, a, xs, rfl, hs, al⟩ | e
    · rw [e]
      have ln := anyL_len al
      have wl := wd.len
      refine ⟨_, rfl, iteT ⟨_, rfl, a, xs, rfl, (hs k1 K).or, _, _, rfl, rfl, _, rfl, ?_⟩⟩
      have hv : isTabD d = ((decide (1 ≤ (itemsD d).length) && decide ((itemsD d).length ≤ 7)) && (List.range (itemsD d).length).all fun i => lineB (itemsD d).length i (atD d i)) := by
        unfold isTabD
        rw [e] <;> rfl
      rw [hv] at q
      refine ite2 (fun z => ?_) (fun z => ?_)
      · have z1 := of_decide_eq_true z
        refine ⟨_, _, rfl, rfl, _, _, rfl, rfl, _, rfl, ?_⟩
        refine ite2 (fun y => ?_) (fun y => ?_)
        rotate_left
        · have y1 : (xs.length : Int) ≤ 6 + 1 := by simpa using y
          rw [decide_eq_true (by omega : 1 ≤ (itemsD d).length), decide_eq_true (by omega : (itemsD d).length ≤ 7), Bool.and_self, Bool.true_and] at q
          refine ⟨_, rfl, a, k, xs, rfl, hs k1 K, fun D hD => ?_⟩
          refine lc_it walk_enumB (Pv := fun i H' => Same H1 H' ∧ H' D = some (.lst (((List.range i).map fun j => lineB (itemsD d).length j (atD d j)).map V.bl))) ⟨same_new hD, upd_same⟩ (fun i H' _ z => hs (k1.trans z.1) K) ?_ ?_
          · rintro i y2 H2 H3 hi ⟨s2, e2⟩ ⟨T1, v1, v2, rfl, hT, rfl, h1, h2⟩
            cases h1
            obtain ⟨dx, hdx, anx⟩ := anyL_at al h2
            have kT : Same H2 (upd H2 T1 (.tup [.int (i : Nat), v2])) := same_new hT
            have eT : (upd H2 T1 (.tup [.int (i : Nat), v2])) T1 = some (.tup [.int (i : Nat), v2]) := upd_same
            generalize upd H2 T1 (.tup [.int (i : Nat), v2]) = H3 at kT eT ⊢
            have k3 := (k1.trans s2).trans kT
            refine ⟨T1, _, rfl, SqT.of eT, rfl, _, _, rfl, _, _, rfl, rfl, rfl, ?_⟩
            unfold tYes
            refine Eq.mpr (if_pos (rfl : true = true)) ?_
            have fin : ∀ (b : Bool) (H4 : Hp), Same H3 H4 → b = lineB (itemsD d).length i dx → ∃ acc, H4 D = some (.lst acc) ∧ acc.length < sizeLine ∧ Same H1 (upd H4 D (.lst (acc ++ [.bl b]))) ∧ (upd H4 D (.lst (acc ++ [.bl b]))) D = some (.lst (((List.range (i + 1)).map fun j => lineB (itemsD d).length j (atD d j)).map V.bl)) := fun b H4 k4 eb => by
              refine ⟨_, k4 _ _ (kT _ _ e2), Nat.lt_of_le_of_lt (by rw [List.length_map, List.length_map, List.length_range]; omega : _ ≤ 1000) (by decide), fun y o ey => ?_, ?_⟩
              · rw [upd_ne (ne_of_none ey hD)]
                exact k4 _ _ (kT _ _ (s2 _ _ ey))
              · rw [upd_same, List.range_succ, List.map_append, List.map_append, eb, ← atD_get hdx] <;> rfl
            have wx := wd.sub dx (List.mem_of_getElem? hdx)
            refine ⟨_, rfl, v2, dx, rfl, anx.keep k3, fun H4 k4 => ⟨_, rfl, ?_⟩⟩
            have k34 := k3.trans k4
            rcases seq_flag anx with ⟨ex, kx, ax, ys, rfl, hsx, alx⟩ | ex
            · have lx := anyL_len alx
              rw [ex]
              refine iteT ⟨_, rfl, ax, ys, rfl, (hsx k34 K).or, _, rfl, a, xs, rfl, (hs k34 K).or, _, rfl, _, _, rfl, rfl, rfl, _, rfl, ?_⟩
              have hl : lineB (itemsD d).length i dx = (decide ((itemsD dx).length + i = (itemsD d).length) && (itemsD dx).all isSzD) := by
                unfold lineB
                rw [ex] <;> rfl
              refine ite2 (fun t => ?_) (fun t => ?_)
              · have t1 : V.int (ys.length : Int) = V.int ((xs.length : Int) - ((i : Nat) : Int)) := of_decide_eq_true t
                injection t1 with t2
                rw [decide_eq_true (by omega : (itemsD dx).length + i = (itemsD d).length), Bool.true_and] at hl
                refine ⟨_, rfl, ax, kx, ys, rfl, hsx k34 K, fun D2 hD2 => ?_⟩
                have nD : D ≠ D2 := fun z => by
                  rw [← z, k4 _ _ (kT _ _ e2)] at hD2
                  cases hD2
                refine lc_it walk_seq (Pv := fun j H' => Same H4 H' ∧ H' D2 = some (.lst (((List.range j).map fun l => isSzD (atD dx l)).map V.bl))) ⟨same_new hD2, upd_same⟩ (fun j H' _ z => hsx (k34.trans z.1) K) ?_ ?_
                · rintro j u H6 H5 hj ⟨s5, e5⟩ ⟨rfl, hu⟩
                  refine ⟨rfl, ?_⟩
                  unfold tYes
                  refine Eq.mpr (if_pos (rfl : true = true)) ?_
                  obtain ⟨du, hdu, au⟩ := anyL_at alx hu
                  refine ⟨_, rfl, u, _, _, du, .int 0, .int 6, rfl, au.keep (k34.trans s5), .int _, .int _, ?_⟩
                  refine ⟨_, e5, Nat.lt_of_le_of_lt (by rw [List.length_map, List.length_map, List.length_range]; omega : _ ≤ 1000) (by decide), fun y o ey => ?_, ?_⟩
                  · rw [upd_ne (ne_of_none ey hD2)]
                    exact s5 _ _ ey
                  · rw [upd_same, List.range_succ, List.map_append, List.map_append, ← atD_get hdu] <;> rfl
                · rintro H5 ⟨s5, e5⟩
                  refine ⟨D2, _, rfl, SqL.of e5, fin _ _ (k4.trans s5) ?_⟩
                  rw [hl, bls_all, lx]
                  have := map_get isSzD .none (itemsD dx)
                  conv => rhs; rw [show (itemsD dx).all isSzD = ((itemsD dx).map isSzD).all id by simp, ← this]
                  simp [atD]
              · refine fin _ _ k4 ?_
                rw [hl, decide_eq_false (fun y => t (decide_eq_true ?_)), Bool.false_and]
                show V.int (ys.length : Int) = V.int ((xs.length : Int) - ((i : Nat) : Int))
                rw [show (ys.length : Int) = (xs.length : Int) - ((i : Nat) : Int) by omega]
            · rw [ex]
              refine iteF (fin _ _ k4 ?_)
              unfold lineB
              rw [ex] <;> rfl
          · rintro H2 ⟨s2, e2⟩
            refine ⟨D, _, rfl, SqL.of e2, ?_⟩
            rw [bls_all, ln]
            exact q _ (k1.trans s2)
        · have y1 : 7 < (xs.length : Int) := by simpa using y
          have y2 : ¬ (itemsD d).length ≤ 7 := by omega
          rw [decide_eq_false y2, Bool.and_false, Bool.false_and] at q
          exact q _ k1
      · rw [decide_eq_false (fun x => z (decide_eq_true (by omega)) : ¬ 1 ≤ (itemsD d).length), Bool.false_and, Bool.false_and] at q
        exact ⟨_, rfl, iteT (q _ k1)⟩
    · rw [e]
      have hv : isTabD d = false := by
        unfold isTabD
        rw [e] <;> rfl
      rw [hv] at q
      exact ⟨_, rfl, iteF (iteT (q _ k1))⟩
theorem okCTab {f : Addr} {fd : FuncData} (F : Fun K "_check_table" "_check_table" sCTab f fd) (eB : Err K mg "InvalidTable" CB) (GT : Own P w K mg base CX0 3 "_is_table" ["value"] [] spIsTab) : FnOk P w K mg base (L2.CX P w) 5 f fd ["table"] (spCTab CB) := by
  refine F.okX scCTab (fun vs H Q E h => ?_) (fun cdv A outer s H vs Q E hr h => ?_)
  · obtain ⟨v, d, rfl, _⟩ := h
    rfl
  · obtain ⟨v, d, rfl, an, wd, qt, qf⟩ := h
    refine ⟨_, (pss_one (ps_if (pt_not (pt_val (pe_own GT (hr.mono (by decide)) pass0 (pa_cons (pv 0) pa_nil)))) (pss_one (ps_throw eB rfl (hr.mono (by decide)) (takes_of rfl rfl rfl rfl) (pv 0))) pss_nil)), ?_⟩
    refine ⟨_, rfl, _, d, rfl, an, wd, fun H1 k1 => ⟨_, rfl, ?_⟩⟩
    cases e : isTabD d with
    | true => exact iteF (qt e _ k1)
    | false => exact iteT ⟨_, rfl, thrown_go ((qf e).mono k1)⟩
end
end K41
set_option Elab.async false
set_option linter.all false
set_option maxRecDepth 100000
set_option maxHeartbeats 4000000
namespace K41
open PySem PySem.Spec PyProof.Rows L2 Rw
abbrev sBarP : Stmt := top 29
abbrev NBarP : List Str := ["pattern", "value", "first", "last"]
theorem scBarP : FnScope NBarP ["pattern", "value"] (defScope sBarP) := ⟨rfl, rfl, rfl, by decide +kernel, rfl, by decide +kernel, by decide +kernel⟩
abbrev sCNum : Stmt := top 31
abbrev NCNum : List Str := ["pattern", "numbers", "bar", "number"]
theorem scCNum : FnScope NCNum ["pattern", "numbers"] (defScope sCNum) := ⟨rfl, rfl, rfl, by decide +kernel, rfl, by decide +kernel, by decide +kernel⟩
abbrev sLowSz : Stmt := top 33
abbrev NLowSz : List Str := ["pattern", "numbers", "sizes", "place", "number", "first", "last"]
theorem scLowSz : FnScope NLowSz ["pattern", "numbers"] (defScope sLowSz) := ⟨rfl, rfl, rfl, by decide +kernel, rfl, by decide +kernel, by decide +kernel⟩
abbrev sBars : Stmt := top 28
abbrev NBars : List Str := ["pattern", "places", "first", "last"]
theorem scBars : FnScope NBars ["pattern"] (defScope sBars) := ⟨rfl, rfl, rfl, by decide +kernel, rfl, by decide +kernel, by decide +kernel⟩
abbrev gBN (K : PySem.W.Frag) : TG := gTup K 2 (gCons (gName 2) (gCons (gName 3) gNil))
abbrev gFLN (K : PySem.W.Frag) : TG := gTup K 2 (gCons (gTup K 2 (gCons (gName 5) (gCons (gName 6) gNil))) (gCons (gName 4) gNil))
/-- what more the top has left for numbers of bars -/
structure TxN (mg : Str → Option Value) (K : PySem.W.Frag) (CN CB : Addr) : Prop where
  dict : mg "dict" = none
  sum : mg "sum" = none
  eN : Err K mg "InvalidNumbers" CN
section
variable {P : Program} {w : World} {K : PySem.W.Frag} {mg : Str → Option Value} {base : Heap} {aI aT CP CT CZ CA CM CL CN CB CG : Addr} {kI : List (Int × Value)} {kT : List (Str × Value)}
theorem okBarP {f : Addr} {fd : FuncData} (F : Fun K "is_bar" "is_bar" sBarP f fd) (T : Txt K w mg aI aT CP CT CZ CA CM CL kI kT) (TN : TxN mg K CN CB) (GI : Own P w K mg base CX0 2 "is_integer" ["value", "low", "high"] [] spInt) : FnOk P w K mg base CX0 3 f fd ["pattern", "value"] spBarP := by
  refine F.ok scBarP (fun vs H Q E h => ?_) (fun cdv A outer s H vs Q E hr h => ?_)
  · obtain ⟨x, v, d, rfl, _⟩ := h
    rfl
  · obtain ⟨x, v, d, rfl, lx, an, q⟩ := h
    have lz : x.length ≤ sizeLine := Nat.le_trans lx (by decide)
    refine ⟨_, (pss_cons (ps_if (pt_not (PW.pt (pw_and (pt_val (pe_callB call_isi (by rfl) T.isi (by decide +kernel) (pa_cons (pv 1) (pa_cons (pe_bltn (v := .ty "tuple") rfl T.tuple (by decide +kernel) rfl) pa_nil)))) (pw_and1 (pt_cmpR op_eq (pe_callB call_len_seq (by rfl) T.len (by decide +kernel) (pa_cons (pv 1) pa_nil)) pe_int (nomark _)))))) (pss_one (ps_ret pe_bl)) pss_nil)
      (pss_cons (ps_asg (pv 1) (pg_tup rfl (pgs_cons (pg_name (i := 2) scBarP.nd rfl (Or.inl rfl)) (pgs_cons (pg_name (i := 3) scBarP.nd rfl (Or.inl rfl)) pgs_nil))))
      (pss_one (ps_ret (pe_and (pe_own GI hr pass0 (pa_cons (pv 2) (pa_cons pe_int (pa_cons (pe_callB call_len_str (by rfl) T.len (by decide +kernel) (pa_cons (pv 0) pa_nil)) pa_nil)))) (pe_one (pe_own GI hr pass0 (pa_cons (pv 3) (pa_cons (pv 2) (pa_cons (pe_callB call_len_str (by rfl) T.len (by decide +kernel) (pa_cons (pv 0) pa_nil)) pa_nil)))))))))), ?_⟩
    refine ⟨v, rfl, v, .ty "tuple", _, _, _, rfl, .ty _, any_ty an, kit_tup d, _, rfl, ?_⟩
    cases an with
    | tup ea al =>
      rename_i a xs ds
      have ln := anyL_len al
      refine iteT ⟨_, rfl, a, xs, rfl, .inr (SqT.of ea), rfl, _, rfl, ?_⟩
      by_cases z : xs.length = 2
      · rw [show decide (V.int (xs.length : Int) = V.int 2) = true from decide_eq_true (by rw [z] <;> rfl)]
        obtain ⟨v1, v2, rfl⟩ : ∃ v1 v2, xs = [v1, v2] := by
          match xs, z with
          | [v1, v2], _ => exact ⟨v1, v2, rfl⟩
        cases al with
        | cons a1 al =>
          cases al with
          | cons a2 al =>
            cases al
            refine iteF ⟨_, rfl, a, _, rfl, SqT.of ea, rfl, _, _, rfl, _, _, rfl, rfl, ?_⟩
            refine ⟨_, rfl, _, rfl, x, rfl, lz, _, _, _, _, _, _, rfl, a1, .int _, .int _, _, rfl, ?_⟩
            rename_i d1 d2
            have eb : isBarD x.length (.tuple [d1, d2]) = (inB d1 (.int 0) (.int (x.length : Nat)) && inB d2 d1 (.int (x.length : Nat))) := rfl
            rw [eb] at q
            cases e1 : inB d1 (.int 0) (.int (x.length : Nat)) with
            | false =>
              rw [e1] at q
              exact iteF q
            | true =>
              rw [e1] at q
              exact iteT ⟨_, rfl, _, rfl, _, rfl, x, rfl, lz, _, _, _, _, _, _, rfl, a2, a1, .int _, q⟩
      · rw [show decide (V.int (xs.length : Int) = V.int 2) = false from decide_eq_false fun y => z (by injection y with y; omega)]
        refine iteT ?_
        have eb : isBarD x.length (.tuple ds) = false := by
          match ds, ln with
          | [], _ => rfl
          | [_], _ => rfl
          | [_, _], ln => exact (z ln).elim
          | _ :: _ :: _ :: _, _ => rfl
        rw [eb] at q
        exact q
    | _ => exact iteF (iteT q)
theorem okCNum {f : Addr} {fd : FuncData} (F : Fun K "check_numbers" "check_numbers" sCNum f fd) (T : Txt K w mg aI aT CP CT CZ CA CM CL kI kT) (TN : TxN mg K CN CB) (GB : Own P w K mg base CX0 3 "is_bar" ["pattern", "value"] [] spBarP)
    (GI : Own P w K mg base CX0 2 "is_integer" ["value", "low", "high"] [] spInt) : FnOk P w K mg base (L2.CX P w) 5 f fd ["pattern", "numbers"] (spCNumsG CN) := by
  refine F.okX scCNum (fun vs H Q E h => ?_) (fun cdv A outer s H vs Q E hr h => ?_)
  · rcases h with ⟨x, v, rfl, _⟩ | ⟨x, d, o, kvs, ds, rfl, _⟩ <;> rfl
  · obtain ⟨tM, gM⟩ := T.gM
    refine ⟨_, (pss_cons (ps_if (pt_not (pt_val (pe_callB (cr_or call_isiX call_isiZ) (by rfl) T.isi (by decide +kernel) (pa_cons (pv 1) (pa_cons (pe_bltn (v := .ty "dict") rfl TN.dict (by decide +kernel) rfl) pa_nil))))) (pss_one (ps_throw TN.eN rfl (hr.mono (by decide)) (takes_of rfl rfl rfl rfl) (pv 1))) pss_nil)
      (pss_one (ps_if (pt_not (pt_val (pe_callB (cr_all rfl) (by rfl) T.all (by decide +kernel) (pa_cons (pe_lc (own := [("bar", 2), ("number", 3)]) (g := gBN K) (tt := tYes) rfl scCNum.nd (pi_or (pi_itp (pv 1)) (pi_itm (pv 1))) (blkOk_by (N := NCNum) (sc := defScope sCNum) (by decide +kernel)) (fun _ _ _ _ _ => (pg_tup rfl (pgs_cons (pg_name (i := 2) scCNum.nd rfl (Or.inl rfl)) (pgs_cons (pg_name (i := 3) scCNum.nd rfl (Or.inl rfl)) pgs_nil)))) (fun _ _ _ _ _ => pts_nil) (fun _ _ _ _ _ => (pe_and (pe_own GB (hr.mono (by decide)) pass0 (pa_cons (pv 0) (pa_cons (pv 2) pa_nil))) (pe_one (pe_own GI (hr.mono (by decide)) pass0 (pa_cons (pv 3) (pa_cons pe_int (pa_cons (pe_glob (v := .int 6) rfl gM ⟨_, rfl⟩) pa_nil)))))))) pa_nil)))) (pss_one (ps_throw TN.eN rfl (hr.mono (by decide)) (takes_of rfl rfl rfl rfl) (pv 1))) pss_nil))), ?_⟩
    rcases h with ⟨x, v, rfl, lx, bad, qf⟩ | ⟨x, d, o, kvs, ds, rfl, lx, hd, al, ln, qt, qf⟩
    · rcases bad with ⟨d, an, nd⟩ | ⟨a, its, ks, ws, rfl, hd, ak, aw, bad⟩
      · refine ⟨_, rfl, .inl (.inl ⟨v, .ty "dict", _, _, _, rfl, .ty _, any_ty an, kit_dic d, _, rfl, ?_⟩)⟩
        cases an with
        | dct _ _ => cases nd
        | _ => exact iteT ⟨_, rfl, thrown_go qf⟩
      · refine ⟨_, rfl, .inl (.inr ⟨a, its, .ty "dict", _, _, rfl, hd, .ty _, kit_ty (show kitB "dict" "dict" = some true by decide +kernel), _, rfl, iteF ?_⟩)⟩
        obtain ⟨o, hA⟩ := hd.a
        refine .inr ⟨_, rfl, a, o, its, rfl, hA, fun D2 hD2 => ?_⟩
        have lk := anyL_len ak
        have lw := anyL_len aw
        rw [List.length_map] at lk lw
        refine lc_it walk_itm (Pv := fun k H' => Same H H' ∧ H' D2 = some (.lst ((((ks.zip ws).take k).map (numItm x.length)).map V.bl))) ⟨same_new hD2, upd_same⟩ (fun k H' _ z => hA.keep z.1) ?_ ?_
        · rintro k y H2 H3 hk ⟨s2, e2⟩ ⟨T1, k', v, hkv, rfl, hT, rfl⟩
          have kT : Same H2 (upd H2 T1 (.tup [k', v])) := same_new hT
          have eT : (upd H2 T1 (.tup [k', v])) T1 = some (.tup [k', v]) := upd_same
          generalize upd H2 T1 (.tup [k', v]) = H3 at kT eT ⊢
          obtain ⟨dk, hdk, av1⟩ := anyL_at ak (show (its.map (·.1))[k]? = some k' by rw [List.getElem?_map, hkv] <;> rfl)
          obtain ⟨dv, hdv, av2⟩ := anyL_at aw (show (its.map (·.2))[k]? = some v by rw [List.getElem?_map, hkv] <;> rfl)
          have ak3 := av1.keep (s2.trans kT)
          have av3 := av2.keep (s2.trans kT)
          refine ⟨T1, _, rfl, SqT.of eT, rfl, _, _, rfl, _, _, rfl, rfl, rfl, ?_⟩
          unfold tYes
          refine Eq.mpr (if_pos (rfl : true = true)) ?_
          have hz : (ks.zip ws)[k]? = some (dk, dv) := by
            rw [List.getElem?_zip_eq_some]
            exact ⟨hdk, hdv⟩
          have fin : ∀ b, b = numItm x.length (dk, dv) → ∃ acc, H3 D2 = some (.lst acc) ∧ acc.length < sizeLine ∧ Same H (upd H3 D2 (.lst (acc ++ [.bl b]))) ∧ (upd H3 D2 (.lst (acc ++ [.bl b]))) D2 = some (.lst ((((ks.zip ws).take (k + 1)).map (numItm x.length)).map V.bl)) := fun b eb => by
            refine ⟨_, kT _ _ e2, ?_, fun y o ey => ?_, ?_⟩
            · have := hd.2.1
              refine Nat.lt_of_le_of_lt (?_ : _ ≤ 1000) (by decide)
              rw [List.length_map, List.length_map, List.length_take]
              omega
            · rw [upd_ne (ne_of_none ey hD2)]
              exact kT _ _ (s2 _ _ ey)
            · rw [upd_same, List.take_add_one, hz, eb]
              simp
          refine ⟨_, rfl, _, rfl, x, k', _, rfl, Nat.le_trans lx (by decide), ak3, _, rfl, ?_⟩
          cases e1 : isBarD x.length dk with
          | false => exact iteF (fin false (by unfold numItm; rw [e1, Bool.false_and]))
          | true => exact iteT ⟨_, rfl, _, _, _, dv, _, _, rfl, av3, .int _, .int _, fin _ (by unfold numItm; rw [e1, Bool.true_and])⟩
        · rintro H2 ⟨s2, e2⟩
          have lz : (ks.zip ws).length = its.length := by rw [List.length_zip]; omega
          rw [← lz, List.take_length] at e2
          refine ⟨D2, _, rfl, .inl (.inl e2), _, rfl, ?_⟩
          have e3 : ((ks.zip ws).map (numItm x.length)).all id = false := by
            rw [List.all_map]
            exact bad
          rw [e3]
          exact iteT ⟨_, rfl, thrown_go (qf.mono s2)⟩
    · refine ⟨_, rfl, .inr ⟨d, o, kvs, .ty "dict", _, _, rfl, hd, .ty _, kit_ty (show kitB "dict" "dict" = some true by decide +kernel), _, rfl, iteF ?_⟩⟩
      refine .inl ⟨_, rfl, d, o, kvs, rfl, hd, fun D2 hD2 => ?_⟩
      have lal := anyL_len al
      rw [List.length_map] at lal
      refine lc_it walk_itp (Pv := fun k H' => Same H H' ∧ H' D2 = some (.lst ((((kvs.zip ds).take k).map fun q => numOkB x.length q.1.1 q.2).map V.bl))) ⟨same_new hD2, upd_same⟩ (fun k H' _ z => z.1 _ _ hd) ?_ ?_
      · rintro k y H2 H3 hk ⟨s2, e2⟩ ⟨T1, k', v, t, hkv, ht, rfl, hT, rfl⟩
        have kT : Same H2 (upd H2 T1 (.tup [.ref t, v])) := same_new hT
        have eT : (upd H2 T1 (.tup [.ref t, v])) T1 = some (.tup [.ref t, v]) := upd_same
        generalize upd H2 T1 (.tup [.ref t, v]) = H3 at kT eT ⊢
        obtain ⟨dv, hdv, av⟩ := anyL_at al (show (kvs.map (·.2))[k]? = some v by rw [List.getElem?_map, hkv] <;> rfl)
        have av3 := av.keep (s2.trans kT)
        refine ⟨T1, _, rfl, SqT.of eT, rfl, _, _, rfl, _, _, rfl, rfl, rfl, ?_⟩
        unfold tYes
        refine Eq.mpr (if_pos (rfl : true = true)) ?_
        have hz : (kvs.zip ds)[k]? = some ((k', v), dv) := by
          rw [List.getElem?_zip_eq_some]
          exact ⟨hkv, hdv⟩
        have fin : ∀ b, b = numOkB x.length k' dv → ∃ acc, H3 D2 = some (.lst acc) ∧ acc.length < sizeLine ∧ Same H (upd H3 D2 (.lst (acc ++ [.bl b]))) ∧ (upd H3 D2 (.lst (acc ++ [.bl b]))) D2 = some (.lst ((((kvs.zip ds).take (k + 1)).map fun q => numOkB x.length q.1.1 q.2).map V.bl)) := fun b eb => by
          refine ⟨_, kT _ _ e2, ?_, fun y o ey => ?_, ?_⟩
          · refine Nat.lt_of_le_of_lt (?_ : _ ≤ 900) (by decide)
            rw [List.length_map, List.length_map, List.length_take]
            omega
          · rw [upd_ne (ne_of_none ey hD2)]
            exact kT _ _ (s2 _ _ ey)
          · rw [upd_same, List.take_add_one, hz, eb]
            simp
        refine ⟨_, rfl, _, rfl, x, .ref t, _, rfl, Nat.le_trans lx (by decide), any_tupK (kT _ _ ht), _, rfl, ?_⟩
        cases e1 : isBarD x.length (tupK k') with
        | false => exact iteF (fin false (by unfold numOkB; rw [e1, Bool.false_and]))
        | true => exact iteT ⟨_, rfl, _, _, _, dv, _, _, rfl, av3, .int _, .int _, fin _ (by unfold numOkB; rw [e1, Bool.true_and])⟩
      · rintro H2 ⟨s2, e2⟩
        have lz : (kvs.zip ds).length = kvs.length := by rw [List.length_zip]; omega
        rw [← lz, List.take_length] at e2
        refine ⟨D2, _, rfl, .inl (.inl e2), _, rfl, ?_⟩
        have e3 : ((kvs.zip ds).map fun q => numOkB x.length q.1.1 q.2).all id = numsOk x.length kvs ds := by
          unfold numsOk
          rw [List.all_map]
          rfl
        rw [e3]
        cases e4 : numsOk x.length kvs ds with
        | true => exact iteF (qt e4 _ s2)
        | false => exact iteT ⟨_, rfl, thrown_go ((qf e4).mono s2)⟩
theorem okLowSz {f : Addr} {fd : FuncData} (F : Fun K "low_sizes" "low_sizes" sLowSz f fd) (T : Txt K w mg aI aT CP CT CZ CA CM CL kI kT) (TN : TxN mg K CN CB) (GC : Own P w K mg base (L2.CX P w) 5 "check_numbers" ["pattern", "numbers"] [] (spCNumsG CN)) (GL : Own P w K mg base (L2.CX P w) 4 "check_low" ["sizes"] [] (spLow K CG)) :
    FnOk P w K mg base (L2.CX P w) 6 f fd ["pattern", "numbers"] (spLowSzG CN CG) := by
  refine F.okX scLowSz (fun vs H Q E h => ?_) (fun cdv A outer s H vs Q E hr h => ?_)
  · rcases h with ⟨x, v, rfl, _⟩ | ⟨x, d, o, kvs, ds, rfl, _⟩ <;> rfl
  · refine ⟨_, (pss_cons (ps_expr (pe_own (E := E) GC (hr.mono (by decide)) (passes_call (takes_of rfl rfl rfl rfl) (fun _ _ _ _ z => z)) (pa_cons (pv 0) (pa_cons (pv 1) pa_nil))))
      (pss_cons (ps_setLc (i := 2) (own := [("place", 3)]) (g := gName 3) (tt := tYes) (te := tCB (rSum K) (tCons (tLc (iItp (tVar 1)) (gFLN K) (tTest (tChain _ _ (tVar 5) (tVar 3) (tVar 6))) (tVar 4) [4, 5, 6]) tNil)) rfl scLowSz.nd rfl rfl (sw_true rfl rfl rfl (by decide +kernel)) (pi_range1 rfl T.range (pa_cons (pe_op op_add (pe_callB call_len_str (by rfl) T.len (by decide +kernel) (pa_cons (pv 0) pa_nil)) pe_int) pa_nil)) (blkOk_by (N := NLowSz) (sc := defScope sLowSz) (by decide +kernel)) (fun _ _ _ _ _ => (pg_name (i := 3) scLowSz.nd rfl (Or.inr rfl))) (fun _ _ _ _ _ => pts_nil) (fun _ _ _ _ _ => (pe_callB (cr_sum rfl) (by rfl) TN.sum (by decide +kernel) (pa_cons (pe_lc (own := [("number", 4), ("first", 5), ("last", 6)]) (g := gFLN K) rfl scLowSz.nd (pi_itp (pv 1)) (blkOk_by (N := NLowSz) (by rfl)) (fun _ _ _ _ _ => (pg_tup rfl (pgs_cons (pg_tup rfl (pgs_cons (pg_name (i := 5) scLowSz.nd rfl (Or.inl rfl)) (pgs_cons (pg_name (i := 6) scLowSz.nd rfl (Or.inl rfl)) pgs_nil))) (pgs_cons (pg_name (i := 4) scLowSz.nd rfl (Or.inl rfl)) pgs_nil)))) (fun _ _ _ _ _ => (pts_one (pt_chain op_le op_le (pv 5) (pv 3) (pv 6)))) (fun _ _ _ _ _ => (pv 4))) pa_nil))))
      (pss_cons (ps_expr (pe_own (E := E) GL (hr.mono (by decide)) (passes_call (takes_of rfl rfl rfl rfl) (fun _ _ _ _ z => z)) (pa_cons (pv 2) pa_nil)))
      (pss_one (ps_ret (pv 2)))))), ?_⟩
    rcases h with ⟨x, v, rfl, lx, bad, qf⟩ | ⟨x, d, o, kvs, ds, rfl, lx, hd, al, ln, qf, q⟩
    · exact ⟨_, rfl, _, rfl, .inl ⟨x, v, rfl, lx, bad, qf⟩⟩
    refine ⟨_, rfl, _, rfl, .inr ⟨x, d, o, kvs, ds, rfl, lx, hd, al, ln, fun ok H1 k1 => ?_, qf⟩⟩
    obtain ⟨M, rfl, gM⟩ := nums_of al ok
    obtain ⟨q1, q2⟩ := q M rfl gM
    have lM : M.length ≤ 900 := by unfold nmT at ln; rw [List.length_map] at ln; exact ln
    refine ⟨_, rfl, _, rfl, Nat.le_trans lx (by decide), _, _, rfl, rfl, ((x.length + 1 : Nat) : Int), (by show [V.int (((x.length : Nat) : Int) + 1)] = _; rw [show ((x.length : Nat) : Int) + 1 = ((x.length + 1 : Nat) : Int) by omega]), by omega, by omega, fun l hl => ?_⟩
    have e1 := k1 _ _ hd
    rw [show ((x.length + 1 : Nat) : Int).toNat = x.length + 1 by omega]
    refine lc_it (walk_rng (n := x.length + 1)) (Pv := fun i H' => Same H1 H' ∧ H' l = some (.lst (((List.range i).map fun i => ((szN M i : Nat) : Int)).map V.int))) ⟨same_new hl, upd_same⟩ (fun _ _ _ _ => trivial) ?_ ?_
    · rintro i y H3 H2 hi ⟨s2, e2⟩ ⟨rfl, rfl⟩
      refine ⟨rfl, ?_⟩
      unfold tYes
      refine Eq.mpr (if_pos (rfl : true = true)) ?_
      have ef := s2 _ _ e1
      refine ⟨_, rfl, d, o, _, rfl, ef, fun D2 hD2 => ?_⟩
      have nD : l ≠ D2 := ne_of_none e2 hD2
      refine lc_it walk_itp (Pv := fun k H' => Same H2 H' ∧ H' D2 = some (.lst ((((M.take k).filter fun q => covB q.1 i).map fun q => ((q.2 : Nat) : Int)).map V.int))) ⟨same_new hD2, upd_same⟩ (fun k H' _ z => z.1 _ _ ef) ?_ ?_
      · rintro k y H3 H4 hk ⟨s3, e3⟩ ⟨T1, k', v, t, hkv, ht, rfl, hT, rfl⟩
        obtain ⟨b, hb, rfl, rfl⟩ := nm_get hkv
        have kT : Same H3 (upd H3 T1 (.tup [.ref t, .int ((b.2 : Nat) : Int)])) := same_new hT
        have eT : (upd H3 T1 (.tup [.ref t, .int ((b.2 : Nat) : Int)])) T1 = some (.tup [.ref t, .int ((b.2 : Nat) : Int)]) := upd_same
        generalize upd H3 T1 (.tup [.ref t, .int ((b.2 : Nat) : Int)]) = H4 at kT eT ⊢
        refine ⟨T1, _, rfl, SqT.of eT, rfl, _, _, rfl, ⟨t, _, rfl, SqT.of (kT _ _ ht), rfl, _, _, rfl, _, _, rfl, rfl, ?_⟩⟩
        refine ⟨_, _, rfl, rfl, rfl, ?_⟩
        refine ⟨_, rfl, _, rfl, _, _, rfl, rfl, _, rfl, ?_⟩
        have keep : covB b.1 i = false → Same H2 H4 ∧ H4 D2 = some (.lst ((((M.take (k + 1)).filter fun q => covB q.1 i).map fun q => ((q.2 : Nat) : Int)).map V.int)) := fun z => ⟨s3.trans kT, by rw [take_flt hb, z, if_neg (by decide), List.append_nil]; exact kT _ _ e3⟩
        refine ite2 (fun z => ?_) (fun z => ?_)
        · refine ⟨_, rfl, _, _, rfl, rfl, _, rfl, ?_⟩
          refine ite2 (fun y => ?_) (fun y => ?_)
          · have hh : covB b.1 i = true := by
              unfold covB
              have z1 := of_decide_eq_true z
              have y1 := of_decide_eq_true y
              rw [decide_eq_true (by omega), decide_eq_true (by omega)] <;> rfl
            refine ⟨_, rfl, _, kT _ _ e3, ?_, ?_, ?_⟩
            · refine Nat.lt_of_le_of_lt (?_ : _ ≤ 900) (by decide)
              rw [List.length_map, List.length_map]
              exact Nat.le_trans (List.length_filter_le _ _) (by rw [List.length_take]; omega)
            · exact fun y o ey => by
                rw [upd_ne (ne_of_none ey hD2)]
                exact kT _ _ (s3 _ _ ey)
            · rw [upd_same, take_flt hb, hh, if_pos rfl, List.map_append, List.map_append] <;> rfl
          · refine keep ?_
            unfold covB
            have y1 : ¬ _ := fun x => y (decide_eq_true x)
            rw [decide_eq_false (p := i ≤ b.1.2) (by omega), Bool.and_false]
        · refine ⟨_, rfl, keep ?_⟩
          unfold covB
          have y1 : ¬ _ := fun x => z (decide_eq_true x)
          rw [decide_eq_false (p := b.1.1 ≤ i) (by omega), Bool.false_and]
      · rintro H3 ⟨s3, e3⟩
        rw [show (nmT M).length = M.length by unfold nmT; rw [List.length_map], List.take_length] at e3
        refine ⟨D2, _, rfl, SqL.of e3, ?_⟩
        rw [sz_filter]
        refine ⟨_, s3 _ _ e2, Nat.lt_of_le_of_lt (by rw [List.length_map, List.length_map, List.length_range]; omega : _ ≤ 49) (by decide), fun y o ey => ?_, ?_⟩
        · rw [upd_ne (ne_of_none ey hl)]
          exact s3 _ _ (s2 _ _ ey)
        · rw [upd_same, List.range_succ, List.map_append, List.map_append] <;> rfl
    · rintro H2 ⟨s2, e2⟩
      have at_ : ∀ (i : Nat) (n : Int), (sizesT x.length M)[i]? = some n → i ≤ x.length ∧ n = ((szN M i : Nat) : Int) := fun i n h => by
        have hi : i < x.length + 1 := by
          have := (List.getElem?_eq_some_iff.mp h).1
          unfold sizesT at this
          rw [List.length_map, List.length_range] at this
          exact this
        unfold sizesT at h
        rw [List.getElem?_map, List.getElem?_range hi] at h
        exact ⟨by omega, (Option.some.inj h).symm⟩
      have there : ∀ i, i ≤ x.length → (sizesT x.length M)[i]? = some ((szN M i : Nat) : Int) := fun i hi => by
        unfold sizesT
        rw [List.getElem?_map, List.getElem?_range (by omega)] <;> rfl
      refine ⟨_, rfl, l, sizesT x.length M, rfl, SqL.of e2, by unfold sizesT; rw [List.length_map, List.length_range]; omega, fun low => ?_, fun i n hn h6 lo => ?_⟩
      · exact ⟨_, rfl, q1 (fun i hi => by have := low i _ (there i hi); omega) l H2 (k1.free hl) (k1.trans s2) e2⟩
      · obtain ⟨hi, rfl⟩ := at_ i n hn
        exact q2 i hi (by omega) (fun j hj => by have := lo j _ hj (there j (by omega)); omega) _ (k1.trans s2)
theorem okBars {f : Addr} {fd : FuncData} (F : Fun K "bars" "bars" sBars f fd) (T : Txt K w mg aI aT CP CT CZ CA CM CL kI kT) (TN : TxN mg K CN CB) (GT : Own P w K mg base (L2.CX P w) 4 "check_pattern" ["pattern"] [] (spCPat CT)) : FnOk P w K mg base (L2.CX P w) 5 f fd ["pattern"] (spBars CT) := by
  refine F.okX scBars (fun vs H Q E h => ?_) (fun cdv A outer s H vs Q E hr h => ?_)
  · obtain ⟨v, d, rfl, _⟩ := h
    rfl
  · obtain ⟨v, d, rfl, an, sh, xf, q⟩ := h
    refine ⟨_, (pss_cons (ps_expr (pe_own (E := E) GT (hr.mono (by decide)) (passes_call (takes_of rfl rfl rfl rfl) (fun _ _ _ _ z => z)) (pa_cons (pv 0) pa_nil)))
      (pss_cons (ps_set (i := 1) scBars.nd rfl (Or.inr rfl) (pe_callTy cr_range1 (by rfl) T.range boot_range (pa_cons (pe_op op_add (pe_callB call_len_str (by rfl) T.len (by decide +kernel) (pa_cons (pv 0) pa_nil)) pe_int) pa_nil)))
      (pss_one (ps_ret (pe_lc2 (own := [("first", 2), ("last", 3)]) (g := gName 2) (tt := tYes) (g1 := gName 3) (vs1 := [3]) rfl scBars.nd (pi_rngV (pv 1)) (blkOk_by (N := NBars) (sc := defScope sBars) (by decide +kernel)) (by decide) (fun _ _ _ _ _ => (pg_name (i := 2) scBars.nd rfl (Or.inl rfl))) (fun _ _ _ _ _ => pts_nil) (fun _ _ _ _ _ => (pi_rngV (pv 1))) (fun _ _ _ _ _ => (pg_name (i := 3) scBars.nd rfl (Or.inl rfl))) (fun _ _ _ _ _ => pts_one (pt_cmpR op_le (pv 2) (pv 3) (nomark _))) (fun _ _ _ _ _ => (pe_tup (pa_cons (pv 2) (pa_cons (pv 3) pa_nil))))))))), ?_⟩
    refine ⟨_, rfl, v, d, rfl, an, sh, fun ep H1 k1 => ?_, xf⟩
    obtain ⟨x, rfl⟩ : ∃ x, d = .str x := by
      cases d with
      | str x => exact ⟨x, rfl⟩
      | _ => cases ep
    cases an
    have lx : x.length ≤ 6 := by
      have h1 : (decide (x.length ≤ 6) && x.cps.toList.all isArr) = true := ep
      rw [Bool.and_eq_true] at h1
      exact of_decide_eq_true h1.1
    refine ⟨_, rfl, x, rfl, Nat.le_trans lx (by decide), _, _, rfl, rfl, _, rfl, fun r hr1 => ?_⟩
    have k2 := k1.trans (same_new (o := .rng 0 ((x.length : Int) + 1)) hr1)
    have er : (upd H1 r (.rng 0 ((x.length : Int) + 1))) r = some (.rng 0 ((x.length : Int) + 1)) := upd_same
    generalize upd H1 r (.rng 0 ((x.length : Int) + 1)) = H2 at k2 er ⊢
    have en : (((x.length : Int) + 1) - 0).toNat = x.length + 1 := by omega
    refine ⟨_, rfl, r, _, _, rfl, er, ⟨by decide, by decide, by omega, by omega⟩, fun D hD => ?_⟩
    rw [en]
    have hn : x.length + 1 ≤ 7 := by omega
    generalize hN : x.length + 1 = n at hn ⊢
    refine ⟨fun i m H' => m = n - i ∧ i ≤ n ∧ Same H2 H' ∧ ∃ acc, H' D = some (.lst acc) ∧ AnyL (del H' D) acc ((preL n i).map barD), ⟨n, by simp, Nat.zero_le _, same_new hD, [], upd_same, .nil⟩, ?_⟩
    rintro i m H3 ⟨rfl, hi, k3, acc, ha, al⟩
    by_cases hlt : i < n
    · refine .inr ⟨hlt, fun H' => (i + 1 ≤ n) ∧ Same H2 H' ∧ ∃ acc, H' D = some (.lst acc) ∧ AnyL (del H' D) acc ((preL n (i + 1)).map barD), fun H' z => ⟨n - (i + 1), by omega, rfl, z⟩, ?_⟩
      rintro y H4 ⟨rfl, rfl⟩
      refine ⟨rfl, ?_⟩
      unfold tYes
      refine Eq.mpr (if_pos (rfl : true = true)) ?_
      refine ⟨_, rfl, r, _, _, rfl, k3 _ _ er, ⟨by decide, by decide, by omega, by omega⟩, ?_⟩
      rw [en, hN]
      refine ⟨fun j k H' => k = n - j ∧ j ≤ n ∧ Same H2 H' ∧ ∃ acc, H' D = some (.lst acc) ∧ AnyL (del H' D) acc ((preL n i ++ partL i j).map barD), ⟨n, by simp, Nat.zero_le _, k3, acc, ha, by simpa [partL] using al⟩, ?_⟩
      rintro j k H5 ⟨rfl, hj, k5, acc5, ha5, al5⟩
      by_cases hlt2 : j < n
      · refine .inr ⟨hlt2, fun H' => (j + 1 ≤ n) ∧ Same H2 H' ∧ ∃ acc, H' D = some (.lst acc) ∧ AnyL (del H' D) acc ((preL n i ++ partL i (j + 1)).map barD), fun H' z => ⟨n - (j + 1), by omega, rfl, z⟩, ?_⟩
        rintro y H6 ⟨rfl, rfl⟩
        refine ⟨rfl, ?_⟩
        refine ⟨_, rfl, _, rfl, _, _, rfl, rfl, _, rfl, ?_⟩
        refine ite2 (fun z => ?_) (fun z => ?_)
        · have z2 : i ≤ j := by
            have := of_decide_eq_true z
            omega
          refine ⟨_, rfl, _, rfl, (by show 2 ≤ sizeLine; decide), fun t ht => ?_⟩
          have h5 := same_new (o := .tup [.int (0 + (i : Int)), .int (0 + (j : Int))]) ht _ _ ha5
          have lb : acc5.length ≤ 100 := by
            rw [anyL_len al5, List.length_map, List.length_append]
            have h1 := pre_len n i
            have h2 := part_len i j
            have h3 : i * n ≤ 7 * 7 := Nat.mul_le_mul (by omega) hn
            omega
          refine ⟨acc5, h5, Nat.lt_of_le_of_lt lb (by decide), by omega, fun b o e => ?_, acc5 ++ [.ref t], upd_same, ?_⟩
          · have ne : b ≠ D := ne_of_none e hD
            rw [upd_ne ne]
            exact same_new ht _ _ (k5 _ _ e)
          · rw [del_upd, part_succ, if_pos z2, ← List.append_assoc, List.map_append]
            refine anyL_snoc (anyL_keep (del_new ht) al5) (any_noL h5 _ _ (.tup upd_same ?_) rfl)
            have e1 : (0 + (i : Int)) = ((i : Nat) : Int) := by omega
            have e2 : (0 + (j : Int)) = ((j : Nat) : Int) := by omega
            rw [e1, e2]
            exact .cons (.int _) (.cons (.int _) .nil)
        · have z2 : ¬ i ≤ j := fun y => z (decide_eq_true (by omega))
          refine ⟨by omega, k5, acc5, ha5, ?_⟩
          rw [part_succ, if_neg z2]
          exact al5
      · have ej : j = n := by omega
        subst ej
        refine .inl ⟨Nat.le_refl _, by omega, k5, acc5, ha5, ?_⟩
        rw [pre_succ]
        exact al5
    · have ei : i = n := by omega
      subst ei
      refine .inl ⟨Nat.le_refl _, q x rfl ep D acc H3 (k2.free hD) (k2.trans k3) ha ?_⟩
      rw [hN]
      exact al
end
end K41
set_option Elab.async false
set_option linter.all false
set_option maxRecDepth 100000
set_option maxHeartbeats 1500000
namespace Rw
open PySem PySem.Spec PyProof.Rows L2
theorem nats_of {H : Hp} : ∀ {l : List Nat} {xs : List V}, AnyL H xs (l.map natD) → xs = l.map fun i => .int ((i : Nat) : Int)
  | [], _, a => by cases a; rfl
  | i :: l, _, a => by
    cases a with
    | cons a b =>
      cases a
      rw [nats_of b] <;> rfl
theorem nats_to {H : Hp} : ∀ l : List Nat, AnyL H (l.map fun i => .int ((i : Nat) : Int)) (l.map natD)
  | [] => .nil
  | i :: l => .cons (.int _) (nats_to l)
theorem flat_succ {α β : Type} (f : α → List β) {l : List α} {i : Nat} {b : α} (e : l[i]? = some b) : (l.take (i + 1)).flatMap f = (l.take i).flatMap f ++ f b := by
  rw [List.take_succ, e, List.flatMap_append]
  simp
theorem snoc_new {H : Hp} {D : Addr} {acc : List V} {ds : List PyData} {y : V} {d : PyData} (ha : H D = some (.lst acc)) (al : AnyL (del H D) acc ds) (ay : Any (del H D) y d) : AnyL (del (upd H D (.lst (acc ++ [y]))) D) (acc ++ [y]) (ds ++ [d]) := by
  rw [del_upd]
  exact anyL_snoc al ay
theorem noLs_map {α : Type} (f : α → PyData) (h : ∀ a, noL (f a) = true) : ∀ l : List α, noLs (l.map f) = true
  | [] => rfl
  | a :: l => by
    show (noL (f a) && noLs (l.map f)) = true
    rw [h a, noLs_map f h l] <;> rfl
theorem same_noL (rs cs : List Nat) : noLs ((sameM rs cs).map tupI) = true := by
  unfold sameM
  rw [List.map_map]
  exact noLs_map _ (fun a => noL_tupI _) _
theorem flat_leB {α β : Type} (f : α → List β) (l : List α) (i : Nat) : ((l.take i).flatMap f).length ≤ (l.flatMap f).length := by
  conv => rhs; rw [← List.take_append_drop i l, List.flatMap_append, List.length_append]
  exact Nat.le_add_right _ _
theorem covAt_eq {ts : List (Nat × Nat)} {k j : Nat} {b : Nat × Nat} (h : ts[j]? = some b) : covAt ts k j = covB b k := by
  unfold covAt
  rw [h] <;> rfl
theorem helN_le (ts : List (Nat × Nat)) (k i : Nat) : (helN ts k i).length ≤ i := by
  unfold helN
  exact Nat.le_trans (List.length_filter_le _ _) (by simp)
theorem snoc_keep {H H' : Hp} {D : Addr} {acc : List V} {ds : List PyData} (k : Same H H') (al : AnyL (del H D) acc ds) : AnyL (del H' D) acc ds := anyL_keep (fun b o eb => by
  have nb : b ≠ D := fun z => by rw [z, del_same] at eb; cases eb
  rw [del_ne nb] at eb ⊢
  exact k _ _ eb) al
end Rw
set_option Elab.async false
set_option linter.all false
set_option maxRecDepth 100000
set_option maxHeartbeats 8000000
namespace K41
open PySem PySem.Spec PyProof.Rows L2 Rw
abbrev sSame : Stmt := top 40
abbrev NSame : List Str := ["rows", "columns", "row", "column"]
theorem scSame : FnScope NSame ["rows", "columns"] (defScope sSame) := ⟨rfl, rfl, rfl, by decide +kernel, rfl, by decide +kernel, by decide +kernel⟩
abbrev sWith : Stmt := top 37
abbrev NWith : List Str := ["pattern", "prime", "numbers", "sizes", "told", "held", "ways", "bar", "_", "place", "index", "first", "last", "start", "goal"]
theorem scWith : FnScope NWith ["pattern", "prime", "numbers"] (defScope sWith) := ⟨rfl, rfl, rfl, by decide +kernel, rfl, by decide +kernel, by decide +kernel⟩
abbrev gIFL (K : PySem.W.Frag) : TG := gTup K 2 (gCons (gName 10) (gCons (gTup K 2 (gCons (gName 11) (gCons (gName 12) gNil))) gNil))
abbrev gSG (K : PySem.W.Frag) : TG := gTup K 2 (gCons (gName 13) (gCons (gName 14) gNil))
section
variable {P : Program} {w : World} {K : PySem.W.Frag} {mg : Str → Option Value} {base : Heap} {aI aT C CP CT CZ CA CM CL CG CN : Addr} {kI : List (Int × Value)} {kT : List (Str × Value)}
theorem okSame {f : Addr} {fd : FuncData} (F : Fun K "_same_items" "_same_items" sSame f fd) (T : Txt K w mg aI aT CP CT CZ CA CM CL kI kT) : FnOk P w K mg base CX0 1 f fd ["rows", "columns"] spSameI := by
  refine F.ok scSame (fun vs H Q E h => ?_) (fun cdv A outer s H vs Q E hr h => ?_)
  · obtain ⟨a, b, rs, cs, rfl, _⟩ := h
    rfl
  · obtain ⟨a, b, rs, cs, rfl, ha, hb, r6, c6, q⟩ := h
    refine ⟨_, (pss_one (ps_ret (pe_lc (own := [("row", 2)]) (g := gName 2) (tt := tYes) (te := tCB (rTupOf K) (tCons (tLc (iList K (tVar 1)) (gName 3) tYes _ [3]) tNil)) rfl scSame.nd (pi_list (pv 0)) (blkOk_by (N := NSame) (sc := defScope sSame) (by decide +kernel)) (fun _ _ _ _ _ => (pg_name (i := 2) scSame.nd rfl (Or.inr rfl))) (fun _ _ _ _ _ => pts_nil)
      (fun _ _ _ _ _ => (pe_callTy call_tuple_of (by rfl) T.tuple (by decide +kernel) (pa_cons (pe_lc (own := [("column", 3)]) (g := gName 3) (tt := tYes) rfl scSame.nd (pi_list (pv 1)) (blkOk_by (N := NSame) (by rfl)) (fun _ _ _ _ _ => (pg_name (i := 3) scSame.nd rfl (Or.inl rfl))) (fun _ _ _ _ _ => pts_nil) (fun _ _ _ _ _ => (pe_callTy call_int1 (by rfl) T.int (by decide +kernel) (pa_cons (pe_cmpR op_eq (pv 2) (pv 3) (nomark _)) pa_nil)))) pa_nil)))))), ?_⟩
    refine ⟨_, rfl, a, rfl, ⟨_, SqL.of ha⟩, fun D hD => ?_⟩
    refine lc_tup walk_list (by rw [List.length_map]; omega) hD (fun H' s' => SqL.of (s' _ _ ha)) (fun i => tupI (cs.map fun c => if rs[i]?.getD 0 = c then 1 else 0)) (fun i hi => noL_tupI _) ?_ ?_
    · rintro i x H2 hi hx s2 _
      refine ⟨rfl, fun k hk => ?_⟩
      rw [List.length_map] at hi
      rw [List.getElem?_map, List.getElem?_eq_getElem hi] at hx
      cases Option.some.inj hx
      have hb2 := s2 _ _ hb
      refine ⟨_, rfl, b, rfl, ⟨_, SqL.of hb2⟩, fun D2 hD2 => ?_⟩
      refine lc_tup walk_list (by rw [List.length_map]; omega) hD2 (fun H' s' => SqL.of (s' _ _ hb2)) (fun j => .int (if rs[i] = cs[j]?.getD 0 then 1 else 0)) (fun _ _ => rfl) ?_ ?_
      · rintro j y H3 hj hy s3 _
        refine ⟨rfl, fun k3 hk3 => ?_⟩
        rw [List.length_map] at hj
        rw [List.getElem?_map, List.getElem?_eq_getElem hj] at hy
        cases Option.some.inj hy
        refine ⟨_, rfl, _, rfl, rfl, .inr ⟨_, rfl, ?_⟩⟩
        have e : (if decide (V.int ((rs[i] : Nat) : Int) = V.int ((cs[j] : Nat) : Int)) = true then (1 : Int) else 0) = if rs[i] = cs[j]?.getD 0 then 1 else 0 := by
          rw [List.getElem?_eq_getElem hj, Option.getD_some]
          by_cases z : rs[i] = cs[j]
          · rw [if_pos z, z, if_pos (decide_eq_true rfl)]
          · rw [if_neg z, if_neg (by
              rw [decide_eq_true_eq]
              intro y
              exact z (Int.ofNat.inj (V.int.inj y)))]
        rw [e]
        exact hk3 _ _ (fun _ _ z => z) (.int _)
      · intro H3 acc s3 ea al
        have e : (cs.map fun c => if rs[i] = c then (1 : Int) else 0).map PyData.int = (List.range (cs.map fun r => V.int ((r : Nat) : Int)).length).map fun j => .int (if rs[i] = cs[j]?.getD 0 then 1 else 0) := by
          rw [List.length_map, List.map_map]
          refine List.ext_getElem (by simp) fun j h1 h2 => ?_
          rw [List.length_map] at h1
          simp [h1]
        rw [← e] at al
        have e2 : rs[i]?.getD 0 = rs[i] := by rw [List.getElem?_eq_getElem hi] <;> rfl
        rw [← e2] at al
        exact ⟨D2, acc, rfl, .inl ⟨SqL.of ea, fun l hl => hk _ _ (s3.trans (same_new hl)) (.tup upd_same (anyL_keep (same_del.trans (same_new hl)) al))⟩⟩
    · intro H2 acc s2 ea al
      refine q D acc H2 hD s2 ea ?_
      have e : (sameM rs cs).map tupI = (List.range (rs.map fun r => V.int ((r : Nat) : Int)).length).map fun i => tupI (cs.map fun c => if rs[i]?.getD 0 = c then 1 else 0) := by
        unfold sameM
        rw [List.length_map, List.map_map]
        refine List.ext_getElem (by simp) fun j h1 h2 => ?_
        rw [List.length_map] at h1
        simp [h1]
      rw [e]
      exact al
theorem okWith {f : Addr} {fd : FuncData} (F : Fun K "row_with" "row_with" sWith f fd) (T : Txt K w mg aI aT CP CT CZ CA CM CL kI kT) (RA : RowsAt P w K mg base C CT CP CZ CA CM) (GT : Own P w K mg base (L2.CX P w) 4 "check_pattern" ["pattern"] [] (spCPat CT)) (GP : Own P w K mg base (L2.CX P w) 4 "check_prime" ["prime"] [] (spCheck CP))
    (GL : Own P w K mg base (L2.CX P w) 6 "low_sizes" ["pattern", "numbers"] [] (spLowSzG CN CG)) (GB : Own P w K mg base (L2.CX P w) 5 "bars" ["pattern"] [] (spBars CT)) (GW : Own P w K mg base CX0 1 "way" ["pattern", "index"] [] spWay) (GS : Own P w K mg base CX0 1 "_same_items" ["rows", "columns"] [] spSameI) :
    FnOk P w K mg base (L2.CX P w) 8 f fd ["pattern", "prime", "numbers"] (spRowWith C CT CP CN CG) := by
  refine F.okX scWith (fun vs H Q E h => ?_) (fun cdv A outer s H vs Q E hr h => ?_)
  · obtain ⟨v1, v2, v3, rfl, _⟩ := h
    rfl
  · obtain ⟨v1, v2, v3, rfl, h⟩ := h
    refine ⟨_, (pss_cons (ps_expr (pe_own (E := E) GT (hr.mono (by decide)) (passes_call (takes_of rfl rfl rfl rfl) (fun _ _ _ _ z => z)) (pa_cons (pv 0) pa_nil)))
      (pss_cons (ps_expr (pe_own (E := E) GP (hr.mono (by decide)) (passes_call (takes_of rfl rfl rfl rfl) (fun _ _ _ _ z => z)) (pa_cons (pv 1) pa_nil)))
      (pss_cons (ps_set (i := 3) scWith.nd rfl (Or.inl rfl) (pe_own (E := E) GL (hr.mono (by decide)) (passes_call (takes_of rfl rfl rfl rfl) (fun _ _ _ _ z => z)) (pa_cons (pv 0) (pa_cons (pv 2) pa_nil))))
      (pss_cons (ps_set (i := 4) scWith.nd rfl (Or.inr rfl) (pe_lc2 (own := [("bar", 7), ("_", 8)]) (g := gName 7) (tt := tYes) (g1 := gName 8) (tt1 := tYes) (te := tVar 7) (vs1 := [8]) rfl scWith.nd (pi_list (pe_own (E := E) GB (hr.mono (by decide)) (passes_call (takes_of rfl rfl rfl rfl) (fun _ _ _ _ z => z)) (pa_cons (pv 0) pa_nil))) (blkOk_by (N := NWith) (sc := defScope sWith) (by decide +kernel)) (by decide) (fun _ _ _ _ _ => (pg_name (i := 7) scWith.nd rfl (Or.inl rfl))) (fun _ _ _ _ _ => pts_nil) (fun _ _ _ _ _ => (pi_range1 (by rfl) T.range (pa_cons (pe_dget2 (Nat.lt_of_le_of_lt (Nat.add_le_add_left (by decide : 1 ≤ 64) _) hr.units) (pv 2) (pv 7) pe_int ⟨rfl, rfl, rfl, rfl⟩) pa_nil))) (fun _ _ _ _ _ => (pg_name (i := 8) scWith.nd rfl (Or.inl rfl))) (fun _ _ _ _ _ => pts_nil) (fun _ _ _ _ _ => (pv 7))))
      (pss_cons (ps_set (i := 5) scWith.nd rfl (Or.inr rfl) (pe_lc (own := [("place", 9)]) (g := gName 9) (tt := tYes) (te := tLc (iEnumB K (tCons (tVar 4) tNil)) (gIFL K) (tTest (tChain _ _ (tVar 11) (tVar 9) (tVar 12))) (tVar 10) [10, 11, 12]) rfl scWith.nd (pi_range1 rfl T.range (pa_cons (pe_callB call_len_seq (by rfl) T.len (by decide +kernel) (pa_cons (pv 3) pa_nil)) pa_nil)) (blkOk_by (N := NWith) (sc := defScope sWith) (by decide +kernel)) (fun _ _ _ _ _ => (pg_name (i := 9) scWith.nd rfl (Or.inr rfl))) (fun _ _ _ _ _ => pts_nil) (fun _ _ _ _ _ => (pe_lc (own := [("index", 10), ("first", 11), ("last", 12)]) (g := gIFL K) rfl scWith.nd (pi_enumB (by rfl) T.enum (pa_cons (pv 4) pa_nil)) (blkOk_by (N := NWith) (by rfl)) (fun _ _ _ _ _ => (pg_tup rfl (pgs_cons (pg_name (i := 10) scWith.nd rfl (Or.inl rfl)) (pgs_cons (pg_tup rfl (pgs_cons (pg_name (i := 11) scWith.nd rfl (Or.inl rfl)) (pgs_cons (pg_name (i := 12) scWith.nd rfl (Or.inl rfl)) pgs_nil))) pgs_nil)))) (fun _ _ _ _ _ => (pts_one (pt_chain op_le op_le (pv 11) (pv 9) (pv 12)))) (fun _ _ _ _ _ => (pv 10))))))
      (pss_cons (ps_setLc (i := 6) (own := [("index", 10)]) (g := gName 10) (tt := tYes) rfl scWith.nd rfl rfl (sw_true rfl rfl rfl (by decide +kernel)) (pi_range1 rfl T.range (pa_cons (pe_callB call_len_str (by rfl) T.len (by decide +kernel) (pa_cons (pv 0) pa_nil)) pa_nil)) (blkOk_by (N := NWith) (sc := defScope sWith) (by decide +kernel)) (fun _ _ _ _ _ => (pg_name (i := 10) scWith.nd rfl (Or.inl rfl))) (fun _ _ _ _ _ => pts_nil) (fun _ _ _ _ _ => (pe_own GW (hr.mono (by decide)) pass0 (pa_cons (pv 0) (pa_cons (pv 10) pa_nil)))))
      (pss_one (ps_ret (pe_rowN (E := E) RA (hr.mono (by decide)) (passes_call (takes_of rfl rfl rfl rfl) (fun _ _ _ _ z => z)) (pa_cons (pv 0) (pa_cons (pv 1) (pa_cons (pv 3) (pa_cons (pe_lc (own := [("start", 13), ("goal", 14)]) (g := gSG K) (tt := tYes) (te := tCall spSameI [] E0 (tCons (tOp (rIxL K) (tVar 5) (tVar 13)) (tCons (tOp (rIxL K) (tVar 5) (tVar 14)) tNil))) rfl scWith.nd (pi_list (pv 6)) (blkOk_by (N := NWith) (sc := defScope sWith) (by decide +kernel)) (fun _ _ _ _ _ => (pg_tup rfl (pgs_cons (pg_name (i := 13) scWith.nd rfl (Or.inl rfl)) (pgs_cons (pg_name (i := 14) scWith.nd rfl (Or.inl rfl)) pgs_nil)))) (fun _ _ _ _ _ => pts_nil) (fun _ _ _ _ _ => (pe_own GS (hr.mono (by decide)) pass0 (pa_cons (pe_ix ix_list (pv 5) (pv 13) (fun _ _ => rfl)) (pa_cons (pe_ix ix_list (pv 5) (pv 14) (fun _ _ => rfl)) pa_nil))))) pa_nil))))))))))))), ?_⟩
    obtain ⟨d1, an1, sh, h⟩ := h
    rcases h with ⟨e1, q⟩ | ⟨x, rfl, px, h⟩
    · exact ⟨_, rfl, v1, d1, rfl, an1, sh, (fun e => by rw [e1] at e; cases e), fun _ => q⟩
    have lx := px.l
    have lz : x.length ≤ sizeLine := Nat.le_trans lx (by decide)
    have shx : Short (.str x) := fun y e => by cases e; exact Nat.le_trans px.l (by decide)
    refine ⟨_, rfl, .str x, .str x, rfl, .str x, shx, fun _ H1 k1 => ?_, fun e => by rw [isPat_of px] at e; cases e⟩
    obtain ⟨d2, an2, h⟩ := h
    rcases h with ⟨e2, q⟩ | ⟨p, rfl, pp, h⟩
    · exact ⟨_, rfl, v2, d2, rfl, an2.keep k1, (fun e => by rw [e2] at e; cases e), fun _ => q.mono k1⟩
    refine ⟨_, rfl, _, _, rfl, .int _, fun _ => ?_, fun e => by rw [pp.d] at e; cases e⟩
    rcases h with ⟨bad, q⟩ | ⟨d, M, rfl, nd, nm, nk, q1, q2⟩
    · exact ⟨_, rfl, _, rfl, .inl ⟨x, v3, rfl, px.l, bad.keep k1, q.mono k1⟩⟩
    obtain ⟨o, hd⟩ := nd.keep k1
    refine ⟨_, rfl, _, rfl, .inr ⟨x, d, o, nmT M, nmD M, rfl, px.l, hd, nm_any M, by unfold nmT; rw [List.length_map]; exact nm.l, (fun e => by rw [nums_ok nm.g] at e; cases e), fun T' eT gT => ?_⟩⟩
    obtain rfl := nmT_inj eT
    refine ⟨fun sT l H2 hl k2 e2 => ?_, fun i hi h6 lo H' k' => (q2 i hi h6 lo).mono (k1.trans k')⟩
    have K2 := k1.trans k2
    have q := q1 sT
    have gk := nm.g.ok
    have lo6 := nm.g.lo
    refine ⟨_, rfl, .str x, .str x, rfl, .str x, shx, (fun e => by rw [isPat_of px] at e; cases e), fun x' ex _ lb accb H3 hlb k3 eb ab => ?_⟩
    cases ex
    have K3 := K2.trans k3
    have hd3 := k3 _ _ (k2 _ _ hd)
    have lab := anyL_len ab
    rw [List.length_map] at lab
    have bl : (barsL (x.length + 1)).length ≤ 49 := bars_len (by omega)
    have tl : (tolB x.length M).length ≤ 294 := told_le lx lo6
    have tli : ∀ i, (((barsL (x.length + 1)).take i).flatMap fun b => List.replicate (getN M b) b).length ≤ 294 := fun i => Nat.le_trans (flat_leB _ _ i) tl
    refine ⟨lb, rfl, ⟨_, SqL.of eb⟩, fun D4 hD4 => ?_⟩
    refine ⟨fun i m H' => m = accb.length - i ∧ i ≤ accb.length ∧ Same H3 H' ∧ ∃ acc, H' D4 = some (.lst acc) ∧ AnyL (del H' D4) acc ((((barsL (x.length + 1)).take i).flatMap fun b => List.replicate (getN M b) b).map barD), ⟨accb.length, by simp, Nat.zero_le _, same_new hD4, [], upd_same, .nil⟩, ?_⟩
    rintro i m H4 ⟨rfl, hi, k4, acc, ha, al⟩
    have q4 : SqL K H4 lb accb := SqL.of (k4 _ _ eb)
    by_cases hlt : i < accb.length
    · refine .inr ⟨walk_list.goes i H4 hlt q4, fun H' => i + 1 ≤ accb.length ∧ Same H3 H' ∧ ∃ acc, H' D4 = some (.lst acc) ∧ AnyL (del H' D4) acc ((((barsL (x.length + 1)).take (i + 1)).flatMap fun b => List.replicate (getN M b) b).map barD), fun H' z => ⟨accb.length - (i + 1), by omega, rfl, z⟩, ?_⟩
      intro y H5 yl
      obtain ⟨rfl, hy⟩ := walk_list.yields i H4 y H5 hlt q4 yl
      obtain ⟨dd, hdd, ad⟩ := anyL_at ab hy
      rw [List.getElem?_map] at hdd
      obtain ⟨b, hb⟩ : ∃ b, (barsL (x.length + 1))[i]? = some b := ⟨_, List.getElem?_eq_getElem (by omega)⟩
      rw [hb] at hdd
      cases Option.some.inj hdd
      obtain ⟨t, rfl, et⟩ := bar_ref ad
      replace et := same_del _ _ et
      refine ⟨rfl, ?_⟩
      unfold tYes
      refine Eq.mpr (if_pos (rfl : true = true)) ?_
      have hm : getN M b ≤ 6 := get_le6 lo6
      refine ⟨_, rfl, d, rfl, .inr ⟨_, .inr ⟨o, k4 _ _ hd3⟩⟩, _, rfl, _, .inr ⟨_, keyT b, t, .inr ⟨o, k4 _ _ hd3⟩, rfl, k4 _ _ et, rfl⟩, ((getN M b : Nat) : Int), by rw [val_nm] <;> rfl, by omega, by omega, ?_⟩
      refine ⟨fun j k H' => k = getN M b - j ∧ j ≤ getN M b ∧ Same H3 H' ∧ ∃ acc, H' D4 = some (.lst acc) ∧ AnyL (del H' D4) acc (((((barsL (x.length + 1)).take i).flatMap fun b => List.replicate (getN M b) b) ++ List.replicate j b).map barD), ⟨getN M b, by simp, Nat.zero_le _, k4, acc, ha, by simpa using al⟩, ?_⟩
      rintro j k H6 ⟨rfl, hj, k6, acc6, ha6, al6⟩
      by_cases hlt2 : j < getN M b
      · refine .inr ⟨(walk_rng (n := getN M b)).goes j H6 hlt2 trivial, fun H' => j + 1 ≤ getN M b ∧ Same H3 H' ∧ ∃ acc, H' D4 = some (.lst acc) ∧ AnyL (del H' D4) acc (((((barsL (x.length + 1)).take i).flatMap fun b => List.replicate (getN M b) b) ++ List.replicate (j + 1) b).map barD), fun H' z => ⟨getN M b - (j + 1), by omega, rfl, z⟩, ?_⟩
        intro y H7 yl
        obtain ⟨rfl, rfl⟩ := (walk_rng (n := getN M b)).yields j H6 y H7 hlt2 trivial yl
        refine ⟨rfl, ?_⟩
        refine Eq.mpr (if_pos (rfl : true = true)) ?_
        have l6 := anyL_len al6
        rw [List.length_map, List.length_append, List.length_replicate] at l6
        have := tli i
        refine ⟨_, rfl, acc6, ha6, Nat.lt_of_le_of_lt (by omega : acc6.length ≤ 400) (by decide), by omega, fun y o ey => ?_, acc6 ++ [.ref t], upd_same, ?_⟩
        · rw [upd_ne (ne_of_none ey hD4)]
          exact k6 _ _ ey
        · rw [List.replicate_succ', ← List.append_assoc, List.map_append]
          refine snoc_new ha6 al6 (.tup ?_ (.cons (.int _) (.cons (.int _) .nil)))
          rw [del_ne (ne_of_none et hD4)]
          exact k6 _ _ et
      · have ej : j = getN M b := by omega
        subst ej
        refine .inl ⟨(walk_rng (n := getN M b)).stops H6 trivial, by omega, k6, acc6, ha6, ?_⟩
        rw [flat_succ _ hb]
        exact al6
    · have ei : i = accb.length := by omega
      subst ei
      refine .inl ⟨walk_list.stops H4 q4, ?_⟩
      rw [lab, List.take_length] at al
      rename_i accT
      replace al : AnyL (del H4 D4) acc ((tolB x.length M).map barD) := al
      have nts : tolB x.length M = tolB x.length M := rfl
      generalize hts : tolB x.length M = ts at al tl
      have K4 := K3.trans k4
      have el4 := k4 _ _ (k3 _ _ e2)
      have lT := anyL_len al
      rw [List.length_map] at lT
      have l2 : ((sizesT x.length M).map V.int).length = x.length + 1 := by
        unfold sizesT
        rw [List.length_map, List.length_map, List.length_range]
      -- what each place holds
      refine ⟨_, rfl, l, _, rfl, .inl (SqL.of el4), ((x.length + 1 : Nat) : Int), (by rw [l2]), by omega, by omega, fun D5 hD5 => ?_⟩
      refine lc_same (walk_rng (n := x.length + 1)) (by omega) hD5 (fun _ _ => trivial) (fun i => .list ((helB ts i).map natD)) ?_ ?_
      · rintro i y H6 hi rfl s6 ⟨o5, ho5⟩
        refine ⟨rfl, fun k hk => ?_⟩
        have eT6 := s6 _ _ ha
        refine ⟨_, rfl, D4, true, acc, rfl, SqL.of eT6, fun D6 hD6 => ?_⟩
        have n56 : D6 ≠ D5 := fun z => by rw [z, ho5] at hD6; cases hD6
        refine lc_it walk_enumB (Pv := fun j H' => Same H6 H' ∧ H' D6 = some (.lst ((helN ts i j).map fun i => .int ((i : Nat) : Int)))) ⟨same_new hD6, upd_same⟩ (fun j H' _ z => SqL.of (z.1 _ _ eT6)) ?_ ?_
        · rintro j y H7 H8 hj ⟨s7, e7⟩ ⟨T1, v1, v2, rfl, hT, rfl, h1, h2⟩
          cases h1
          obtain ⟨dd, hdd, ad⟩ := anyL_at al h2
          rw [List.getElem?_map] at hdd
          obtain ⟨b, hb⟩ : ∃ b, ts[j]? = some b := ⟨_, List.getElem?_eq_getElem (by omega)⟩
          rw [hb] at hdd
          cases Option.some.inj hdd
          obtain ⟨t, rfl, et⟩ := bar_ref ad
          have kT : Same H7 (upd H7 T1 (.tup [.int (j : Nat), .ref t])) := same_new hT
          have eT : (upd H7 T1 (.tup [.int (j : Nat), .ref t])) T1 = some (.tup [.int (j : Nat), .ref t]) := upd_same
          generalize upd H7 T1 (.tup [.int (j : Nat), .ref t]) = H8 at kT eT ⊢
          have et8 := kT _ _ (s7 _ _ (s6 _ _ (same_del _ _ et)))
          refine ⟨T1, _, rfl, SqT.of eT, rfl, _, _, rfl, _, _, rfl, ⟨t, _, rfl, SqT.of et8, rfl, _, _, rfl, _, _, rfl, rfl, ?_⟩⟩
          refine ⟨rfl, rfl, ?_⟩
          refine ⟨_, rfl, _, rfl, _, _, rfl, rfl, _, rfl, ?_⟩
          have no : covB b i = false → Same H6 H8 ∧ H8 D6 = some (.lst ((helN ts i (j + 1)).map fun i => .int ((i : Nat) : Int))) := fun z => ⟨s7.trans kT, by
            rw [helN_succ, covAt_eq hb, z, if_neg (by decide)]
            exact kT _ _ e7⟩
          refine ite2 (fun z => ?_) (fun z => ?_)
          · refine ⟨_, rfl, _, _, rfl, rfl, _, rfl, ?_⟩
            refine ite2 (fun y => ?_) (fun y => ?_)
            · have hc : covB b i = true := by
                unfold covB
                have z1 := of_decide_eq_true z
                have y1 := of_decide_eq_true y
                rw [decide_eq_true (by omega), decide_eq_true (by omega)] <;> rfl
              have lh := helN_le ts i j
              refine ⟨_, rfl, _, kT _ _ e7, Nat.lt_of_le_of_lt (by rw [List.length_map]; omega : _ ≤ 300) (by decide), fun y o ey => ?_, ?_⟩
              · rw [upd_ne (ne_of_none ey hD6)]
                exact kT _ _ (s7 _ _ ey)
              · rw [upd_same, helN_succ, covAt_eq hb, hc, if_pos rfl, List.map_append] <;> rfl
            · refine no ?_
              unfold covB
              have y1 : ¬ _ := fun x => y (decide_eq_true x)
              rw [decide_eq_false (p := i ≤ b.2) (by omega), Bool.and_false]
          · refine ⟨_, rfl, no ?_⟩
            unfold covB
            have y1 : ¬ _ := fun x => z (decide_eq_true x)
            rw [decide_eq_false (p := b.1 ≤ i) (by omega), Bool.false_and]
        · rintro H7 ⟨s7, e7⟩
          rw [lT] at e7
          exact hk _ _ s7 (.lst (by rw [del_ne n56]; exact e7) (nats_to _))
      intro H7 accH s7 e7 al7
      have K7 := K4.trans s7
      -- the arrows' places
      refine ⟨_, rfl, _, rfl, lz, ((x.length : Nat) : Int), rfl, by omega, by omega, fun D7 hD7 => ?_⟩
      refine lc_tup (walk_rng (n := x.length)) (by omega) hD7 (fun _ _ => trivial) (fun i => barD (stA x i, goA x i)) (fun _ _ => rfl) ?_ ?_
      · rintro i y H8 hi rfl s8 _
        refine ⟨rfl, fun k hk => ?_⟩
        exact ⟨_, rfl, _, rfl, x, i, rfl, hi, lx, fun t H9 ht k9 et => hk _ _ k9 (.tup et (.cons (.int _) (.cons (.int _) .nil)))⟩
      intro H8 accW s8 e8 al8
      have K8 := K7.trans s8
      have lW := anyL_len al8
      rw [List.length_map, List.length_range] at lW
      refine ⟨_, rfl, _, rfl, _, rfl, _, rfl, D7, rfl, ⟨_, SqL.of e8⟩, fun D8 hD8 => ?_⟩
      refine lc_it walk_list (Pv := fun i H' => Same H8 H' ∧ ∃ acc, H' D8 = some (.lst acc) ∧ AnyL (del H' D8) acc (((mapsB x ts).take i).map sheetD)) ⟨same_new hD8, [], upd_same, .nil⟩ (fun i H' _ z => SqL.of (z.1 _ _ e8)) ?_ ?_
      · rintro i y H9 H10 hi ⟨s9, ac, e9, al9⟩ ⟨rfl, hy⟩
        obtain ⟨dd, hdd, ad⟩ := anyL_at al8 hy
        rw [lW] at hi
        rw [List.getElem?_map, List.getElem?_range hi] at hdd
        cases Option.some.inj hdd
        obtain ⟨t, rfl, et⟩ := bar_ref ad
        have et9 := s9 _ _ (same_del _ _ et)
        have item : ∀ j, j ≤ x.length → ∃ a, accH[j]? = some (.ref a) ∧ H7 a = some (.lst ((helB ts j).map fun i => .int ((i : Nat) : Int))) := fun j hj => by
          have l7 := anyL_len al7
          rw [List.length_map, List.length_range] at l7
          have h1 : accH[j]? = some accH[j] := List.getElem?_eq_getElem (by omega)
          obtain ⟨d, hd, ad⟩ := anyL_at al7 h1
          rw [List.getElem?_map, List.getElem?_range (by omega)] at hd
          cases Option.some.inj hd
          rw [h1]
          generalize accH[j] = u at ad
          cases ad with
          | lst ea al =>
            rw [nats_of al] at ea
            exact ⟨_, rfl, same_del _ _ ea⟩
        obtain ⟨g1, g2⟩ := st_le3 hi
        obtain ⟨a1, i1, j1⟩ := item _ g1
        obtain ⟨a2, i2, j2⟩ := item _ g2
        have e57 := s9 _ _ (s8 _ _ e7)
        have z1 : (helB ts (stA x i)).length ≤ 6 := by rw [← hts, held_size nk gk]; exact sT _ g1
        have z2 : (helB ts (goA x i)).length ≤ 6 := by rw [← hts, held_size nk gk]; exact sT _ g2
        refine ⟨t, _, rfl, SqT.of et9, rfl, _, _, rfl, _, _, rfl, rfl, rfl, ?_⟩
        unfold tYes
        refine Eq.mpr (if_pos (rfl : true = true)) ?_
        refine ⟨_, rfl, _, rfl, D5, accH, _, _, rfl, rfl, SqL.of e57, atI_nat i1, _, rfl, _, rfl, D5, accH, _, _, rfl, rfl, SqL.of e57, atI_nat i2, ?_⟩
        refine ⟨a1, a2, _, _, rfl, s9 _ _ (s8 _ _ j1), s9 _ _ (s8 _ _ j2), z1, z2, fun lm acm H11 hlm k11 em alm => ?_⟩
        have l9 := anyL_len al9
        rw [List.length_map, List.length_take] at l9
        have nm : lm ≠ D8 := fun z => by rw [z, e9] at hlm; cases hlm
        refine ⟨ac, k11 _ _ e9, Nat.lt_of_le_of_lt (by omega : ac.length ≤ 100) (by decide), fun y o ey => ?_, ac ++ [.ref lm], upd_same, ?_⟩
        · rw [upd_ne (ne_of_none ey hD8)]
          exact k11 _ _ (s9 _ _ ey)
        · have hm : (mapsB x ts)[i]? = some (sameM (helB ts (stA x i)) (helB ts (goA x i))) := by
            unfold mapsB
            rw [List.getElem?_map, List.getElem?_range hi] <;> rfl
          rw [List.take_add_one, hm, List.map_append]
          exact snoc_new (k11 _ _ e9) (snoc_keep k11 al9) (.lst (by rw [del_ne nm]; exact em) (anyL_noL (k11 _ _ e9) _ _ (anyL_keep same_del alm) (same_noL _ _)))
      · rintro H9 ⟨s9, ac, e9, al9⟩
        have lm : (mapsB x ts).length = x.length := by
          unfold mapsB
          rw [List.length_map, List.length_range]
        rw [List.take_of_length_le (by omega)] at al9
        have K9 := K8.trans s9
        have dr := bars_draft (q := ((p : Nat) : Int)) (by have := pp.l; omega) nk gk sT
        have em : rowMs x M = mapsB x ts := by unfold rowMs; rw [hts]
        have ez : (rowSs x.length M).map natD = (sizesT x.length M).map PyData.int := by
          unfold rowSs sizesT
          rw [List.map_map, List.map_map] <;> rfl
        have good := draft_good dr px pp.m (Nat.le_refl _)
        rw [em] at dr good
        refine ⟨_, _, _, _, .str x, .int ((p : Nat) : Int), .list ((rowSs x.length M).map natD), .list ((mapsB x ts).map sheetD), rfl, ⟨.str _, .int _, .lst (s9 _ _ (s8 _ _ (s7 _ _ el4))) (by rw [ez]; exact ints_anyL _), .lst e9 (anyL_keep same_del al9), shx, ?_, draft_fitM dr px pp.m (Nat.le_refl _)⟩, good_err good, fun y p' Du H10 e0 e1 _ hDu k10 ra => ?_⟩
        · show ((rowSs x.length M).map natD).length ≤ 1000
          unfold rowSs
          rw [List.length_map, List.length_map, List.length_range]
          omega
        · cases e0
          cases e1
          rw [draft_rows dr] at ra
          refine q Du H10 (K9.free hDu) (K9.trans k10) ?_
          rw [em]
          exact ra
end
end K41
set_option Elab.async false
set_option linter.all false
set_option maxRecDepth 100000
set_option maxHeartbeats 8000000
namespace K41
open PySem PySem.Spec PyProof.Rows L2 Rw
abbrev sClash : Stmt := top 42
abbrev NClash : List Str := ["table", "bar"]
theorem scClash : FnScope NClash ["table"] (defScope sClash) := ⟨rfl, rfl, rfl, by decide +kernel, rfl, by decide +kernel, by decide +kernel⟩
abbrev sIsRank : Stmt := top 43
theorem scIsRank : FnScope ["value"] ["value"] (defScope sIsRank) := ⟨rfl, rfl, rfl, by decide +kernel, rfl, by decide +kernel, by decide +kernel⟩
abbrev sBarsOf : Stmt := top 44
abbrev NBarsOf : List Str := ["table", "bar", "told"]
theorem scBarsOf : FnScope NBarsOf ["table"] (defScope sBarsOf) := ⟨rfl, rfl, rfl, by decide +kernel, rfl, by decide +kernel, by decide +kernel⟩
theorem find_none {α : Type} {p : α → Bool} {l : List α} (h : ∀ (i : Nat) (a : α), l[i]? = some a → p a = false) : l.find? p = none := List.find?_eq_none.mpr fun a ha => by
  obtain ⟨i, hi⟩ := List.getElem?_of_mem ha
  rw [h i a hi]
  decide
theorem find_some {α : Type} {p : α → Bool} : ∀ {l : List α} {i : Nat} {a : α}, l[i]? = some a → p a = true → (∀ (j : Nat) (b : α), j < i → l[j]? = some b → p b = false) → l.find? p = some a
  | [], i, a, h, _, _ => by simp at h
  | x :: l, 0, a, h, pa, _ => by
    cases Option.some.inj h
    rw [List.find?_cons, pa]
  | x :: l, i + 1, a, h, pa, lo => by
    rw [List.find?_cons, lo 0 x (Nat.succ_pos _) rfl]
    exact find_some h pa fun j b hj hb => lo (j + 1) b (by omega) hb
section
variable {P : Program} {w : World} {K : PySem.W.Frag} {mg : Str → Option Value} {base : Heap} {CT CB CN : Addr}
theorem okClash {f : Addr} {fd : FuncData} (F : Fun K "clash" "clash" sClash f fd) (GC : Own P w K mg base (L2.CX P w) 5 "_check_table" ["table"] [] (spCTab CB)) (GB : Own P w K mg base (L2.CX P w) 5 "bars" ["pattern"] [] (spBars CT)) (GO : Own P w K mg base CX0 1 "_pattern_of" ["table"] [] spPatT)
    (GN : Own P w K mg base CX0 2 "_number_by" ["table", "bar"] [] spNumT) : FnOk P w K mg base CX0 6 f fd ["table"] spClashT := by
  refine F.ok scClash (fun vs H Q E h => ?_) (fun cdv A outer s H vs Q E hr h => ?_)
  · obtain ⟨v, d, n, T, rfl, _⟩ := h
    rfl
  · obtain ⟨v, d, n, T, rfl, an, t, q0, q1⟩ := h
    refine ⟨_, (pss_cons (ps_expr (pe_own (E := E0) GC (hr.mono (by decide)) passN (pa_cons (pv 0) pa_nil)))
      (pss_cons (ps_for PassesOwn.never rfl (pi_list (pe_own (E := E0) GB (hr.mono (by decide)) passN (pa_cons (pe_own GO (hr.mono (by decide)) pass0 (pa_cons (pv 0) pa_nil)) pa_nil))) (pg_name (i := 1) scClash.nd rfl (Or.inl rfl)) (pss_one (ps_if (pt_cmpR op_lt (pe_own GN (hr.mono (by decide)) pass0 (pa_cons (pv 0) (pa_cons (pv 1) pa_nil))) pe_int (nomark _)) (pss_one (ps_ret (pv 1))) pss_nil)))
      (pss_one (ps_ret pe_non)))), ?_⟩
    obtain ⟨it, wd⟩ := tab_is t
    refine ⟨_, rfl, v, d, rfl, an, wd, fun _ H1 k1 => ?_, fun z => (by rw [it] at z; cases z)⟩
    have n0 := t.n0
    have n7 := t.n7
    obtain ⟨p1, p2, p3⟩ := pat_X (k := n - 1) (by omega)
    have sh : Short (.str (patX (n - 1))) := fun y e => by
      cases e
      rw [p1]
      omega
    refine ⟨_, rfl, v, d, n, T, rfl, an.keep k1, t, .str (patX (n - 1)), .str _, rfl, .str _, sh, fun z => (by rw [p2] at z; cases z), fun x' ex _ lb accb H3 hlb k3 eb ab => ?_⟩
    cases ex
    rw [p1, show n - 1 + 1 = n by omega] at ab
    have lab := anyL_len ab
    rw [List.length_map] at lab
    refine ⟨lb, rfl, ⟨_, SqL.of eb⟩, ?_⟩
    have K3 := k1.trans k3
    refine for_list (K := K) (a := lb) (xs := accb) (fun i σ H' => (∃ y, σ = [some v, y]) ∧ H' = H3 ∧ ∀ j b, j < i → (barsL n)[j]? = some b → decide (numT n T b < 0) = false) ⟨⟨_, rfl⟩, rfl, fun j b hj => absurd hj (Nat.not_lt_zero _)⟩ (fun i σ H' _ h => by rw [h.2.1]; exact SqL.of eb) ?_ ?_
    · rintro i y σ H' hy ⟨⟨y1, rfl⟩, rfl, lo⟩
      obtain ⟨d2, hd, ad⟩ := anyL_at ab hy
      rw [List.getElem?_map] at hd
      obtain ⟨b, hb, eb2⟩ := Option.map_eq_some_iff.mp hd
      subst eb2
      obtain ⟨u, rfl, et⟩ := bar_ref ad
      refine ⟨_, rfl, _, rfl, v, u, d, n, T, b, rfl, an.keep K3, t, same_del _ _ et, List.mem_of_getElem? hb, _, _, rfl, rfl, _, rfl, ?_⟩
      refine ite2 (fun z => ?_) (fun z => ?_)
      · exact ⟨_, rfl, q1 b u _ (find_some hb z lo) K3 (same_del _ _ et)⟩
      · refine ⟨⟨_, rfl⟩, rfl, fun j b' hj hb' => ?_⟩
        by_cases e : j < i
        · exact lo j b' e hb'
        · obtain rfl : j = i := by omega
          rw [hb] at hb'
          cases Option.some.inj hb'
          exact Bool.eq_false_iff.mpr z
    · rintro σ H' ⟨⟨y1, rfl⟩, rfl, lo⟩
      refine q0 (find_none fun i a hi => lo i a ?_ hi) _ K3
      rw [lab]
      exact (List.getElem?_eq_some_iff.mp hi).1
theorem okIsRank {f : Addr} {fd : FuncData} (F : Fun K "is_rank_table" "is_rank_table" sIsRank f fd) (GT : Own P w K mg base CX0 3 "_is_table" ["value"] [] spIsTab) (GC : Own P w K mg base CX0 6 "clash" ["table"] [] spClashT) : FnOk P w K mg base CX0 7 f fd ["value"] spIsRankT := by
  refine F.ok scIsRank (fun vs H Q E h => ?_) (fun cdv A outer s H vs Q E hr h => ?_)
  · obtain ⟨v, d, n, T, rfl, _⟩ := h
    rfl
  · obtain ⟨v, d, n, T, rfl, an, t, q⟩ := h
    refine ⟨_, (pss_one (ps_ret (pe_and (pe_own GT (hr.mono (by decide)) pass0 (pa_cons (pv 0) pa_nil)) (pe_one (pe_cmpR op_isN (pe_own GC (hr.mono (by decide)) pass0 (pa_cons (pv 0) pa_nil)) pe_non (nomark _)))))), ?_⟩
    obtain ⟨it, wd⟩ := tab_is t
    refine ⟨_, rfl, v, d, rfl, an, wd, fun H1 k1 => ⟨_, rfl, ?_⟩⟩
    rw [it]
    refine iteT ⟨_, rfl, v, d, n, T, rfl, an.keep k1, t, fun no H2 k2 => ⟨rfl, ?_⟩, fun b u H2 yes k2 _ => ⟨rfl, ?_⟩⟩
    · have := q _ (k1.trans k2)
      rw [no] at this
      exact this
    · have := q _ (k1.trans k2)
      rw [yes] at this
      exact this
theorem okBarsOf {f : Addr} {fd : FuncData} (F : Fun K "bars_of" "bars_of" sBarsOf f fd) (eN : ErrF K mg "NegativeBar" "bar" CN) (GC : Own P w K mg base CX0 6 "clash" ["table"] [] spClashT) (GB : Own P w K mg base (L2.CX P w) 5 "bars" ["pattern"] [] (spBars CT)) (GO : Own P w K mg base CX0 1 "_pattern_of" ["table"] [] spPatT)
    (GN : Own P w K mg base CX0 2 "_number_by" ["table", "bar"] [] spNumT) : FnOk P w K mg base (L2.CX P w) 7 f fd ["table"] (spBarsT CN) := by
  refine F.okX scBarsOf (fun vs H Q E h => ?_) (fun cdv A outer s H vs Q E hr h => ?_)
  · obtain ⟨v, d, n, T, rfl, _⟩ := h
    rfl
  · obtain ⟨v, d, n, T, rfl, an, t, q0, q1⟩ := h
    refine ⟨_, (pss_cons (ps_set (i := 1) scBarsOf.nd rfl (Or.inl rfl) (pe_own GC (hr.mono (by decide)) pass0 (pa_cons (pv 0) pa_nil)))
      (pss_cons (ps_if (pt_cmpR op_notN (pv 1) pe_non (nomark _)) (pss_one (ps_throwF eN rfl (hr.mono (by decide)) (takes_of rfl rfl rfl rfl) (pv 1))) pss_nil)
      (pss_one (ps_ret (pe_dcT (own := [("told", 2)]) (g := gName 2) (tt := tYes) (tk := tVar 2) (tv := tCall spNumT [] E0 (tCons (tVar 0) (tCons (tVar 2) tNil))) (Nat.lt_of_le_of_lt (Nat.le_add_right _ 64) hr.units) rfl scBarsOf.nd (pi_list (pe_own (E := E) GB (hr.mono (by decide)) (passes_call (takes_of rfl rfl rfl rfl) (fun _ _ _ _ z => z)) (pa_cons (pe_own GO (hr.mono (by decide)) pass0 (pa_cons (pv 0) pa_nil)) pa_nil))) (blkOk_by (N := NBarsOf) (sc := defScope sBarsOf) (by decide +kernel)) (fun _ _ _ _ _ => (pg_name (i := 2) scBarsOf.nd rfl (Or.inl rfl))) (fun _ _ _ _ _ => pts_nil) (fun _ _ _ _ _ => (pv 2)) (fun _ _ _ _ _ => (pe_own GN (hr.mono (by decide)) pass0 (pa_cons (pv 0) (pa_cons (pv 2) pa_nil))))))))), ?_⟩
    refine ⟨_, rfl, v, d, n, T, rfl, an, t, fun no H1 k1 => ?_, fun b u H1 yes k1 hb => ?_⟩
    rotate_left
    · refine ⟨_, rfl, rfl, _, rfl, iteT ?_⟩
      exact ⟨_, rfl, thrownF_go (q0 b u H1 yes k1 hb)⟩
    refine ⟨_, rfl, rfl, _, rfl, iteF ?_⟩
    have n0 := t.n0
    have n7 := t.n7
    obtain ⟨p1, p2, p3⟩ := pat_X (k := n - 1) (by omega)
    have sh : Short (.str (patX (n - 1))) := fun y e => by
      cases e
      rw [p1]
      omega
    have an1 := an.keep k1
    refine ⟨_, rfl, v, d, n, T, rfl, an1, t, .str (patX (n - 1)), .str _, rfl, .str _, sh, fun z => (by rw [p2] at z; cases z), fun x' ex _ lb accb H3 hlb k3 eb ab => ?_⟩
    cases ex
    rw [p1, show n - 1 + 1 = n by omega] at ab
    have lab := anyL_len ab
    rw [List.length_map] at lab
    have bl : (barsL n).length ≤ 49 := bars_len n7
    have K3 := k1.trans k3
    refine ⟨lb, rfl, ⟨_, SqL.of eb⟩, fun D hD => ?_⟩
    refine ⟨fun i m H' => m = accb.length - i ∧ i ≤ accb.length ∧ Same H3 H' ∧ H' D = some (.dT (((barsL n).take i).map fun q => (keyT q, .int (numT n T q)))), ⟨accb.length, by simp, Nat.zero_le _, same_new hD, upd_same⟩, ?_⟩
    rintro i m H4 ⟨rfl, hi, k4, e4⟩
    have q4 : SqL K H4 lb accb := SqL.of (k4 _ _ eb)
    by_cases hlt : i < accb.length
    · refine .inr ⟨walk_list.goes i H4 hlt q4, fun H' => i + 1 ≤ accb.length ∧ Same H3 H' ∧ H' D = some (.dT (((barsL n).take (i + 1)).map fun q => (keyT q, .int (numT n T q)))), fun H' z => ⟨accb.length - (i + 1), by omega, rfl, z⟩, ?_⟩
      intro y H5 yl
      obtain ⟨rfl, hy⟩ := walk_list.yields i H4 y H5 hlt q4 yl
      obtain ⟨d2, hd, ad⟩ := anyL_at ab hy
      rw [List.getElem?_map] at hd
      obtain ⟨b, hb, eb2⟩ := Option.map_eq_some_iff.mp hd
      subst eb2
      obtain ⟨u, rfl, et⟩ := bar_ref ad
      have et5 := k4 _ _ (same_del _ _ et)
      refine ⟨rfl, ?_⟩
      unfold tYes
      refine Eq.mpr (if_pos (rfl : true = true)) ?_
      refine ⟨_, rfl, _, rfl, _, rfl, v, u, d, n, T, b, rfl, an1.keep (k3.trans k4), t, et5, List.mem_of_getElem? hb, ?_⟩
      refine ⟨_, keyT b, u, rfl, et5, e4, Nat.lt_of_le_of_lt (by rw [List.length_map, List.length_take]; omega : _ ≤ 49) (by decide), by omega, fun y o ey => ?_, ?_⟩
      · rw [upd_ne (ne_of_none ey hD)]
        exact k4 _ _ ey
      · rw [upd_same, put_map (f := fun q => .int (numT n T q)) (bars_new n7 hb), List.take_succ, hb] <;> rfl
    · have ei : i = accb.length := by omega
      subst ei
      refine .inl ⟨walk_list.stops H4 q4, q1 no D H4 (K3.free hD) (K3.trans k4) ?_⟩
      rw [lab, List.take_length] at e4
      exact e4
end
end K41
set_option Elab.async false
set_option linter.all false
set_option maxRecDepth 100000
set_option maxHeartbeats 2000000
namespace Rw
open PySem PySem.Spec PyProof.Rows L2
theorem part_sum (f : Nat × Nat → Int) (a : Nat) : ∀ j, ((partL a j).map f).sum = S j fun b => if a ≤ b then f (a, b) else 0
  | 0 => rfl
  | j + 1 => by
    have ih := part_sum f a j
    unfold partL at ih ⊢
    rw [List.range_succ, List.filter_append, List.map_append, List.map_append, List.sum_append, ih]
    show _ + _ = S j _ + _
    by_cases h : a ≤ j
    · rw [List.filter_cons_of_pos (by simpa using h), List.filter_nil]
      show S j _ + (f (a, j) + 0) = S j _ + (if a ≤ j then f (a, j) else 0)
      rw [if_pos h]
      omega
    · rw [List.filter_cons_of_neg (by simpa using h), List.filter_nil]
      show S j _ + 0 = S j _ + (if a ≤ j then f (a, j) else 0)
      rw [if_neg h]
theorem pre_sum (f : Nat × Nat → Int) (n : Nat) : ∀ i, ((preL n i).map f).sum = S i fun a => S n fun b => if a ≤ b then f (a, b) else 0
  | 0 => rfl
  | i + 1 => by
    have ih := pre_sum f n i
    unfold preL at ih ⊢
    rw [List.range_succ, List.flatMap_append, List.map_append, List.sum_append, ih, List.flatMap_cons, List.flatMap_nil, List.append_nil, part_sum] <;> rfl
theorem bars_sum (f : Nat × Nat → Int) (n : Nat) : ((barsL n).map f).sum = S n fun a => S n fun b => if a ≤ b then f (a, b) else 0 := pre_sum f n n
theorem S_cut (f : Nat → Int) {a : Nat} : ∀ {n : Nat}, a < n → S n (fun i => if i ≤ a then f i else 0) = S (a + 1) f
  | 0, h => absurd h (Nat.not_lt_zero _)
  | n + 1, h => by
    show S n _ + (if n ≤ a then f n else 0) = _
    by_cases e : a = n
    · subst e
      rw [if_pos (Nat.le_refl _), S_congr (n := a) (g := f) fun i hi => if_pos (by omega)] <;> rfl
    · rw [S_cut f (by omega : a < n), if_neg (by omega)]
      omega
theorem S_tele (h : Nat → Int) : ∀ n, S n (fun i => h (i + 1) - h i) = h n - h 0
  | 0 => by
    show 0 = h 0 - h 0
    omega
  | n + 1 => by
    show S n _ + (h (n + 1) - h n) = _
    rw [S_tele h n]
    omega
theorem S_tail (g : Nat → Int) {b : Nat} : ∀ {n : Nat}, b ≤ n → S n (fun j => if b ≤ j then g j - g (j + 1) else 0) = g b - g n
  | 0, h => by
    obtain rfl : b = 0 := by omega
    show 0 = g 0 - g 0
    omega
  | n + 1, h => by
    show S n _ + (if b ≤ n then g n - g (n + 1) else 0) = _
    by_cases e : b = n + 1
    · subst e
      rw [if_neg (by omega), S_congr (n := n) (g := fun _ => 0) fun i hi => if_neg (by omega), S_zero]
      omega
    · rw [S_tail g (by omega : b ≤ n), if_pos (by omega)]
      omega
theorem val_out (n : Nat) (T : List (List Int)) (b : Int) : valT n T (-1) b = 0 := if_pos (.inl rfl)
theorem val_end (n : Nat) (T : List (List Int)) (a : Int) : valT n T a (n : Int) = 0 := if_pos (.inr rfl)
/-- the numbers of the bars that hold two places add up to the value of these places -/
theorem mob (n : Nat) (T : List (List Int)) {a b : Nat} (hab : a ≤ b) (hb : b < n) : ((barsL n).map fun q => if q.1 ≤ a ∧ b ≤ q.2 then numT n T q else 0).sum = tabV T a b := by
  rw [bars_sum, S_swap]
  have row : ∀ j, j < n → S n (fun i => if i ≤ j then (if i ≤ a ∧ b ≤ j then numT n T (i, j) else 0) else 0) = if b ≤ j then valT n T a j - valT n T a ((j + 1 : Nat) : Int) else 0 := fun j hj => by
    by_cases e : b ≤ j
    · rw [if_pos e, S_congr (g := fun i => if i ≤ a then numT n T (i, j) else 0) fun i _ => ?_, S_cut _ (by omega : a < n)]
      · have := S_tele (fun i => valT n T ((i : Int) - 1) j - valT n T ((i : Int) - 1) ((j + 1 : Nat) : Int)) (a + 1)
        rw [S_congr (n := a + 1) (g := fun i => numT n T (i, j)) fun i _ => ?_] at this
        · rw [this]
          have e1 : (((a + 1 : Nat) : Int) - 1) = (a : Int) := by omega
          have e2 : (((0 : Nat) : Int) - 1) = -1 := by omega
          show valT n T (((a + 1 : Nat) : Int) - 1) j - valT n T (((a + 1 : Nat) : Int) - 1) ((j + 1 : Nat) : Int) - (valT n T (((0 : Nat) : Int) - 1) j - valT n T (((0 : Nat) : Int) - 1) ((j + 1 : Nat) : Int)) = _
          rw [e1, e2, val_out, val_out]
          omega
        · have e1 : (((i + 1 : Nat) : Int) - 1) = (i : Int) := by omega
          have e2 : ((j + 1 : Nat) : Int) = (j : Int) + 1 := by omega
          show valT n T (((i + 1 : Nat) : Int) - 1) j - valT n T (((i + 1 : Nat) : Int) - 1) ((j + 1 : Nat) : Int) - (valT n T ((i : Int) - 1) j - valT n T ((i : Int) - 1) ((j + 1 : Nat) : Int)) = _
          rw [e1, e2]
          show _ = valT n T (i : Int) (j : Int) - valT n T ((i : Int) - 1) (j : Int) - valT n T (i : Int) ((j : Int) + 1) + valT n T ((i : Int) - 1) ((j : Int) + 1)
          omega
      · by_cases h : i ≤ a
        · rw [if_pos (by omega), if_pos ⟨h, e⟩, if_pos h]
        · rw [if_neg h]
          split
          · exact if_neg fun z => h z.1
          · rfl
    · rw [if_neg e, S_congr (g := fun _ => 0) fun i _ => ?_, S_zero]
      split
      · exact if_neg fun z => e z.2
      · rfl
  rw [S_congr row, S_tail (fun j => valT n T a (j : Int)) (by omega : b ≤ n)]
  show valT n T a b - valT n T a (n : Int) = _
  rw [val_end, Int.sub_zero]
  unfold valT
  rw [if_neg (by omega)]
  show tabV T ((a : Int)).toNat ((b : Int)).toNat = _
  rw [show ((a : Int)).toNat = a by omega, show ((b : Int)).toNat = b by omega]
/-- the numbers that a table tells -/
def numsT (n : Nat) (T : List (List Int)) : Nums := (barsL n).map fun q => (q, (numT n T q).toNat)
theorem nodup_new {α : Type} : ∀ {l : List α}, (∀ (i : Nat) (q : α), l[i]? = some q → q ∉ l.take i) → l.Nodup := fun {l} h => by
  refine List.pairwise_iff_getElem.mpr fun i j hi hj hij e => h j l[j] (List.getElem?_eq_getElem hj) ?_
  rw [← e]
  refine List.mem_of_getElem? (i := i) ?_
  rw [List.getElem?_take, if_pos hij, List.getElem?_eq_getElem hi]
section
variable {n : Nat} {T : List (List Int)} {d : PyData}
theorem neg_none (h : negT n T = none) : ∀ q, q ∈ barsL n → 0 ≤ numT n T q := fun q hq => by
  have := List.find?_eq_none.mp h q hq
  simp at this
  exact this
theorem nums_key (h : negT n T = none) : numKT n T = nmT (numsT n T) := by
  unfold numKT nmT numsT
  rw [List.map_map]
  refine List.map_congr_left fun q hq => ?_
  show (keyT q, V.int (numT n T q)) = (keyT q, V.int (((numT n T q).toNat : Nat) : Int))
  rw [Int.toNat_of_nonneg (neg_none h q hq)]
theorem nums_keys : (numsT n T).map (·.1) = barsL n := by
  unfold numsT
  rw [List.map_map]
  exact List.map_id _
theorem nums_cov (h : negT n T = none) {a b : Nat} (hab : a ≤ b) (hb : b < n) : ((((numsT n T).map fun q => if q.1.1 ≤ a ∧ b ≤ q.1.2 then q.2 else 0).sum : Nat) : Int) = tabV T a b := by
  rw [← mob n T hab hb]
  unfold numsT
  rw [List.map_map]
  have hn := neg_none h
  generalize barsL n = l at hn
  induction l with
  | nil => rfl
  | cons q l ih =>
    rw [List.map_cons, List.sum_cons, List.map_cons, List.sum_cons]
    have h1 := ih fun r hr => hn r (List.mem_cons_of_mem _ hr)
    have h0 := hn q List.mem_cons_self
    show (((if q.1 ≤ a ∧ b ≤ q.2 then (numT n T q).toNat else 0) + _ : Nat) : Int) = _
    split <;> omega
theorem nums_sz (h : negT n T = none) {k : Nat} (hk : k < n) : ((szN (numsT n T) k : Nat) : Int) = tabV T k k := by
  rw [← nums_cov h (Nat.le_refl k) hk]
  unfold szN
  congr 2
  refine List.map_congr_left fun q _ => ?_
  unfold covB
  by_cases c : q.1.1 ≤ k ∧ k ≤ q.1.2
  · rw [if_pos c, decide_eq_true c.1, decide_eq_true c.2] <;> rfl
  · rw [if_neg c]
    by_cases c1 : q.1.1 ≤ k
    · rw [decide_eq_true c1, decide_eq_false (fun z => c ⟨c1, z⟩)] <;> rfl
    · rw [decide_eq_false c1] <;> rfl
theorem nums_low (t : TabT n T d) (h : negT n T = none) {k : Nat} (hk : k < n) : szN (numsT n T) k ≤ 6 := by
  have := nums_sz h hk
  have v := val_at t (Nat.le_refl k) hk
  omega
theorem tab_nums_ok (t : TabT n T d) (h : negT n T = none) : NumM (n - 1) (numsT n T) ∧ ((numsT n T).map (·.1)).Nodup := by
  have n7 := t.n7
  refine ⟨⟨⟨fun q hq => ?_, fun q hq => ?_⟩, ?_⟩, ?_⟩
  · have hb : q.1 ∈ barsL n := by rw [← nums_keys (T := T)]; exact List.mem_map_of_mem hq
    obtain ⟨b1, b2⟩ := bars_mem hb
    omega
  · have hb : q.1 ∈ barsL n := by rw [← nums_keys (T := T)]; exact List.mem_map_of_mem hq
    obtain ⟨b1, b2⟩ := bars_mem hb
    have := sz_ge (i := q.1.1) hq (by unfold covB; rw [decide_eq_true (Nat.le_refl _), decide_eq_true b1] <;> rfl)
    have := nums_low t h (show q.1.1 < n by omega)
    omega
  · unfold numsT
    rw [List.length_map]
    have := bars_len n7
    omega
  · rw [nums_keys]
    exact nodup_new fun i q hi => bars_new n7 hi
end
end Rw
set_option Elab.async false
set_option linter.all false
set_option maxRecDepth 100000
set_option maxHeartbeats 1500000
namespace Rw
open PySem PySem.Spec PyProof.Rows L2
end Rw
set_option Elab.async false
set_option linter.all false
set_option maxRecDepth 100000
set_option maxHeartbeats 1500000
namespace Rw
open PySem PySem.Spec PyProof.Rows L2
def tFrzO (te : TE) : TE := fun σ H Q => te σ H fun v H1 => ∃ d kvs, v = .ref d ∧ H1 d = some (.dT kvs) ∧ kvs.length ≤ 900 ∧ ∀ o bs, IsKeys H1 kvs bs → DicO (upd H1 d (.frz o (.dT kvs))) d (itemsT bs kvs) → Q (.ref d) (upd H1 d (.frz o (.dT kvs)))
section
variable {X : Cx} {e : Expr} {te : TE}
theorem pe_frzO (h : PE X e te) : PE X e (tFrzO te) := by
  refine ⟨fun pins s σ H Q I hq => ?_⟩
  refine wpAny_mono (h.run pins s σ H _ I hq) (fun u s1 y => ?_) fun _ _ z => z
  obtain ⟨v, H1, I1, rv, d, kvs, rfl, hd, l9, hw⟩ := y
  obtain ⟨od, I2⟩ := I1.lock hd True.intro
  obtain ⟨_, nm, xs, rel, o2, es, ep, g1, g2, g3, g4, g5, g6⟩ := dt_of I1.hok hd
  have ge : s1.heap.get? d = some od := (I2.hok d _ upd_same).1
  have eo : od = o2 := Option.some.inj (ge.symm.trans g1)
  subst eo
  refine ⟨.ref d, _, I2, rv, hw od (xs.map fun x => x.2.1) (isKeys_of rel) ⟨nm, ?_, od, _, upd_same, es, ep, g2, g3, by rw [g4]; exact kt_items rel⟩⟩
  have := Paired.length rel
  unfold itemsT
  rw [List.length_map, List.length_zip, List.length_map]
  omega
end
end Rw
set_option Elab.async false
set_option linter.all false
set_option maxRecDepth 100000
set_option maxHeartbeats 8000000
namespace Rw
open PySem PySem.Spec PyProof.Rows L2
def spRowT (C CN : Addr) : Sp := fun vs H Q E => ∃ (p : Nat) (v : V) (d : PyData) (n : Nat) (T : List (List Int)), vs = [.int ((p : Nat) : Int), v] ∧ PrN p ∧ Any H v d ∧ TabT n T d ∧ (∀ q t H', negT n T = some q → Same H H' → BarAt H' t q → ThrownF "bar" CN (.ref t) H' E) ∧ (negT n T = none → RowOut C H Q (patX (n - 1)) p (numsT n T))
theorem patX_pat {k : Nat} (h : k ≤ 6) : Pat (patX k) 6 := by
  rcases (by omega : k = 0 ∨ k = 1 ∨ k = 2 ∨ k = 3 ∨ k = 4 ∨ k = 5 ∨ k = 6) with e | e | e | e | e | e | e <;> subst e <;> exact ⟨by decide +kernel, by decide +kernel⟩
end Rw
namespace K41
open PySem PySem.Spec PyProof.Rows L2 Rw
abbrev sRowOfT : Stmt := top 45
abbrev NRowOfT : List Str := ["prime", "table", "told"]
theorem scRowOfT : FnScope NRowOfT ["prime", "table"] (defScope sRowOfT) := ⟨rfl, rfl, rfl, by decide +kernel, rfl, by decide +kernel, by decide +kernel⟩
section
variable {P : Program} {w : World} {K : PySem.W.Frag} {mg : Str → Option Value} {base : Heap} {C CT CP CX' CG CN : Addr}
theorem okRowOfT {f : Addr} {fd : FuncData} (F : Fun K "row_of_table" "row_of_table" sRowOfT f fd) (GP : Own P w K mg base (L2.CX P w) 4 "check_prime" ["prime"] [] (spCheck CP)) (GB : Own P w K mg base (L2.CX P w) 7 "bars_of" ["table"] [] (spBarsT CN)) (GO : Own P w K mg base CX0 1 "_pattern_of" ["table"] [] spPatT)
    (GW : Own P w K mg base (L2.CX P w) 8 "row_with" ["pattern", "prime", "numbers"] [] (spRowWith C CT CP CX' CG)) : FnOk P w K mg base (L2.CX P w) 9 f fd ["prime", "table"] (spRowT C CN) := by
  refine F.okX scRowOfT (fun vs H Q E h => ?_) (fun cdv A outer s H vs Q E hr h => ?_)
  · obtain ⟨p, v, d, n, T, rfl, _⟩ := h
    rfl
  · obtain ⟨p, v, d, n, T, rfl, hp, an, t, q0, q1⟩ := h
    refine ⟨_, (pss_cons (ps_expr (pe_own (E := E) GP (hr.mono (by decide)) (passes_call (takes_of rfl rfl rfl rfl) (fun _ _ _ _ z => z)) (pa_cons (pv 0) pa_nil)))
      (pss_cons (ps_set (i := 2) scRowOfT.nd rfl (Or.inl rfl) (pe_frzO (pe_own (E := E) GB (hr.mono (by decide)) (passes_call (takes_of rfl rfl rfl rfl) (fun _ _ _ _ z => z)) (pa_cons (pv 1) pa_nil))))
      (pss_one (ps_ret (pe_own (E := E) GW (hr.mono (by decide)) (passes_call (takes_of rfl rfl rfl rfl) (fun _ _ _ _ z => z)) (pa_cons (pe_own GO (hr.mono (by decide)) pass0 (pa_cons (pv 1) pa_nil)) (pa_cons (pv 0) (pa_cons (pv 2) pa_nil)))))))), ?_⟩
    have ip : isPr (.int ((p : Nat) : Int)) = true := decide_eq_true hp.m
    refine ⟨_, rfl, .int ((p : Nat) : Int), .int ((p : Nat) : Int), rfl, .int _, fun _ => ?_, fun z => absurd (ip.symm.trans z) (by decide)⟩
    refine ⟨_, rfl, v, d, n, T, rfl, an, t, fun q u H' y k b => q0 q u H' y k b, fun no D H1 hD k1 eD => ?_⟩
    have n0 := t.n0
    have n7 := t.n7
    obtain ⟨p1, p2, p3⟩ := pat_X (k := n - 1) (by omega)
    have bl : (barsL n).length ≤ 49 := bars_len n7
    refine ⟨D, _, rfl, eD, by unfold numKT; rw [List.length_map]; omega, fun o bs _ _ => ?_⟩
    have k2 : Same H (upd H1 D (.frz o (.dT (numKT n T)))) := fun b u e => by
      rw [upd_ne (ne_of_none e hD)]
      exact k1 _ _ e
    have nm : NumAt (upd H1 D (.frz o (.dT (numKT n T)))) D (numsT n T) := ⟨o, by rw [upd_same, nums_key no]⟩
    generalize upd H1 D (.frz o (.dT (numKT n T))) = H2 at k2 nm ⊢
    obtain ⟨ok, nd⟩ := tab_nums_ok t no
    have px : Pat (patX (n - 1)) 6 := patX_pat (by omega)
    have sh : Short (.str (patX (n - 1))) := fun y e => by
      cases e
      rw [p1]
      omega
    refine ⟨_, rfl, v, d, n, T, rfl, an.keep k2, t, ?_⟩
    refine ⟨_, rfl, _, rfl, _, _, _, rfl, ⟨_, .str _, sh, .inr ⟨_, rfl, px, _, .int _, .inr ⟨p, rfl, hp, .inr ⟨D, numsT n T, rfl, nm, ?_, nd, fun low => ?_, fun i hi z _ => ?_⟩⟩⟩⟩⟩
    · rw [p1]
      exact ok
    · exact fun o' H' ho k ro => q1 no o' H' (k2.free ho) (k2.trans k) ro
    · rw [p1] at hi
      have := nums_low t no (k := i) (by omega)
      omega
end
end K41
set_option Elab.async false
set_option linter.all false
set_option maxRecDepth 100000
set_option maxHeartbeats 4000000
namespace Rw
open PySem PySem.Spec PyProof.Rows L2
def spCauT (C : Addr) : Sp := fun vs H Q _ => ∃ (way : Int) (p : Nat) (v : V) (d : PyData) (n : Nat) (T : List (List Int)), vs = [.int way, .int ((p : Nat) : Int), v] ∧ (way = 0 ∨ way = 1) ∧ PrN p ∧ Any H v d ∧ TabT n T d ∧
  (∀ q t l H', negT n T = some q → Same H H' → BarAt H' t q → H l = none → H' l = some (.lst [.str "bar", .ref t]) → Q (.ref l) H') ∧
  (negT n T = none → way = 0 → ∀ D l H', H D = none → H l = none → Same H H' → H' D = some (.dT (numKT n T)) → H' l = some (.lst [.str "told", .ref D]) → Q (.ref l) H') ∧
  (negT n T = none → way = 1 → ∀ o l H', H l = none → Same H H' → RowOf C H' o (patX (n - 1)) ((p : Nat) : Int) (rowSs (patX (n - 1)).length (numsT n T)) (rowMs (patX (n - 1)) (numsT n T)) → H' l = some (.lst [.str "told", .ref o]) → Q (.ref l) H')
end Rw
namespace K41
open PySem PySem.Spec PyProof.Rows L2 Rw
abbrev sCaught : Stmt := top 66
abbrev NCaught : List Str := ["_law_way", "_law_p", "_law_table", "e"]
theorem scCaught : FnScope NCaught ["_law_way", "_law_p", "_law_table"] (defScope sCaught) := ⟨rfl, rfl, rfl, by decide +kernel, rfl, by decide +kernel, by decide +kernel⟩
section
variable {P : Program} {w : World} {K : PySem.W.Frag} {mg : Str → Option Value} {base : Heap} {C CR CN : Addr}
theorem okCaught {f : Addr} {fd : FuncData} (F : Fun K "_law_caught" "_law_caught" sCaught f fd) (EN : ErrF K mg "NegativeBar" "bar" CN) (gR : mg "RowError" = some (.ref CR)) (nn : PySem.W.exmOne K (.ref CN) (.ref CN) = some true)
    (GB : Own P w K mg base (L2.CX P w) 7 "bars_of" ["table"] [] (spBarsT CN)) (GR : Own P w K mg base (L2.CX P w) 9 "row_of_table" ["prime", "table"] [] (spRowT C CN)) :
    FnOk P w K mg base CX0 10 f fd ["_law_way", "_law_p", "_law_table"] (spCauT C) := by
  refine F.ok scCaught (fun vs H Q E h => ?_) (fun cdv A outer s H vs Q E hr h => ?_)
  · obtain ⟨way, p, v, d, n, T, rfl, _⟩ := h
    rfl
  · obtain ⟨way, p, v, d, n, T, rfl, hw, hp, av, t, q0, q1, q2⟩ := h
    refine ⟨_, (pss_one (ps_tries (tb := fun W => tSeq (tIfS (tTest (tOp rEq (tVar 0) (tC (.int 0)))) (tRet (tLst (tCons (tC (.str "told")) (tCons (tOwnS (spBarsT CN) [] W (tCons (tVar 2) tNil)) tNil)))) tNext)
        (tRet (tLst (tCons (tC (.str "told")) (tCons (tOwnS (spRowT C CN) [] W (tCons (tVar 1) (tCons (tVar 2) tNil))) tNil))))) rfl rfl scCaught.nd takes0
      (fun W pn xe tk pw => (pss_cons (ps_if (pt_cmpR op_eq (pv 0) pe_int (nomark _)) (pss_one (ps_ret (pe_lst (pa_cons pe_str (pa_cons (pe_ownS (W := W) GB (hr.mono (by decide)) (fun σ => passAt tk σ) (pa_cons (pv 2) pa_nil)) pa_nil))))) pss_nil)
        (pss_one (ps_ret (pe_lst (pa_cons pe_str (pa_cons (pe_ownS (W := W) GR (hr.mono (by decide)) (fun σ => passAt tk σ) (pa_cons (pv 1) (pa_cons (pv 2) pa_nil))) pa_nil)))))))
      (.as (i := 3) rfl rfl ⟨rfl, by decide, .inl EN.g⟩ (fun a oe cls d pn hz hf => pss_one (ps_ret (pe_lst (pa_cons pe_str (pa_cons (pe_xf EN.xf EN.no hz hf (pv 3)) pa_nil)))))
      (.anon ⟨rfl, by decide, .inl gR⟩ (fun a oe cls d pn hz hf => pss_one (ps_ret (pe_lst (pa_cons pe_str pa_nil)))) .nil)))), ?_⟩
    rcases hw with rfl | rfl
    · refine ⟨_, rfl, rfl, _, rfl, ?_⟩
      rw [show decide (V.int 0 = V.int 0) = true from rfl]
      refine iteT ⟨_, rfl, v, d, n, T, rfl, av, t, fun q u H' no k b => ?_, fun no D H' hD k eD => ?_⟩
      · intro dd H1 sm hd hx
        refine ⟨true, nn, fun _ a ha => ?_, fun z => (nomatch z)⟩
        exact ⟨_, rfl, rfl, rfl, dd, _, .ref u, rfl, hx, rfl, (by show 2 ≤ sizeLine; decide), fun l hl => q0 q u l _ no ((k.trans sm).trans (same_new hl)) (same_new hl _ _ (sm _ _ b)) ((k.trans sm).free hl) upd_same⟩
      · exact ⟨by show 2 ≤ sizeLine; decide, fun l hl => q1 no rfl D l _ hD (k.free hl) (k.trans (same_new hl)) (same_new hl _ _ eD) upd_same⟩
    · refine ⟨_, rfl, rfl, _, rfl, ?_⟩
      rw [show decide (V.int 1 = V.int 0) = false from rfl]
      refine iteF ⟨_, rfl, _, rfl, p, v, d, n, T, rfl, hp, av, t, fun q u H' no k b => ?_, fun no o H' ho k ro => ?_⟩
      · intro dd H1 sm hd hx
        refine ⟨true, nn, fun _ a ha => ?_, fun z => (nomatch z)⟩
        exact ⟨_, rfl, rfl, rfl, dd, _, .ref u, rfl, hx, rfl, (by show 2 ≤ sizeLine; decide), fun l hl => q0 q u l _ no ((k.trans sm).trans (same_new hl)) (same_new hl _ _ (sm _ _ b)) ((k.trans sm).free hl) upd_same⟩
      · exact ⟨by show 2 ≤ sizeLine; decide, fun l hl => q2 no rfl o l _ (k.free hl) (k.trans (same_new hl)) (ro.keep (same_new hl)) upd_same⟩
end
end K41
set_option Elab.async false
set_option linter.all false
set_option maxRecDepth 100000
set_option maxHeartbeats 2000000
namespace Rw
open PySem PySem.Spec PyProof.Rows L2
def eqR (r : Nat) (C : List Nat) : List Int := C.map fun c => if r = c then 1 else 0
theorem sameM_eq (R C : List Nat) : sameM R C = R.map fun r => eqR r C := rfl
theorem eqR_len {r : Nat} {C : List Nat} : (eqR r C).length = C.length := List.length_map _
theorem eqR_cl {r j : Nat} {C : List Nat} (h : j < C.length) : cl (eqR r C) j = if r = C[j] then 1 else 0 := by
  unfold cl eqR
  rw [List.getElem?_map, List.getElem?_eq_getElem h] <;> rfl
theorem eqR_self {C : List Nat} (nd : C.Nodup) {i : Nat} (h : i < C.length) : eqR C[i] C = unitV C.length i := by
  refine List.ext_getElem (by rw [eqR_len, unit_len]) fun j h1 h2 => ?_
  rw [eqR_len] at h1
  have e1 : (eqR C[i] C)[j]? = some (cl (eqR C[i] C) j) := by
    unfold cl
    rw [List.getElem?_eq_getElem (by rw [eqR_len]; exact h1)] <;> rfl
  have e2 : (unitV C.length i)[j]? = some (cl (unitV C.length i) j) := by
    unfold cl
    rw [List.getElem?_eq_getElem h2] <;> rfl
  have e : cl (eqR C[i] C) j = cl (unitV C.length i) j := by
    rw [eqR_cl h1, unit_cl h1]
    by_cases z : j = i
    · subst z
      rw [if_pos rfl, if_pos rfl]
    · rw [if_neg z, if_neg fun q => z ((List.getElem_inj nd).mp q).symm]
  rw [List.getElem?_eq_getElem (by rw [eqR_len]; exact h1)] at e1
  rw [List.getElem?_eq_getElem h2] at e2
  exact (Option.some.inj e1).trans (e.trans (Option.some.inj e2).symm)
theorem eqR_none {r : Nat} {C : List Nat} (h : r ∉ C) : ∀ c, c < C.length → cl (eqR r C) c = 0 := fun c hc => by
  rw [eqR_cl hc, if_neg fun e => h (by rw [e]; exact List.getElem_mem hc)]
theorem one_mod {p : Int} (hp : 1 < p) (b : Prop) [Decidable b] : (if b then (1 : Int) else 0) % p = if b then 1 else 0 := by
  split
  · exact Int.emod_eq_of_lt (by omega) hp
  · exact Int.zero_emod p
theorem same_led {p : Int} (hp : 1 < p) {B C : List Nat} {r : Nat} (nb : B.Nodup) (h : r ∈ C → r ∈ B) : modV p C.length (ledF (sameM B C) (cl (eqR r B))) = eqR r C := by
  have lm : (sameM B C).length = B.length := List.length_map _
  have key : ∀ c, (hc : c < C.length) → ledF (sameM B C) (cl (eqR r B)) c = if r = C[c] then 1 else 0 := fun c hc => by
    unfold ledF
    rw [lm]
    have row : ∀ i, (hi : i < B.length) → cl ((sameM B C)[i]?.getD []) c = if B[i] = C[c] then 1 else 0 := fun i hi => by
      have : (sameM B C)[i]? = some (eqR B[i] C) := by
        rw [sameM_eq, List.getElem?_map, List.getElem?_eq_getElem hi] <;> rfl
      rw [this, Option.getD_some, eqR_cl hc]
    by_cases hr : r ∈ B
    · obtain ⟨j, hj, rfl⟩ := List.getElem_of_mem hr
      rw [S_single (j := j) hj fun i hi ne => ?_]
      · show cl (eqR B[j] B) j * cl ((sameM B C)[j]?.getD []) c = _
        rw [eqR_cl hj, if_pos rfl, row j hj, Int.one_mul]
      · show cl (eqR B[j] B) i * _ = 0
        rw [eqR_cl hi, if_neg fun e => ne ((List.getElem_inj nb).mp e).symm, Int.zero_mul]
    · rw [S_congr (n := B.length) (g := fun _ => 0) fun i hi => by
        show cl (eqR r B) i * _ = 0
        rw [eqR_none hr i hi, Int.zero_mul], S_zero, if_neg fun e => hr (h (by rw [e]; exact List.getElem_mem hc))]
  refine List.ext_getElem (by rw [modV_len, eqR_len]) fun j h1 h2 => ?_
  have hj : j < C.length := by rw [modV_len] at h1; exact h1
  have e1 : (modV p C.length (ledF (sameM B C) (cl (eqR r B))))[j]? = some (ledF (sameM B C) (cl (eqR r B)) j % p) := by
    unfold modV
    rw [List.getElem?_map, List.getElem?_range hj] <;> rfl
  have e2 : (eqR r C)[j]? = some (if r = C[j] then 1 else 0) := by
    unfold eqR
    rw [List.getElem?_map, List.getElem?_eq_getElem hj] <;> rfl
  rw [List.getElem?_eq_getElem h1] at e1
  rw [List.getElem?_eq_getElem h2] at e2
  rw [Option.some.inj e1, Option.some.inj e2, key j hj]
  exact one_mod hp _
/-- the places of a list that stand in another -/
def selJ (R C : List Nat) : List Nat := (List.range C.length).filter fun j => decide ((C[j]?.getD 0) ∈ R)
theorem selJ_len (R : List Nat) : ∀ C : List Nat, (selJ R C).length = (C.filter fun c => decide (c ∈ R)).length := fun C => by
  have h : C = (List.range C.length).map fun j => C[j]?.getD 0 := by
    refine List.ext_getElem (by simp) fun j h1 h2 => ?_
    rw [List.getElem_map, List.getElem_range, List.getElem?_eq_getElem h1] <;> rfl
  conv => rhs; rw [h, List.filter_map, List.length_map]
  rfl
theorem sel_mem {R C : List Nat} {j : Nat} : j ∈ selJ R C ↔ ∃ h : j < C.length, C[j] ∈ R := by
  unfold selJ
  rw [List.mem_filter, List.mem_range]
  constructor
  · intro h
    have h2 := of_decide_eq_true h.2
    rw [List.getElem?_eq_getElem h.1] at h2
    exact ⟨h.1, h2⟩
  · rintro ⟨h, k⟩
    refine ⟨h, decide_eq_true ?_⟩
    rw [List.getElem?_eq_getElem h]
    exact k
def selP (R C : List Nat) : List PR := (selJ R C).map fun j => (j, unitV C.length j)
theorem selP_mem {R C : List Nat} {q : PR} (h : q ∈ selP R C) : ∃ j, ∃ hj : j < C.length, C[j] ∈ R ∧ q = (j, unitV C.length j) := by
  obtain ⟨j, hj, rfl⟩ := List.mem_map.mp h
  obtain ⟨h1, h2⟩ := sel_mem.mp hj
  exact ⟨j, h1, h2, rfl⟩
theorem selJ_asc (R C : List Nat) : (selJ R C).Pairwise (· < ·) := (List.pairwise_lt_range (n := C.length)).filter _
theorem sel_gs {p : Int} (hp : 1 < p) (R C : List Nat) : GS p C.length (selP R C) := by
  refine ⟨fun q hq => ?_, fun q hq => ?_, fun q hq c hc => ?_, fun q hq => ?_, fun q hq c hc => ?_, fun i j a b ne ha hb => ?_⟩
  · obtain ⟨j, hj, _, rfl⟩ := selP_mem hq
    exact unit_len
  · obtain ⟨j, hj, _, rfl⟩ := selP_mem hq
    exact hj
  · obtain ⟨j, hj, _, rfl⟩ := selP_mem hq
    show 0 ≤ cl (unitV C.length j) c ∧ cl (unitV C.length j) c < p
    rw [unit_cl hc]
    split <;> omega
  · obtain ⟨j, hj, _, rfl⟩ := selP_mem hq
    show cl (unitV C.length j) j = 1
    rw [unit_cl hj, if_pos rfl]
  · obtain ⟨j, hj, _, rfl⟩ := selP_mem hq
    show cl (unitV C.length j) c = 0
    have hc' : c < j := hc
    rw [unit_cl (by omega), if_neg (by omega)]
  · unfold selP at ha hb
    rw [List.getElem?_map] at ha hb
    obtain ⟨x, hx, rfl⟩ := Option.map_eq_some_iff.mp ha
    obtain ⟨y, hy, rfl⟩ := Option.map_eq_some_iff.mp hb
    obtain ⟨y1, _⟩ := sel_mem.mp (List.mem_of_getElem? hy)
    show cl (unitV C.length x) y = 0
    rw [unit_cl y1, if_neg fun e => ?_]
    subst e
    obtain ⟨i1, e1⟩ := List.getElem?_eq_some_iff.mp hx
    obtain ⟨j1, e2⟩ := List.getElem?_eq_some_iff.mp hy
    have nd : (selJ R C).Nodup := (selJ_asc R C).imp fun h => Nat.ne_of_lt h
    exact ne ((List.getElem_inj nd).mp (e1.trans e2.symm))
theorem sel_asc (R C : List Nat) : Asc (selP R C) := List.pairwise_map.mpr ((selJ_asc R C).imp fun h => Nat.le_of_lt h)
theorem same_base {p : Int} (hp : 1 < p) {R C : List Nat} (nc : C.Nodup) : BaseR p C.length (sameM R C) (rowsP (selP R C)) := by
  refine Bas.base ⟨sel_gs hp R C, fun r hr => ?_, fun q hq => ?_⟩ (sel_asc R C)
  · obtain ⟨a, ha, rfl⟩ := List.mem_map.mp hr
    show InL p C.length (rowsP (selP R C)) (cl (eqR a C))
    by_cases h : a ∈ C
    · obtain ⟨j, hj, rfl⟩ := List.getElem_of_mem h
      rw [eqR_self nc hj]
      refine .step (u := fun _ => 0) (r := unitV C.length j) 1 (List.mem_map.mpr ⟨(j, unitV C.length j), List.mem_map.mpr ⟨j, sel_mem.mpr ⟨hj, ha⟩, rfl⟩, rfl⟩) (.zero fun c _ => Int.zero_emod p) fun c _ => ?_
      rw [Int.one_mul, Int.zero_add]
    · exact .zero fun c hc => by
        rw [eqR_none h c hc]
        exact Int.zero_emod p
  · obtain ⟨j, hj, hr, rfl⟩ := selP_mem hq
    show InL p C.length (sameM R C) (cl (unitV C.length j))
    rw [← eqR_self nc hj]
    refine .step (u := fun _ => 0) (r := eqR C[j] C) 1 (List.mem_map.mpr ⟨C[j], hr, rfl⟩) (.zero fun c _ => Int.zero_emod p) fun c _ => ?_
    rw [Int.one_mul, Int.zero_add]
theorem same_rank {p : Int} (hp : 1 < p) {R C : List Nat} (nc : C.Nodup) {found : List (List Int)} (b : BaseR p C.length (sameM R C) found) : found.length = (C.filter fun c => decide (c ∈ R)).length := by
  have self : ∀ r, r ∈ sameM R C → InL p C.length (sameM R C) (cl r) := fun r hr => .step (u := fun _ => 0) (r := r) 1 hr (.zero fun c _ => Int.zero_emod p) fun c _ => by rw [Int.one_mul, Int.zero_add]
  rw [base_one hp b (same_base hp nc) self self, List.length_map]
  show (List.map _ (selJ R C)).length = _
  rw [List.length_map, selJ_len]
theorem cnt_sum {bs : List (Nat × Nat)} (nb : bs.Nodup) (f : Nat × Nat → Bool) : ∀ {M : Nums}, (M.map (·.1)).Nodup → (∀ q ∈ M, q.1 ∈ bs) → (bs.map fun b => if f b then getN M b else 0).sum = (M.map fun q => if f q.1 then q.2 else 0).sum
  | [], _, _ => by
    have : bs.map (fun b => if f b then getN [] b else 0) = bs.map fun _ => 0 := List.map_congr_left fun b _ => by
      show (if _ then 0 else 0) = 0
      split <;> rfl
    rw [this, sum_zeroB] <;> rfl
  | (r, m) :: T, nd, h => by
    rw [List.map_cons, List.nodup_cons] at nd
    have ih := cnt_sum nb f nd.2 fun q hq => h q (List.mem_cons_of_mem _ hq)
    have z : getN T r = 0 := getN_none nd.1
    have e : bs.map (fun b => if f b then getN ((r, m) :: T) b else 0) = bs.map fun b => (if r = b then (if f r then m else 0) else 0) + (if f b then getN T b else 0) := List.map_congr_left fun b _ => by
      by_cases e : r = b
      · subst e
        rw [if_pos rfl, z]
        unfold getN
        rw [if_pos rfl]
        split <;> rfl
      · rw [if_neg e, Nat.zero_add]
        conv => lhs; unfold getN
        rw [if_neg e]
    rw [e]
    have s : ∀ (f g : Nat × Nat → Nat) (l : List (Nat × Nat)), (l.map fun b => f b + g b).sum = (l.map f).sum + (l.map g).sum := fun f g l => by
      induction l with
      | nil => rfl
      | cons a l ih => simp only [List.map_cons, List.sum_cons, ih]; omega
    rw [s, sum_oneB nb (h _ List.mem_cons_self), ih]
    rw [List.map_cons, List.sum_cons]
theorem tol_cnt {n : Nat} {M : Nums} (nd : (M.map (·.1)).Nodup) (g : ∀ q ∈ M, q.1.1 ≤ q.1.2 ∧ q.1.2 ≤ n) (f : Nat × Nat → Bool) : ((tolB n M).filter f).length = (M.map fun q => if f q.1 then q.2 else 0).sum := by
  rw [← cnt_sum (pre_nodup (n + 1) (n + 1)) f nd fun q hq => in_bars (g q hq).1 (g q hq).2]
  unfold tolB barsL
  generalize preL (n + 1) (n + 1) = bs
  induction bs with
  | nil => rfl
  | cons b bs ih =>
    rw [List.flatMap_cons, List.filter_append, List.length_append, ih, List.map_cons, List.sum_cons]
    congr 1
    rw [List.filter_replicate]
    split
    · exact List.length_replicate
    · rfl
theorem hel_mid {ts : List (Nat × Nat)} {a b c j : Nat} (ab : a ≤ b) (bc : b ≤ c) (ha : j ∈ helB ts a) (hc : j ∈ helB ts c) : j ∈ helB ts b := by
  obtain ⟨h1, h2⟩ := hel_mem.mp ha
  obtain ⟨h3, h4⟩ := hel_mem.mp hc
  exact hel_mem.mpr ⟨by omega, by omega⟩
theorem cov_mem {ts : List (Nat × Nat)} {k j : Nat} : j ∈ helB ts k ↔ covAt ts k j = true := by
  rw [hel_mem]
  unfold covAt covB
  rw [Bool.and_eq_true, decide_eq_true_eq, decide_eq_true_eq]
  exact Iff.rfl
theorem hel_both {n : Nat} {M : Nums} (nd : (M.map (·.1)).Nodup) (g : ∀ q ∈ M, q.1.1 ≤ q.1.2 ∧ q.1.2 ≤ n) {a b : Nat} (ab : a ≤ b) : ((helB (tolB n M) b).filter fun c => decide (c ∈ helB (tolB n M) a)).length = (M.map fun q => if q.1.1 ≤ a ∧ b ≤ q.1.2 then q.2 else 0).sum := by
  have e1 : (helB (tolB n M) b).filter (fun c => decide (c ∈ helB (tolB n M) a)) = (List.range (tolB n M).length).filter fun j => covB ((tolB n M)[j]?.getD (1, 0)) a && covB ((tolB n M)[j]?.getD (1, 0)) b := by
    unfold helB helN
    rw [List.filter_filter]
    refine List.filter_congr fun j hj => ?_
    have hj' := List.mem_range.mp hj
    have : decide (j ∈ helN (tolB n M) a (tolB n M).length) = covAt (tolB n M) a j := by
      by_cases h : covAt (tolB n M) a j = true
      · rw [h]
        exact decide_eq_true (cov_mem.mpr h)
      · rw [(Bool.not_eq_true _).mp h]
        exact decide_eq_false fun z => h (cov_mem.mp z)
    unfold helN at this
    rw [this]
    rfl
  rw [e1]
  have e2 : (tolB n M) = (List.range (tolB n M).length).map fun j => (tolB n M)[j]?.getD (1, 0) := by
    refine List.ext_getElem (by simp) fun j h1 h2 => ?_
    rw [List.getElem_map, List.getElem_range, List.getElem?_eq_getElem h1] <;> rfl
  have e3 := tol_cnt nd g fun b' => covB b' a && covB b' b
  rw [e2, List.filter_map, List.length_map] at e3
  rw [show ((List.range (tolB n M).length).filter fun j => covB ((tolB n M)[j]?.getD (1, 0)) a && covB ((tolB n M)[j]?.getD (1, 0)) b).length = (M.map fun q => if (covB q.1 a && covB q.1 b) = true then q.2 else 0).sum from e3]
  congr 1
  refine List.map_congr_left fun q hq => ?_
  have gq := g q hq
  by_cases c : q.1.1 ≤ a ∧ b ≤ q.1.2
  · rw [if_pos c, if_pos]
    unfold covB
    rw [Bool.and_eq_true, Bool.and_eq_true, Bool.and_eq_true, decide_eq_true_eq, decide_eq_true_eq, decide_eq_true_eq, decide_eq_true_eq]
    omega
  · rw [if_neg c, if_neg]
    unfold covB
    rw [Bool.and_eq_true, Bool.and_eq_true, Bool.and_eq_true, decide_eq_true_eq, decide_eq_true_eq, decide_eq_true_eq, decide_eq_true_eq]
    omega
end Rw
set_option Elab.async false
set_option linter.all false
set_option maxRecDepth 100000
set_option maxHeartbeats 2000000
namespace Rw
open PySem PySem.Spec PyProof.Rows L2
section
variable {prog : Program} {w : World} {A : Around} {E : Value → Shared → Prop} {s : Shared}
theorem draw_listN {it t : Addr} {items : Array Value} (hne : t ≠ it) : ∀ (n i : Nat) (s : Shared) (Q : List Value → Shared → Prop), s.heap.IsListIter it t i → s.heap.IsList t items → i + n ≤ items.size →
    (∀ h' : Heap, h'.IsListIter it t (i + n) → Heap.SameBut it s.heap h' → Q ((items.toList.drop i).take n) { s with heap := h' }) → wpAny (model prog w) A (draw (.ref it) n) Q E s
  | 0, i, s, Q, hit, _, _, hQ => by
    show wpAny _ _ (pure []) Q E s
    exact wpAny_pure (by simpa using hQ s.heap hit (Heap.SameBut.refl ..))
  | n + 1, i, s, Q, hit, ht, hle, hQ => by
    have hlt : i < items.size := by omega
    show wpAny _ _ (pyNext (.ref it) >>= _) Q E s
    refine wpAny_bind (wpAny_pyNext_list_item hit ht (x := items[i]) (by simp [hlt]) fun h₁ hit₁ hs₁ => ?_)
    refine wpAny_bind (wpAny_holding (draw_listN hne n (i + 1) _ _ hit₁ (ht.extBut hs₁.extBut hne) (by omega) fun h₂ hit₂ hs₂ => wpAny_pure ?_))
    have hd : items.toList.drop i = items[i] :: items.toList.drop (i + 1) := by simp [List.drop_eq_getElem_cons, hlt]
    have := hQ h₂ (by rw [show i + (n + 1) = i + 1 + n by omega]; exact hit₂) (hs₁.trans hs₂)
    rw [hd, List.take_succ_cons] at this
    exact this
theorem unpackItems_listN {t : Addr} {items : Array Value} {Q : List Value → Shared → Prop} (hh : A.handled = none) (ht : s.heap.IsList t items)
    (hQ : ∀ h', Heap.ExtBut s.heap.objs.size s.heap h' → Q items.toList { s with heap := h' }) : wpAny (model prog w) A (unpackItems (.ref t) items.size none) Q E s := by
  have hlt : t ≠ s.heap.objs.size := by obtain ⟨o, ho, _⟩ := ht; exact Nat.ne_of_lt (Heap.lt_size ho)
  unfold unpackItems
  refine wpAny_bind ?_
  · unfold notIterableAtAll
    refine wpAny_bind (wpAny_specialOf ht.typeIs slot_list_iter.lookup ?_)
    refine wpAny_pure ?_
    simp only [Bool.false_eq_true, if_false]
    refine wpAny_bind (wpAny_holding (wpAny_pyIter_list ht ?_))
    refine wpAny_bind (wpAny_holding (draw_listN hlt items.size 0 _ _ ⟨_, Heap.get?_push_size _ rfl, rfl, rfl⟩ (ht.push _) (by omega) fun h₁ hit₁ hs₁ => ?_))
    have hall : List.take items.size (List.drop 0 items.toList) = items.toList := by
      rw [List.drop_zero]; exact List.take_of_length_le (by simp)
    rw [hall]
    rw [if_neg (by simp)]
    have ht₁ : h₁.IsList t items := (ht.push _).extBut hs₁.extBut hlt
    refine wpAny_bind (wpAny_holding (wpAny_pyNext_list_end hh hit₁ ht₁ (by simp) fun h₂ he₂ => ?_))
    simp only [Option.isSome_none, Bool.false_eq_true, if_false]
    refine wpAny_pure (hQ h₂ fun b o hb e => he₂ b o hb (hs₁.extBut b o hb (Heap.get?_push_of_some _ e)))
theorem assign_Tuple_listN {env : Env} {elts : List Expr} {x1} {pos : Pos} {t : Addr} {items : Array Value} {Q : Unit → Shared → Prop} (hh : A.handled = none) (ht : s.heap.IsList t items)
    (hn : (assignEach elts env).length = items.size) (hstar : (assignEach elts env).findIdx? (·.1) = none)
    (h : ∀ h', Heap.ExtBut s.heap.objs.size s.heap h' → wpAny (model prog w) A (assignInOrder ((assignEach elts env).map (·.2)) items.toList) Q E { s with heap := h' }) :
    wpAny (model prog w) A (assign (.Tuple elts x1 pos) env (.ref t)) Q E s := by
  rw [PyProof.Rows.assign_Tuple]
  refine wpAny_bind (wpAny_standAt ?_)
  unfold unpack
  rw [hn, hstar]
  exact wpAny_bind (wpAny_holding (unpackItems_listN hh ht h))
end
def gLstN (n : Nat) (t : TGs) : TG := fun v σ H Q => ∃ a xs, v = .ref a ∧ H a = some (.lst xs) ∧ xs.length = n ∧ t xs σ H Q
theorem pg_lstN {X : Cx} {es : List Expr} {k : Nat} {t : TGs} {n : Nat} {pos : Pos} (hc : X.calm = true) (h : PGs X es t)
    (hn : (assignEach es X.env).length = n := by rfl) (hst : (assignEach es X.env).findIdx? (·.1) = none := by rfl) : PG X (.Tuple es k pos) (gLstN n t) := by
  refine ⟨fun pins s σ H v u Q I r hw => ?_⟩
  obtain ⟨a, xs, e1, hq, hl, hw⟩ := hw
  subst e1
  cases r
  obtain ⟨its, n', rv, ht, hz⟩ := I.lst hq
  refine assign_Tuple_listN (items := its.toArray) (I.ok.hd hc) ⟨_, ht, rfl, n', rfl⟩ (by simp [hn, ← hl, rv.length]) hst fun h' hx => ?_
  have I1 : Inv X pins σ H { s with heap := h' } := I.kept (t' := s.toks) fun b o e => hx b o (Nat.ne_of_lt (Heap.lt_size e)) e
  exact h.run pins _ σ H xs _ Q I1 (by simpa using rv) hw
end Rw
set_option Elab.async false
set_option linter.all false
set_option maxRecDepth 100000
set_option maxHeartbeats 2000000
namespace Rw
open PySem PySem.Spec PyProof.Rows L2
/-- the bars at each place -/
structure Hel (n : Nat) (h : Nat → List Nat) : Prop where
  nd : ∀ k, (h k).Nodup
  le : ∀ k, k < n → (h k).length ≤ 6
  mid : ∀ a b c j, a ≤ b → b ≤ c → j ∈ h a → j ∈ h c → j ∈ h b
def cntH (h : Nat → List Nat) (a b : Nat) : Int := ((((h b).filter fun c => decide (c ∈ h a)).length : Nat) : Int)
def helS (n : Nat) (h : Nat → List Nat) : List Nat := (List.range n).map fun k => (h k).length
def helM (n : Nat) (h : Nat → List Nat) : List (List (List Int)) := (List.range (n - 1)).map fun k => sameM (h k) (h (k + 1))
def fD (c : Nat → Nat → Int) (i s x y : Nat) : Int := if x = y ∨ x < i ∨ (x = i ∧ y < i + s) then c x y else 0
section
variable {n : Nat} {c : Nat → Nat → Int} {h : Nat → List Nat}
theorem cntH_self (a : Nat) : cntH h a a = (((h a).length : Nat) : Int) := by
  unfold cntH
  rw [List.filter_eq_self.mpr fun x hx => decide_eq_true hx]
theorem fD_next {i k : Nat} (hk : i + 1 + k < n) : (mkT n fun x y => if x = i ∧ y = i + 1 + k then c i (i + 1 + k) else fD c i (1 + k) x y) = mkT n (fD c i (2 + k)) := mkT_congr fun x y xy hy => by
  unfold fD
  by_cases e : x = i ∧ y = i + 1 + k
  · obtain ⟨e1, e2⟩ := e
    subst e1
    subst e2
    rw [if_pos ⟨rfl, rfl⟩, if_pos (.inr (.inr ⟨rfl, by omega⟩))]
  · rw [if_neg e]
    by_cases z : x = y ∨ x < i ∨ (x = i ∧ y < i + (1 + k))
    · rw [if_pos z, if_pos (by omega)]
    · rw [if_neg z, if_neg (by omega)]
theorem fD_turn {i : Nat} (hi : i < n) : mkT n (fD c i (1 + (n - i - 1))) = mkT n (fD c (i + 1) 1) := mkT_congr fun x y xy hy => by
  unfold fD
  by_cases z : x = y ∨ x < i ∨ (x = i ∧ y < i + (1 + (n - i - 1)))
  · rw [if_pos z, if_pos (by omega)]
  · rw [if_neg z, if_neg (by omega)]
theorem fD_end : mkT n (fD c n 1) = mkT n c := mkT_congr fun x y xy hy => by
  unfold fD
  rw [if_pos (by omega)]
theorem fD_line {i : Nat} (hi : i < n) : c i i :: List.replicate (n - i - 1) 0 = rowT n (fD c 0 1) i := by
  refine List.ext_getElem? fun j => ?_
  cases j with
  | zero =>
    rw [rowT_at (by omega)]
    show some (c i i) = some (fD c 0 1 i (i + 0))
    unfold fD
    rw [if_pos (.inl rfl)] <;> rfl
  | succ j =>
    rw [List.getElem?_cons_succ]
    by_cases hj : i + (j + 1) < n
    · rw [rowT_at hj, List.getElem?_replicate, if_pos (by omega)]
      unfold fD
      rw [if_neg (by omega)]
    · rw [List.getElem?_eq_none (by rw [List.length_replicate]; omega), List.getElem?_eq_none (by rw [rowT_len]; omega)]
theorem sames_inR {q : Int} (hq : 1 < q) {r : Nat} {C : List Nat} : InR q (eqR r C) := fun e he => by
  obtain ⟨c, _, rfl⟩ := List.mem_map.mp he
  split <;> omega
theorem eqR_sm {r : Nat} {C : List Nat} : SmV (eqR r C) := ⟨fun e he => by
  obtain ⟨c, _, rfl⟩ := List.mem_map.mp he
  split <;> decide⟩
theorem flat_ones (k : Nat) (v : V) : (List.replicate k [v]).flatten = List.replicate k v := by simp
theorem cps_patX : ((List.range 7).all fun k => !decide (60 ∈ (patX k).cps.toList)) = true := by decide +kernel
theorem no_less {k : Nat} (h : k ≤ 6) : decide (60 ∈ (patX k).cps.toList) = false := by
  have := List.all_eq_true.mp cps_patX k (List.mem_range.mpr (by omega))
  simpa using this
end
def spRanksL : Sp := fun vs H Q _ => ∃ (v : V) (p : Nat) (n : Nat) (h : Nat → List Nat), vs = [v] ∧ Any H v (draftD (patX (n - 1)) ((p : Nat) : Int) (helS n h) (helM n h)) ∧ ((p : Nat) : Int) ∈ primesL ∧ 1 ≤ n ∧ n ≤ 7 ∧ Hel n h ∧ ∀ l bs H', Same H H' → Tab H H' l bs (mkT n (cntH h)) → Q (.ref l) H'
end Rw
set_option Elab.async false
set_option linter.all false
set_option maxRecDepth 100000
set_option maxHeartbeats 8000000
namespace K41
open PySem PySem.Spec PyProof.Rows L2 Rw
abbrev sRanks : Stmt := top 60
abbrev NRanks : List Str := ["_law_web", "_law_arrows", "_law_p", "_law_sizes", "_law_maps", "_law_place", "_law_found", "_law_forward", "_law_begin", "_law_rows", "_law_step", "_law_arrow", "_law_low", "_law_high", "_law_size", "_law_a", "_law_row", "_law_b"]
theorem scRanks : FnScope NRanks ["_law_web"] (defScope sRanks) := ⟨rfl, rfl, rfl, by decide +kernel, rfl, by decide +kernel, by decide +kernel⟩
abbrev gPSR (K : PySem.W.Frag) : TG := gTup K 2 (gCons (gName 5) (gCons (gName 14) gNil))
abbrev tLineR (K : PySem.W.Frag) : TE := tOp rCat (tLst (tCons (tVar 14) tNil)) (tOp rRep (tLst (tCons (tC (.int 0)) tNil)) (tOp (rI0 fun i j => .int (i - j)) (tOp (rI0 fun i j => .int (i - j)) (tLen K 3) (tVar 5)) (tC (.int 1))))
abbrev tUnitC : TE := tCB rInt1 (tCons (tOp rEq (tVar 15) (tVar 17)) tNil)
abbrev tUnitR (K : PySem.W.Frag) : TE := tCB (rTupOf K) (tCons (tLc (iRng1 (tCons (tOp (rIx K) (tVar 3) (tVar 8)) tNil)) (gName 17) tYes tUnitC [17]) tNil)
abbrev tLedAt (K : PySem.W.Frag) : TE := tCall spMixed [] E0 (tCons (tVar 2) (tCons (tVar 16) (tCons (tOp (rIx K) (tVar 4) (tVar 11)) (tCons (tOp (rIx K) (tVar 3) (tVar 5)) tNil))))
section
variable {P : Program} {w : World} {K : PySem.W.Frag} {mg : Str → Option Value} {base : Heap}
theorem okRanks {f : Addr} {fd : FuncData} (F : Fun K "_law_ranks" "_law_ranks" sRanks f fd) (zr : mg "range" = none) (zl : mg "len" = none) (zi : mg "int" = none) (zt : mg "tuple" = none) (ze : mg "enumerate" = none) (zn : mg "min" = none) (zx : mg "max" = none)
    (GL : Own P w K mg base CX0 1 "_law_led" ["_law_p", "_law_row", "_law_matrix", "_law_wide"] [] spMixed) (GR : Own P w K mg base CX0 3 "_law_rank" ["_law_p", "_law_rows"] [] spRankL) : FnOk P w K mg base CX0 4 f fd ["_law_web"] spRanksL := by
  refine F.ok scRanks (fun vs H Q E h => ?_) (fun cdv A outer s H vs Q E hr h => ?_)
  · obtain ⟨v, p, n, h, rfl, _⟩ := h
    rfl
  · obtain ⟨v, p, n, h, rfl, av, hp, n0, n7, hh, q⟩ := h
    refine ⟨_, (pss_cons (ps_asg (pv 0) (pg_lstN rfl (pgs_cons (pg_name (i := 1) scRanks.nd rfl (Or.inl rfl)) (pgs_cons (pg_name (i := 2) scRanks.nd rfl (Or.inr rfl)) (pgs_cons (pg_name (i := 3) scRanks.nd rfl (Or.inr rfl)) (pgs_cons (pg_name (i := 4) scRanks.nd rfl (Or.inr rfl)) pgs_nil))))))
    (pss_cons (ps_setLc (i := 6) (own := [("_law_place", 5), ("_law_size", 14)]) (g := gPSR K) (tt := tYes) (te := tLineR K) rfl scRanks.nd rfl rfl (sw_true rfl rfl rfl (by decide +kernel)) (pi_enumB (by rfl) ze (pa_cons (pv 3) pa_nil)) (blkOk_by (N := NRanks) (sc := defScope sRanks) (by decide +kernel)) (fun _ _ _ _ _ => (pg_tup rfl (pgs_cons (pg_name (i := 5) scRanks.nd rfl (Or.inl rfl)) (pgs_cons (pg_name (i := 14) scRanks.nd rfl (Or.inl rfl)) pgs_nil)))) (fun _ _ _ _ _ => pts_nil) (fun _ _ _ _ _ => (pe_op op_cat (pe_lst (pa_cons (pv 14) pa_nil)) (pe_op op_rep (pe_lst (pa_cons pe_int pa_nil)) (pe_op op_sub (pe_op op_sub (pe_callB call_len_seq (by rfl) zl boot_len (pa_cons (pv 3) pa_nil)) (pv 5)) pe_int)))))
    (pss_cons (ps_set (i := 7) scRanks.nd rfl (Or.inl rfl) (pe_cmpR op_notIn_sign pe_str (pv 1) rfl))
    (pss_cons (ps_for PassesOwn.never rfl (pi_range1 rfl zr (pa_cons (pe_callB call_len_seq (by rfl) zl boot_len (pa_cons (pv 3) pa_nil)) pa_nil)) (pg_name (i := 8) scRanks.nd rfl (Or.inr rfl)) (pss_cons (ps_setLc (i := 9) (own := [("_law_a", 15)]) (g := gName 15) (tt := tYes) (te := tUnitR K) rfl scRanks.nd rfl rfl (sw_true rfl rfl rfl (by decide +kernel)) (pi_range1 rfl zr (pa_cons (pe_ix ix_seq (pv 3) (pv 8) (fun _ _ => rfl)) pa_nil)) (blkOk_by (N := NRanks) (sc := defScope sRanks) (by decide +kernel)) (fun _ _ _ _ _ => (pg_name (i := 15) scRanks.nd rfl (Or.inr rfl))) (fun _ _ _ _ _ => pts_nil) (fun _ _ _ _ _ => (pe_callTy call_tuple_of (by rfl) zt boot_tuple (pa_cons (pe_lc (own := [("_law_b", 17)]) (g := gName 17) (tt := tYes) (te := tUnitC) rfl scRanks.nd (pi_range1 (by rfl) zr (pa_cons (pe_ix ix_seq (pv 3) (pv 8) (fun _ _ => rfl)) pa_nil)) (blkOk_by (N := NRanks) (by rfl)) (fun _ _ _ _ _ => (pg_name (i := 17) scRanks.nd rfl (Or.inl rfl))) (fun _ _ _ _ _ => pts_nil) (fun _ _ _ _ _ => (pe_callTy call_int1 (by rfl) zi boot_int (pa_cons (pe_cmpR op_eq (pv 15) (pv 17) (nomark _)) pa_nil)))) pa_nil))))
      (pss_one (ps_for PassesOwn.never rfl (pi_range2 rfl zr (pa_cons pe_int (pa_cons (pe_ix ix_list (pe_lst (pa_cons (pe_op op_add (pv 8) pe_int) (pa_cons (pe_op op_sub (pe_callB call_len_seq (by rfl) zl boot_len (pa_cons (pv 3) pa_nil)) (pv 8)) pa_nil))) (pe_callTy call_int1 (by rfl) zi boot_int (pa_cons (pv 7) pa_nil)) (fun _ _ => rfl)) pa_nil))) (pg_name (i := 10) scRanks.nd rfl (Or.inl rfl)) (pss_cons (ps_set (i := 5) scRanks.nd rfl (Or.inr rfl) (pe_ifExp (pt_val (pv 7)) (pe_op op_add (pv 8) (pv 10)) (pe_op op_sub (pv 8) (pv 10))))
        (pss_cons (ps_set (i := 11) scRanks.nd rfl (Or.inr rfl) (pe_ifExp (pt_val (pv 7)) (pe_op op_sub (pv 5) pe_int) (pv 5)))
        (pss_cons (ps_setLc (i := 9) (own := [("_law_row", 16)]) (g := gName 16) (tt := tYes) (te := tLedAt K) rfl scRanks.nd rfl rfl (sw_true rfl rfl rfl (by decide +kernel)) (pi_seq (pv 9)) (blkOk_by (N := NRanks) (sc := defScope sRanks) (by decide +kernel)) (fun _ _ _ _ _ => (pg_name (i := 16) scRanks.nd rfl (Or.inl rfl))) (fun _ _ _ _ _ => pts_nil) (fun _ _ _ _ _ => (pe_own GL (hr.mono (by decide)) pass0 (pa_cons (pv 2) (pa_cons (pv 16) (pa_cons (pe_ix ix_seq (pv 4) (pv 11) (fun _ _ => rfl)) (pa_cons (pe_ix ix_seq (pv 3) (pv 5) (fun _ _ => rfl)) pa_nil)))))))
        (pss_cons (ps_par (i := 12) (j := 13) (by rfl) scRanks.nd rfl rfl (by decide) rfl rfl (pa_cons (pe_callB (call_min2 rfl) (by rfl) zn boot_min (pa_cons (pv 8) (pa_cons (pv 5) pa_nil))) (pa_cons (pe_callB (call_max2 rfl) (by rfl) zx boot_max (pa_cons (pv 8) (pa_cons (pv 5) pa_nil))) pa_nil)) (by rfl))
        (pss_one (ps_asg (pe_own GR (hr.mono (by decide)) pass0 (pa_cons (pv 2) (pa_cons (pv 9) pa_nil))) (pg_sub (pe_ix ix_list (pv 6) (pv 12) (fun _ _ => rfl)) (pe_op op_sub (pv 13) (pv 12)) set_list)))))))))))
    (pss_one (ps_ret (pv 6))))))), ?_⟩
    have pp := prime_pos hp
    obtain ⟨a0, ws, rfl, ea, al⟩ := any_listD av
    cases al with
    | cons a1 al =>
    cases al with
    | cons a2 al =>
    cases al with
    | cons a3 al =>
    cases al with
    | cons a4 al =>
    cases al
    cases a1
    cases a2
    obtain ⟨S, xs, rfl, eS, aS⟩ := any_listD a3
    obtain ⟨M, ms, rfl, eM, aM⟩ := any_listD a4
    have lx : xs.length = n := (anyL_len aS).trans (by unfold helS; rw [List.length_map, List.length_map, List.length_range])
    have xat : ∀ i, i < n → xs[i]? = some (.int (((h i).length : Nat) : Int)) := fun i hi => by
      obtain ⟨u, hx⟩ : ∃ u, xs[i]? = some u := ⟨_, List.getElem?_eq_getElem (by omega)⟩
      obtain ⟨e, he, ae⟩ := anyL_at aS hx
      unfold helS at he
      rw [List.getElem?_map, List.getElem?_map, List.getElem?_range hi] at he
      cases he
      rw [hx]
      cases ae
      rfl
    have ixS : ∀ {H' : Hp} {i : Nat} {k : VK}, Same H H' → i < n → k (.int (((h i).length : Nat) : Int)) H' → rIx K (.ref S) (.int ((i : Nat) : Int)) H' k := fun s hi z => .inl ⟨S, xs, _, _, rfl, rfl, SqL.of (s _ _ eS), atI_nat (xat _ hi), z⟩
    refine ⟨_, rfl, a0, _, rfl, ea, rfl, _, _, rfl, _, _, rfl, _, _, rfl, _, _, rfl, rfl, ?_⟩
    refine ⟨_, rfl, S, true, xs, rfl, SqL.of eS, fun D hD => ?_⟩
    refine lc_tab walk_enumB (by omega) hD (fun H' s' => SqL.of (s' _ _ eS)) (fun i => rowT n (fD (cntH h) 0 1) i) ?_ ?_
    · rintro i y H1 H2 hi s1 _ ⟨T1, v1, v2, rfl, hT, rfl, h1, h2⟩
      cases h1
      replace h2 : xs[i]? = some v2 := h2
      rw [xat i (by omega)] at h2
      cases h2
      refine ⟨same_new hT, fun k hk => ?_⟩
      have s2 := s1.trans (same_new (o := .tup [.int ((i : Nat) : Int), .int (((h i).length : Nat) : Int)]) hT)
      have e2 := upd_same (H := H1) (a := T1) (o := .tup [.int ((i : Nat) : Int), .int (((h i).length : Nat) : Int)])
      generalize upd H1 T1 (.tup [.int ((i : Nat) : Int), .int (((h i).length : Nat) : Int)]) = H2 at s2 e2 hk ⊢
      refine ⟨T1, _, rfl, SqT.of e2, rfl, _, _, rfl, _, _, rfl, rfl, rfl, ?_⟩
      refine ⟨_, rfl, by show 1 ≤ sizeLine; decide, fun b hb => ⟨by show 1 ≤ sizeLine; decide, fun z hz => ?_⟩⟩
      have k1 := same_new (o := .lst [.int (((h i).length : Nat) : Int)]) hb
      have e3 := upd_same (H := H2) (a := b) (o := .lst [.int (((h i).length : Nat) : Int)])
      generalize upd H2 b (.lst [.int (((h i).length : Nat) : Int)]) = H3 at k1 e3 hz ⊢
      have k2 := same_new (o := .lst [V.int 0]) hz
      have e4 := upd_same (H := H3) (a := z) (o := .lst [V.int 0])
      have e5 := k2 _ _ e3
      generalize upd H3 z (.lst [V.int 0]) = H4 at k2 e4 e5 ⊢
      have s4 := s2.trans (k1.trans k2)
      refine ⟨_, rfl, S, xs, rfl, .inl (SqL.of (s4 _ _ eS)), _, rfl, _, _, rfl, rfl, _, _, rfl, rfl, ?_⟩
      have en : (((xs.length : Nat) : Int) - ((i : Nat) : Int) - 1).toNat = n - i - 1 := by omega
      refine ⟨z, _, [V.int 0], rfl, rfl, e4, by omega, by omega, ?_, fun u hu => ?_⟩
      · rw [en]
        show 1 * (n - i - 1) ≤ sizeLine
        exact Nat.le_trans (by omega : 1 * (n - i - 1) ≤ 100) (by decide)
      rw [en, flat_ones]
      have k3 := same_new (o := .lst (List.replicate (n - i - 1) (V.int 0))) hu
      refine ⟨b, u, [.int (((h i).length : Nat) : Int)], _, rfl, rfl, k3 _ _ e5, upd_same, ?_, fun t ht => ?_⟩
      · rw [List.length_replicate]
        show 1 + (n - i - 1) ≤ sizeLine
        exact Nat.le_trans (by omega : 1 + (n - i - 1) ≤ 100) (by decide)
      refine hk t _ ((k1.trans (k2.trans k3)).free ht) ((k1.trans (k2.trans k3)).trans (same_new ht)) ?_
      rw [upd_same, ← fD_line (c := cntH h) (by omega : i < n), List.map_cons, List.map_replicate, cntH_self] <;> rfl
    intro H1 bs s1 t1
    rw [lx, show (List.range n).map (fun i => rowT n (fD (cntH h) 0 1) i) = mkT n (fD (cntH h) 0 1) from rfl] at t1
    -- forward
    refine ⟨_, rfl, 60, patX (n - 1), rfl, rfl, ?_⟩
    rw [no_less (by omega : n - 1 ≤ 6)]
    refine ⟨_, rfl, S, xs, rfl, .inl (SqL.of (s1 _ _ eS)), _, rfl, by omega, by omega, ?_⟩
    rw [show (((xs.length : Nat) : Int)).toNat = n by omega]
    refine for_range (lo := 0) (n := n) (fun i σ' H' => ∃ y5 y8 y9 y10 y11 y12 y13, σ' = [some (.ref a0), some (.str (patX (n - 1))), some (.int ((p : Nat) : Int)), some (.ref S), some (.ref M), y5, some (.ref D), some (.bl true), y8, y9, y10, y11, y12, y13, none, none, none, none] ∧ Same H H' ∧ Tab H H' D bs (mkT n (fD (cntH h) i 1)))
      ⟨_, _, _, _, _, _, _, rfl, s1, t1⟩ ?_ ?_
    · rintro i σ' H2 hi ⟨y5, y8, y9, y10, y11, y12, y13, rfl, s2, t2⟩
      have z0 : (0 : Int) + ((i : Nat) : Int) = ((i : Nat) : Int) := Int.zero_add _
      rw [z0]
      refine ⟨_, rfl, _, rfl, ixS s2 hi ⟨_, rfl, by have := hh.le i hi; omega, by have := hh.le i hi; omega, ?_⟩⟩
      rw [show ((((h i).length : Nat) : Int)).toNat = (h i).length by omega]
      intro R hR
      refine lc_same walk_rng (by have := hh.le i hi; omega) hR (fun _ _ => trivial) (fun a => tupI (eqR ((h i)[a]?.getD 0) (h i))) ?_ ?_
      · rintro a y H3 ha rfl s3 _
        refine ⟨rfl, fun k hk => ?_⟩
        have s23 := s2.trans s3
        refine ⟨_, rfl, _, rfl, ixS s23 hi ⟨_, rfl, by have := hh.le i hi; omega, by have := hh.le i hi; omega, ?_⟩⟩
        rw [show ((((h i).length : Nat) : Int)).toNat = (h i).length by omega]
        intro U hU
        refine lc_same walk_rng (by have := hh.le i hi; omega) hU (fun _ _ => trivial) (fun b => .int (if (h i)[a]?.getD 0 = (h i)[b]?.getD 0 then 1 else 0)) ?_ ?_
        · rintro b y H4 hb rfl s4 _
          refine ⟨rfl, fun k' hk' => ⟨_, rfl, _, rfl, rfl, .inr ⟨_, rfl, hk' _ _ (Same.refl _) ?_⟩⟩⟩
          have e : (if decide (V.int ((a : Nat) : Int) = V.int ((b : Nat) : Int)) = true then (1 : Int) else 0) = if (h i)[a]?.getD 0 = (h i)[b]?.getD 0 then 1 else 0 := by
            rw [List.getElem?_eq_getElem ha, List.getElem?_eq_getElem hb, Option.getD_some, Option.getD_some]
            by_cases z : a = b
            · subst z
              rw [if_pos (decide_eq_true rfl), if_pos rfl]
            · rw [if_neg fun y => z (by have := V.int.inj (of_decide_eq_true y); omega), if_neg fun y => z ((List.getElem_inj (hh.nd i)).mp y)]
          rw [e]
          exact .int _
        · intro H4 acc s4 eU aU
          refine ⟨U, acc, rfl, .inl ⟨SqL.of eU, fun t ht => hk (.ref t) _ (s4.trans (same_new ht)) ?_⟩⟩
          have e : acc = (eqR ((h i)[a]?.getD 0) (h i)).map V.int := anyL_ints (H := del H4 U) (by
            have : (List.range (h i).length).map (fun b => PyData.int (if (h i)[a]?.getD 0 = (h i)[b]?.getD 0 then 1 else 0)) = (eqR ((h i)[a]?.getD 0) (h i)).map .int := by
              unfold eqR
              rw [List.map_map]
              exact map_get (fun c => PyData.int (if (h i)[a]?.getD 0 = c then 1 else 0)) 0 (h i)
            rw [← this]
            exact aU)
          rw [e]
          have htR : R ≠ t := fun z => by
            obtain ⟨o, ho⟩ := ‹∃ o, H3 R = some o›
            rw [← z, s4 _ _ ho] at ht
            cases ht
          exact .tup (by rw [del_ne htR.symm, upd_same]) (ints_anyL _)
      intro H3 acc s3 eR aR
      rw [show (List.range (h i).length).map (fun a => tupI (eqR ((h i)[a]?.getD 0) (h i))) = (sameM (h i) (h i)).map tupI by
        rw [sameM_eq, List.map_map]
        exact map_get (fun r => tupI (eqR r (h i))) 0 (h i)] at aR
      have s13 := s2.trans s3
      have t3 := t2.keep s3
      have hRH : H R = none := s2.free hR
      have aR' : AnyL H3 acc ((sameM (h i) (h i)).map tupI) := anyL_keep same_del aR
      refine ⟨_, rfl, _, _, rfl, rfl, _, rfl, S, xs, rfl, .inl (SqL.of (s13 _ _ eS)), _, rfl, _, _, rfl, rfl, by show 2 ≤ sizeLine; decide, fun u hu => ⟨_, rfl, .inr ⟨_, rfl, u, _, _, _, rfl, rfl, SqL.of upd_same, atI_nat (j := 1) rfl, _, _, rfl, ⟨by decide, by decide, by omega, by omega⟩, ?_⟩⟩⟩
      have k4 := same_new (o := .lst [.int (((i : Nat) : Int) + 1), .int (((xs.length : Nat) : Int) - ((i : Nat) : Int))]) hu
      generalize upd H3 u (.lst [.int (((i : Nat) : Int) + 1), .int (((xs.length : Nat) : Int) - ((i : Nat) : Int))]) = H4 at k4 ⊢
      rw [show (((xs.length : Nat) : Int) - ((i : Nat) : Int) - 1).toNat = n - i - 1 by omega]
      refine for_range (lo := 1) (n := n - i - 1) (fun k σ' H' => ∃ y5 y10 y11 y12 y13 R us, σ' = [some (.ref a0), some (.str (patX (n - 1))), some (.int ((p : Nat) : Int)), some (.ref S), some (.ref M), y5, some (.ref D), some (.bl true), some (.int ((i : Nat) : Int)), some (.ref R), y10, y11, y12, y13, none, none, none, none] ∧ Same H H' ∧ Tab H H' D bs (mkT n (fD (cntH h) i (1 + k))) ∧ H' R = some (.lst us) ∧ AnyL H' us ((sameM (h i) (h (i + k))).map tupI))
        ⟨_, _, _, _, _, R, acc, rfl, s13.trans k4, t3.keep k4, k4 _ _ eR, anyL_keep k4 aR'⟩ ?_ ?_
      · rintro k σ' H5 hk ⟨y5, y10, y11, y12, y13, R, us, rfl, s5, t5, eR, aR⟩
        have hik : i + 1 + k < n := by omega
        have ep : ((i : Nat) : Int) + (1 + ((k : Nat) : Int)) = ((i + 1 + k : Nat) : Int) := by omega
        have er : ((i + 1 + k : Nat) : Int) - 1 = ((i + k : Nat) : Int) := by omega
        refine ⟨_, rfl, true, rfl, iteT ⟨_, rfl, _, rfl, _, _, rfl, rfl, _, rfl, true, rfl, iteT ⟨_, rfl, _, _, rfl, rfl, ?_⟩⟩⟩
        dsimp only
        rw [ep, er]
        have lu : us.length = (h i).length := (anyL_len aR).trans (by rw [List.length_map, sameM_eq, List.length_map])
        obtain ⟨vm, hvm, am⟩ : ∃ vm, ms[i + k]? = some vm ∧ Any H vm (.list ((sameM (h (i + k)) (h (i + 1 + k))).map tupI)) := by
          have lm : ms.length = n - 1 := (anyL_len aM).trans (by unfold helM; rw [List.length_map, List.length_map, List.length_range])
          obtain ⟨u, hx⟩ : ∃ u, ms[i + k]? = some u := ⟨_, List.getElem?_eq_getElem (by omega)⟩
          obtain ⟨e, he, ae⟩ := anyL_at aM hx
          unfold helM at he
          rw [List.getElem?_map, List.getElem?_map, List.getElem?_range (by omega)] at he
          cases he
          dsimp only at ae
          rw [show i + k + 1 = i + 1 + k by omega] at ae
          exact ⟨u, hx, ae⟩
        refine ⟨_, rfl, R, true, us, rfl, SqL.of eR, fun D2 hD2 => ?_⟩
        have li := hh.le i hi
        refine lc_same (walk_seq (k := true)) (by omega) hD2 (fun H' s' => SqL.of (s' _ _ eR)) (fun a => tupI (eqR ((h i)[a]?.getD 0) (h (i + 1 + k)))) ?_ ?_
        · rintro a y H6 ha hy s6 ⟨o6, ho6⟩
          refine ⟨rfl, fun k' hk' => ?_⟩
          have s56 := s5.trans s6
          obtain ⟨e, he, ay⟩ := anyL_at aR hy
          have ha2 : a < (h i).length := by omega
          rw [sameM_eq, List.getElem?_map, List.getElem?_map, List.getElem?_eq_getElem ha2] at he
          cases he
          have p1 : (1 : Int) < ((p : Nat) : Int) := by omega
          obtain ⟨f1, f2, f3, f4, f5, f6⟩ := led_facts (q := p) hp (r := eqR (h i)[a] (h (i + k))) (m := sameM (h (i + k)) (h (i + 1 + k))) (W := (h (i + 1 + k)).length) (by rw [eqR_len, sameM_eq, List.length_map]) (sames_inR p1)
            (fun t ht => by
              rw [sameM_eq] at ht
              obtain ⟨r, _, rfl⟩ := List.mem_map.mp ht
              exact ⟨eqR_len, sames_inR p1⟩) (by have := hh.le (i + 1 + k) hik; omega) (by rw [sameM_eq, List.length_map]; have := hh.le (i + k) (by omega); omega)
          refine ⟨_, rfl, _, rfl, _, rfl, _, rfl, .inl ⟨M, ms, _, _, rfl, rfl, SqL.of (s56 _ _ eM), atI_nat hvm, _, rfl, _, rfl, ixS s56 hik ?_⟩⟩
          refine ⟨_, y, vm, _, _, (h (i + 1 + k)).length, rfl, f1, ay.keep s6, am.keep s56, f2, f3, f4, f5, by have := hh.le (i + 1 + k) hik; omega, fun t H7 ht k7 e7 => hk' _ H7 k7 ?_⟩
          have ne : t ≠ D2 := fun z => by rw [z, ho6] at ht; cases ht
          rw [f6, same_led p1 (hh.nd (i + k)) fun m => hh.mid i (i + k) (i + 1 + k) _ (by omega) (by omega) (List.getElem_mem ha2) m] at e7
          rw [List.getElem?_eq_getElem ha2, Option.getD_some]
          exact .tup (by rw [del_ne ne, e7]) (ints_anyL _)
        intro H6 ac s6 eD2 aD2
        rw [lu, show (List.range (h i).length).map (fun a => tupI (eqR ((h i)[a]?.getD 0) (h (i + 1 + k)))) = (sameM (h i) (h (i + 1 + k))).map tupI by
          rw [sameM_eq, List.map_map]
          exact map_get (fun r => tupI (eqR r (h (i + 1 + k)))) 0 (h i)] at aD2
        have s56 := s5.trans s6
        have t6 := t5.keep s6
        have aD : AnyL H6 ac ((sameM (h i) (h (i + 1 + k))).map tupI) := anyL_keep same_del aD2
        refine ⟨_, rfl, _, rfl, _, _, rfl, _, rfl, _, rfl, _, _, rfl, _, _, rfl, ?_⟩
        rw [if_neg (by omega : ¬ ((i + 1 + k : Nat) : Int) < ((i : Nat) : Int)), if_pos (by omega : ((i + 1 + k : Nat) : Int) > ((i : Nat) : Int))]
        have hk6 := hh.le (i + 1 + k) hik
        refine ⟨_, rfl, _, rfl, _, .ref D2, _, sameM (h i) (h (i + 1 + k)), (h (i + 1 + k)).length, rfl, hp, .lst eD2 aD, ⟨_, .inl rfl, likeV_tups _⟩, ⟨_, rfl⟩, by rw [sameM_eq, List.length_map]; omega, by omega, fun r hr => by
            rw [sameM_eq] at hr
            obtain ⟨a, _, rfl⟩ := List.mem_map.mp hr
            exact ⟨eqR_len, eqR_sm⟩, fun found H7 s7 b7 => ?_⟩
        rw [same_rank (by omega : (1 : Int) < ((p : Nat) : Int)) (hh.nd _) b7]
        have t7 := t6.keep s7
        have hrow : (mkT n (fD (cntH h) i (1 + k)))[i]? = some (rowT n (fD (cntH h) i (1 + k)) i) := mkT_at hi
        obtain ⟨b, hb, eb, hbH, bD⟩ := t7.at_ hrow
        have hbs : (bs.map V.ref)[i]? = some (.ref b) := by rw [List.getElem?_map, hb] <;> rfl
        refine ⟨_, rfl, _, rfl, D, _, _, _, rfl, rfl, SqL.of t7.a, atI_nat (j := i) hbs, ?_⟩
        refine ⟨_, rfl, _, rfl, _, _, rfl, rfl, ?_⟩
        dsimp only
        rw [show ((i + 1 + k : Nat) : Int) - ((i : Nat) : Int) = ((1 + k : Nat) : Int) by omega]
        refine ⟨b, _, _, 1 + k, rfl, rfl, eb, Evl.ixN_nat (by rw [List.length_map, rowT_len]; omega), ?_⟩
        have t8 := t7.cell hrow hb (1 + k) (cntH h i (i + 1 + k))
        rw [show 1 + k = (i + 1 + k) - i by omega, mkT_set (by omega) hik, show (i + 1 + k) - i = 1 + k by omega, fD_next hik] at t8
        have nb : D2 ≠ b := fun z => by
          obtain ⟨b', hb', eb', _, _⟩ := t5.at_ (T := mkT n (fD (cntH h) i (1 + k))) hrow
          rw [hb] at hb'
          cases hb'
          rw [z, eb'] at hD2
          cases hD2
        refine ⟨_, _, _, _, _, D2, ac, rfl, t7.same (s56.trans s7) hb _, ?_, ?_, ?_⟩
        · rw [show 1 + (k + 1) = 2 + k by omega]
          exact t8
        · rw [upd_ne nb]
          exact s7 _ _ eD2
        · rw [show i + (k + 1) = i + 1 + k by omega]
          refine anyL_lt (Lt.put eb) _ _ (anyL_keep s7 aD) (noLs_of fun d hd => ?_)
          obtain ⟨r, _, rfl⟩ := List.mem_map.mp hd
          exact noL_tupI r
      · rintro σ' H5 ⟨y5, y10, y11, y12, y13, R, us, rfl, s5, t5, eR, aR⟩
        rw [fD_turn hi] at t5
        exact ⟨_, _, _, _, _, _, _, rfl, s5, t5⟩
    · rintro σ' H2 ⟨y5, y8, y9, y10, y11, y12, y13, rfl, s2, t2⟩
      rw [fD_end] at t2
      exact ⟨_, rfl, q _ _ _ s2 t2⟩
end
end K41
set_option Elab.async false
set_option linter.all false
set_option maxRecDepth 100000
set_option maxHeartbeats 2000000
namespace Rw
open PySem PySem.Spec PyProof.Rows L2
def helT (n : Nat) (T : List (List Int)) (k : Nat) : List Nat := helB (tolB (n - 1) (numsT n T)) k
section
variable {n : Nat} {T : List (List Int)} {d : PyData}
theorem helT_ok (t : TabT n T d) (no : negT n T = none) : (∀ q, q ∈ numsT n T → q.1.1 ≤ q.1.2 ∧ q.1.2 ≤ n - 1) ∧ Hel n (helT n T) := by
  obtain ⟨ok, nd⟩ := tab_nums_ok t no
  have g : ∀ q, q ∈ numsT n T → q.1.1 ≤ q.1.2 ∧ q.1.2 ≤ n - 1 := fun q hq => ok.1.1 q hq
  refine ⟨g, ⟨fun k => hel_nodup, fun k hk => ?_, fun a b c j ab bc ha hc => hel_mid ab bc ha hc⟩⟩
  unfold helT
  rw [held_size nd g]
  exact nums_low t no hk
theorem row_helS (t : TabT n T d) (no : negT n T = none) : rowSs (patX (n - 1)).length (numsT n T) = helS n (helT n T) := by
  obtain ⟨ok, nd⟩ := tab_nums_ok t no
  obtain ⟨g, _⟩ := helT_ok t no
  have n0 := t.n0
  have n7 := t.n7
  obtain ⟨p1, p2, p3⟩ := pat_X (k := n - 1) (by omega)
  unfold rowSs helS
  rw [p1, show n - 1 + 1 = n by omega]
  refine List.map_congr_left fun k _ => ?_
  unfold helT
  rw [held_size nd g]
theorem row_helM (t : TabT n T d) : rowMs (patX (n - 1)) (numsT n T) = helM n (helT n T) := by
  have n0 := t.n0
  have n7 := t.n7
  obtain ⟨p1, p2, p3⟩ := pat_X (k := n - 1) (by omega)
  unfold rowMs mapsB helM
  rw [p1]
  refine List.map_congr_left fun k hk => ?_
  have hk := List.mem_range.mp hk
  have h := p3 k hk
  have e1 : stA (patX (n - 1)) k = k := by
    unfold stA
    rw [if_pos h]
  have e2 : goA (patX (n - 1)) k = k + 1 := by
    unfold goA
    rw [if_pos h]
  rw [e1, e2] <;> rfl
theorem hel_tab (t : TabT n T d) (no : negT n T = none) : mkT n (cntH (helT n T)) = T := by
  obtain ⟨ok, nd⟩ := tab_nums_ok t no
  obtain ⟨g, _⟩ := helT_ok t no
  rw [t.mk_eq.symm.symm]
  conv => rhs; rw [t.mk_eq]
  refine mkT_congr fun a b ab hb => ?_
  rw [← t.mk_eq]
  unfold cntH helT
  rw [hel_both nd g ab, nums_cov no ab hb]
theorem tab_lay (T : List (List Int)) : (PyData.list (T.map lstI)).canLay0 = true := by
  show PyData.canLayAll0 (T.map lstI) = true
  induction T with
  | nil => rfl
  | cons r T ih =>
    show (PyData.canLay0 (lstI r) && PyData.canLayAll0 (T.map lstI)) = true
    rw [ih, Bool.and_true]
    show PyData.canLayAll0 (r.map .int) = true
    induction r with
    | nil => rfl
    | cons e r ih => exact ih
theorem tab_dep (T : List (List Int)) : (PyData.list (T.map lstI)).depth ≤ 64 := by
  have h1 : PyData.depthAll (T.map lstI) ≤ 10 := dep_le fun d hd => by
    obtain ⟨r, _, rfl⟩ := List.mem_map.mp hd
    have : PyData.depthAll (r.map PyData.int) ≤ 3 := dep_le fun d hd => by
      obtain ⟨i, _, rfl⟩ := List.mem_map.mp hd
      simp only [PyData.depth]
      omega
    unfold lstI
    simp only [PyData.depth]
    omega
  simp only [PyData.depth]
  omega
end
end Rw
set_option Elab.async false
set_option linter.all false
set_option maxRecDepth 100000
set_option maxHeartbeats 4000000
namespace Rw
open PySem PySem.Spec PyProof.Rows L2
def spRowRt (C : Addr) : Sp := fun vs H Q _ => ∃ (p : Nat) (o : Addr) (v : V) (d : PyData) (n : Nat) (T : List (List Int)), vs = [.int ((p : Nat) : Int), .ref o, v] ∧ PrN p ∧ Any H v d ∧ TabT n T d ∧ negT n T = none ∧
  RowOf C H o (patX (n - 1)) ((p : Nat) : Int) (rowSs (patX (n - 1)).length (numsT n T)) (rowMs (patX (n - 1)) (numsT n T)) ∧ ∀ H', Same H H' → Q (.bl true) H'
end Rw
namespace K41
open PySem PySem.Spec PyProof.Rows L2 Rw
abbrev sRowRt : Stmt := top 67
abbrev NRowRt : List Str := ["_law_p", "_law_row", "_law_table", "_law_web", "_law_line"]
theorem scRowRt : FnScope NRowRt ["_law_p", "_law_row", "_law_table"] (defScope sRowRt) := ⟨rfl, rfl, rfl, by decide +kernel, rfl, by decide +kernel, by decide +kernel⟩
abbrev tLstL (K : PySem.W.Frag) : TE := tCB (fun xs H Q => ∃ p ys, xs = [.ref p] ∧ (SqL K H p ys ∨ SqT K H p ys) ∧ ∀ l, H l = none → Q (.ref l) (upd H l (.lst ys))) (tCons (tVar 4) tNil)
section
variable {P : Program} {w : World} {K : PySem.W.Frag} {mg : Str → Option Value} {base : Heap} {C : Addr}
theorem okRowRt {f : Addr} {fd : FuncData} (F : Fun K "_law_row_right" "_law_row_right" sRowRt f fd) (zl : mg "list" = none) (zn : mg "len" = none) (PP : PropAt P w K mg base C "pattern" (spGetP C)) (PQ : PropAt P w K mg base C "prime" (spGetQ C)) (PS : PropAt P w K mg base C "sizes" (spGetS C))
    (MM : Meth0At P w K mg base C "maps" 1 (spMaps C)) (GR : Own P w K mg base CX0 4 "_law_ranks" ["_law_web"] [] spRanksL) : FnOk P w K mg base CX0 5 f fd ["_law_p", "_law_row", "_law_table"] (spRowRt C) := by
  refine F.ok scRowRt (fun vs H Q E h => ?_) (fun cdv A outer s H vs Q E hr h => ?_)
  · obtain ⟨p, o, v, d, n, T, rfl, _⟩ := h
    rfl
  · obtain ⟨p, o, v, d, n, T, rfl, hp, av, t, no, ra, q⟩ := h
    refine ⟨_, (pss_cons (ps_set (i := 3) scRowRt.nd rfl (Or.inl rfl) (pe_lst (pa_cons (pe_prp PP (hr.mono (by decide)) (pv 1)) (pa_cons (pe_prp PQ (hr.mono (by decide)) (pv 1)) (pa_cons (pe_callTy call_lstA (by rfl) zl (by decide +kernel) (pa_cons (pe_prp PS (hr.mono (by decide)) (pv 1)) pa_nil)) (pa_cons (pe_mth0 MM (hr.mono (by decide)) (pv 1)) pa_nil))))))
    (pss_one (ps_ret (pe_and (pe_cmpR op_eq (pe_ix ix_list (pv 3) pe_int (fun _ _ => rfl)) (pe_op op_mulS pe_str (pe_op op_sub (pe_callB call_len_seq (by rfl) zn (by decide +kernel) (pa_cons (pv 2) pa_nil)) pe_int)) (nomark _)) (pe_and (pe_cmpR op_eq (pe_ix ix_list (pv 3) pe_int (fun _ _ => rfl)) (pv 0) (nomark _)) (pe_one (pe_cmpR (op_eqD (hr.units)) (pe_own GR (hr.mono (by decide)) pass0 (pa_cons (pv 3) pa_nil)) (pe_lc (own := [("_law_line", 4)]) (g := gName 4) (tt := tYes) (te := tLstL K) rfl scRowRt.nd (pi_seq (pv 2)) (blkOk_by (N := NRowRt) (sc := defScope sRowRt) (by decide +kernel)) (fun _ _ _ _ _ => (pg_name (i := 4) scRowRt.nd rfl (Or.inl rfl))) (fun _ _ _ _ _ => pts_nil) (fun _ _ _ _ _ => (pe_callTy call_list_of (by rfl) zl (by decide +kernel) (pa_cons (pv 4) pa_nil)))) (nomark _)))))))), ?_⟩
    have n0 := t.n0
    have n7 := t.n7
    rw [row_helS t no, row_helM t] at ra
    have hh := (helT_ok t no).2
    have ht := hel_tab t no
    generalize helT n T = h at ra hh ht
    have ra0 := ra
    obtain ⟨dx, sa, ma, ea, _, _⟩ := ra
    refine ⟨_, rfl, o, dx, _, rfl, ea, o, _, _, _, _, rfl, ra0, ?_⟩
    refine ⟨_, rfl, o, dx, _, rfl, ea, o, _, _, _, _, rfl, ra0, ?_⟩
    refine ⟨_, rfl, o, dx, _, rfl, ea, o, _, _, _, _, rfl, ra0, fun ts ats => ⟨_, _, rfl, ats, rfl, fun l1 ys h1 al1 => ?_⟩⟩
    have k1 := same_new (o := .lst ys) h1
    refine ⟨_, rfl, o, dx, _, rfl, k1 _ _ ea, rfl, o, _, _, _, _, rfl, ra0.keep k1, by rw [List.length_map]; unfold helM; rw [List.length_map, List.length_range]; omega, fun l2 acc H2 h2 k2 e2 al2 => ⟨by show 4 ≤ sizeLine; decide, fun l hl => ?_⟩⟩
    have k3 := same_new (o := .lst [.str (patX (n - 1)), .int ((p : Nat) : Int), .ref l1, .ref l2]) hl
    have kk := (k1.trans k2).trans k3
    have e1 : (upd H l1 (.lst ys)) l1 = some (.lst ys) := upd_same
    have c : ((helM n h).map fun m => m.map tupI).map PyData.list = (helM n h).map sheetD := by rw [List.map_map] <;> rfl
    rw [c] at al2
    have el := upd_same (H := H2) (a := l) (o := .lst [.str (patX (n - 1)), .int ((p : Nat) : Int), .ref l1, .ref l2])
    have aw : Any (upd H2 l (.lst [.str (patX (n - 1)), .int ((p : Nat) : Int), .ref l1, .ref l2])) (.ref l) (draftD (patX (n - 1)) ((p : Nat) : Int) (helS n h) (helM n h)) :=
      .lst upd_same (.cons (.str _) (.cons (.int _) (.cons (.lst (k3 _ _ (k2 _ _ e1)) (anyL_keep kk al1)) (.cons (.lst (k3 _ _ e2) (anyL_keep (same_del.trans k3) al2)) .nil))))
    generalize upd H2 l (.lst [.str (patX (n - 1)), .int ((p : Nat) : Int), .ref l1, .ref l2]) = H3 at kk el aw ⊢
    obtain ⟨ky, a, xs, rfl, hs, ln, lines⟩ := tab_lines t av
    refine ⟨_, rfl, l, _, _, _, rfl, rfl, SqL.of el, atI_nat (j := 0) rfl, ?_⟩
    refine ⟨_, rfl, a, xs, rfl, (hs kk K).or, _, _, rfl, rfl, _, ((n - 1 : Nat) : Int), rfl, ?_, mul_patX (by omega), rfl, _, rfl, ?_⟩
    · show V.int ((xs.length : Int) - 1) = V.int ((n - 1 : Nat) : Int)
      rw [ln, show (n : Int) - 1 = ((n - 1 : Nat) : Int) by omega]
    rw [show decide (V.str (patX (n - 1)) = V.str (Txt.mul ">" ((n - 1 : Nat) : Int))) = true from decide_eq_true rfl]
    refine iteT ⟨_, rfl, l, _, _, _, rfl, rfl, SqL.of el, atI_nat (j := 1) rfl, _, rfl, rfl, _, rfl, ?_⟩
    rw [show decide (V.int ((p : Nat) : Int) = V.int ((p : Nat) : Int)) = true from decide_eq_true rfl]
    refine iteT ⟨_, rfl, .ref l, p, n, h, rfl, aw, hp.m, n0, n7, hh, fun L bs H4 k4 t4 => ?_⟩
    rw [ht] at t4
    have kk4 := kk.trans k4
    refine ⟨_, rfl, a, ky, xs, rfl, hs kk4 K, fun D hD => ?_⟩
    refine lc_same (walk_seq (k := ky)) (by omega) hD (fun H' s' => hs (kk4.trans s') K) (fun i => lstI (T[i]?.getD [])) ?_ ?_
    · rintro i y H5 hi hy s5 ⟨o5, ho5⟩
      refine ⟨rfl, fun k hk => ?_⟩
      obtain ⟨k2, b, r, hx, hT, lr, rr, hq⟩ := lines i (by omega)
      rw [hx] at hy
      cases hy
      refine ⟨_, rfl, b, _, rfl, (hq (kk4.trans s5) K).or, fun u hu => ?_⟩
      have ne : u ≠ D := fun z => by rw [z, ho5] at hu; cases hu
      refine hk (.ref u) _ (same_new hu) ?_
      rw [hT, Option.getD_some]
      exact .lst (by rw [del_ne ne, upd_same]) (ints_anyL r)
    intro H6 acc s6 eD aD
    have lT := t.l
    rw [show xs.length = T.length by omega, map_get lstI [] T] at aD
    exact eq_same ((t4.keep s6).any fun b _ o e => e) (.lst eD (anyL_keep same_del aD)) (tab_lay T) (tab_dep T) (q _ (kk4.trans s6))
end
end K41
set_option Elab.async false
set_option linter.all false
set_option maxRecDepth 100000
set_option maxHeartbeats 8000000
namespace Rw
open PySem PySem.Spec PyProof.Rows L2
section
variable {X : Cx} {pins : List (Addr × Obj)} {σ : L2.St} {H : Hp} {s : Shared}
theorem rcT_run (I : Inv X pins σ H s) {A : Around} (hu : A.units + 64 < cLine) {a b : Addr} {kvs : List (List L2.Key × V)} (ea : H a = some (.dT kvs)) (eb : H b = some (.dT kvs)) (fn : ∀ p q, p ∈ kvs → q ∈ kvs → p.1 = q.1 → p.2 = q.2) (fl : ∀ p, p ∈ kvs → L2.flatB p.2 = true)
    (E Q : Value → Shared → Prop) (q : Q (.bool true) s) : wpAny (model X.prog X.w) A (richCompare .Eq (.ref a) (.ref b)) Q E s := by
  obtain ⟨za, na, xs, ra, o1, es, ep, ho1, ex1, hd1, en1, is1, nd1⟩ := dt_of I.hok ea
  obtain ⟨zb, nb, ys, rb, o2, fs, ep2, ho2, ex2, hd2, en2, is2, nd2⟩ := dt_of I.hok eb
  have la : es.size = kvs.length := by rw [size_of_entries en1, ← Paired.length ra]
  have lb : fs.size = kvs.length := by rw [size_of_entries en2, ← Paired.length rb]
  have tys : s.TypeIs (.ref a) "dict" := ⟨o1, ho1, ex1.1⟩
  have tyb : s.TypeIs (.ref b) "dict" := ⟨o2, ho2, ex2.1⟩
  refine wpAny_richCompare_same_room (op := .Eq) tys tyb PySem.F.slot_dict_eq (wpAny_call_entry PySem.F.slot_dict_eq tys PySem.F.entry_dict_eq ?_ (PySem.F.args_dict_eq_2 _ _)) (by omega)
  show wpAny _ _ (Builtin.Dict.dictSlotArgs "__eq__" ⟨[.ref a, .ref b], []⟩ >>= _) _ _ s
  refine wpAny_bind ?_
  unfold Builtin.Dict.dictSlotArgs
  refine wpAny_bind (wpAny_notOrdered_dict tys ?_)
  show wpAny _ _ (pure (Value.ref a, Value.ref b)) _ _ s
  refine wpAny_pure ?_
  refine wpAny_bind (wpAny_isInstance (T := "dict") tyb PySem.F.sub_dict_dict ?_)
  simp only [Bool.not_true, Bool.false_eq_true, if_false]
  refine wpAny_bind (wpAny_pure (wpAny_bind (wpAny_pure ?_)))
  refine wpAny_bind ?_
  unfold Builtin.Dict.samePairs Builtin.Dict.showsAll
  rw [if_neg (show ¬ (a == sysModules) = true by rw [na]; exact Bool.false_ne_true), if_neg (show ¬ (b == sysModules) = true by rw [nb]; exact Bool.false_ne_true)]
  refine wpAny_bind (wpAny_pure (wpAny_bind (wpAny_pure ?_)))
  refine wpAny_bind (wpAny_dictEntries ho1 hd1 ?_)
  dsimp only
  refine wpAny_bind (wpAny_dictEntries ho2 hd2 ?_)
  rw [if_neg (by rw [la, lb]; simp)]
  refine wpAny_bind (wpAny_dictEpoch ho1 hd1 ?_)
  refine wpAny_bind ?_
  rw [Std.Legacy.Range.forIn_eq_forIn_range']
  simp only [Std.Legacy.Range.size, Nat.sub_zero, Nat.add_sub_cancel, Nat.div_one]
  refine wpAny_forIn_list _ (fun rest q s' => s' = s ∧ q = (none, ()) ∧ ∃ i, rest = List.range' i (es.size - i) ∧ i ≤ es.size) _ ?_ ?_ _ _ ⟨rfl, rfl, 0, by simp, Nat.zero_le _⟩
  · rintro x rest q s' ⟨rfl, rfl, i, hr, hi⟩
    have hlt : i < es.size := by
      rcases Nat.lt_or_ge i es.size with h | h
      · exact h
      · rw [Nat.sub_eq_zero_of_le h] at hr; simp at hr
    obtain ⟨rfl, hrest⟩ : x = i ∧ rest = List.range' (i + 1) (es.size - (i + 1)) := by
      have e : es.size - i = (es.size - (i + 1)) + 1 := by omega
      rw [e, List.range'_succ] at hr
      injection hr with h1 h2
      exact ⟨h1, h2⟩
    refine wpAny_bind (wpAny_dictEntries ho1 hd1 ?_)
    rw [Array.getElem?_eq_getElem hlt]
    have hxM : x < kvs.length := by omega
    have hget : kvs[x]? = some kvs[x] := List.getElem?_eq_getElem hxM
    obtain ⟨⟨k1, b1, v1⟩, hx1, e1, e2, e3⟩ := paired_get ra hget
    have w0 := entry_at en1 x
    rw [hx1, Array.getElem?_eq_getElem hlt] at w0
    have w1 : es[x] = entryOfKey (tupleKind (mixKind X.prog X.w)) (k1, b1, v1) := Option.some.inj w0
    rw [w1]
    have ek : kvs[x].1 = k1 := e1
    obtain ⟨⟨k2, b2, v2⟩, hy2, f1, f2, f3⟩ := paired_get rb hget
    have ek2 : kvs[x].1 = k2 := f1
    show wpAny _ _ (holding [Value.ref b1, v1] _ >>= _) _ _ _
    refine wpAny_bind (wpAny_holding (wpAny_bind (wpAny_dictFind_heap (knd := tupleKind (mixKind X.prog X.w)) (k := k1) (tupleKind_room_in1 (by omega)) (is1 _ (List.mem_of_getElem? hx1)) ho2 hd2 en2 is2 nd2 (fun hn => absurd hy2 (by rw [← ek2, ek]; exact hn x (b2, v2))) (fun j p hj => ?_))))
    have jl : j < fs.size := by
      have := (List.getElem?_eq_some_iff.mp hj).1
      rw [size_of_entries en2]
      exact this
    refine wpAny_bind (wpAny_dictEntries ho2 hd2 ?_)
    rw [Array.getElem?_eq_getElem jl]
    have u0 := entry_at en2 j
    rw [hj, Array.getElem?_eq_getElem jl] at u0
    have u1 : fs[j] = entryOfKey (tupleKind (mixKind X.prog X.w)) (k1, p) := Option.some.inj u0
    rw [u1]
    have r1 : RelV kvs[x].2 v1 := e3
    have r2 : RelV kvs[x].2 p.2 := by
      have jN : j < kvs.length := by omega
      obtain ⟨⟨k3, p3⟩, hj3, g1, g2, g3⟩ := paired_get rb (show kvs[j]? = some kvs[j] from List.getElem?_eq_getElem jN)
      rw [hj] at hj3
      cases hj3
      have g1' : kvs[j].1 = k1 := g1
      rw [fn kvs[x] kvs[j] (List.getElem_mem hxM) (List.getElem_mem jN) (ek.trans g1'.symm)]
      exact g3
    show wpAny _ _ (holding [p.2] (eqBool v1 p.2)) _ _ _
    refine wpAny_holding (eqAt_same r1 r2 (fl _ (List.getElem_mem hxM)) _ _ _ _ ?_)
    show wpAny _ _ (if (!true) = true then _ else _) _ _ _
    rw [if_neg (by decide)]
    refine wpAny_bind (wpAny_dictEpoch ho1 hd1 ?_)
    rw [if_neg (by simp)]
    exact wpAny_pure ⟨rfl, rfl, x + 1, hrest, hlt⟩
  · rintro q s' ⟨rfl, rfl, i, hr, hi⟩
    exact wpAny_pure (wpAny_pure ⟨_, rfl, nofun, ‹Q (.bool true) s'›⟩)
/-- equal items: flat ones, dicts with tuple keys -/
def EqD (H : Hp) (x y : V) : Prop := (x = y ∧ L2.flatB x = true) ∨ ∃ (a b : Addr) (kvs : List (List L2.Key × V)), x = .ref a ∧ y = .ref b ∧ H a = some (.dT kvs) ∧ H b = some (.dT kvs) ∧ (∀ p q, p ∈ kvs → q ∈ kvs → p.1 = q.1 → p.2 = q.2) ∧ ∀ p, p ∈ kvs → L2.flatB p.2 = true
theorem eqD_run (I : Inv X pins σ H s) {A : Around} (hu : A.units + 64 < cLine) {x y : V} {v u : Value} (h : EqD H x y) (rx : RelV x v) (ry : RelV y u) : SeqAt.EqP X.prog X.w A s v u true := by
  rcases h with ⟨rfl, f⟩ | ⟨a, b, kvs, rfl, rfl, ea, eb, fn, fl⟩
  · exact (eqAt_same rx ry f).eqP
  · cases (show v = Value.ref a from rx)
    cases (show u = Value.ref b from ry)
    by_cases e : a = b
    · subst e
      exact (SeqAt.EqAt.same _).eqP
    · exact SeqAt.eqP_refs e fun E Q q => rcT_run I (by omega) ea eb fn fl E Q q
end
section
variable {X : Cx}
def rNeD2 : R2 := fun x y H Q => ∃ a b xs ys, x = .ref a ∧ y = .ref b ∧ H a = some (.lst xs) ∧ H b = some (.lst ys) ∧ Paired (EqD H) xs ys ∧ Q (.bl false) H
theorem op_neD2 (hu : X.A.units + 66 < cLine) : OpR X (compareOp .NotEq) rNeD2 := by
  intro pins s σ H x y v u Q I rx ry hq
  obtain ⟨a, b, xs, ys, rfl, rfl, ha, hb, p, q⟩ := hq
  cases rx
  cases ry
  show wpAny (model X.prog X.w) X.A (richCompare .NotEq (.ref a) (.ref b)) (EP X pins σ Q) X.xe s
  refine ne_listsV (N := xs.length) (by omega) (fun _ s' => s' = s) (fun i s' y => ?_) (fun s' y => ?_) rfl
  · subst y
    obtain ⟨_, its, k, r, e⟩ := I.hok a _ ha
    obtain ⟨_, its2, k2, r2, e2⟩ := I.hok b _ hb
    refine ⟨its.toArray, its2.toArray, k, k2, e, e2, by rw [List.size_toArray, ← r.length], by rw [List.size_toArray, ← r2.length, ← Paired.length p], fun h1 h2 => ?_⟩
    have := items_run (A := X.A.in1) (fun x y v u h rx ry => eqD_run I (by show X.A.units + 1 + 64 < cLine; omega) h rx ry) p r r2 i (by simpa using h1) (by simpa using h2)
    have h3 : (its.toArray)[i] = its[i]'(by simpa using h1) := by simp
    have h4 : (its2.toArray)[i] = its2[i]'(by simpa using h2) := by simp
    rw [h3, h4]
    exact this _ _ ⟨rfl, rfl⟩
  · subst y
    exact ⟨.bl false, H, I, rfl, q⟩
def leB (x y : Nat × Nat) : Prop := x.1 < y.1 ∨ (x.1 = y.1 ∧ x.2 ≤ y.2)
def rSortedB (K : PySem.W.Frag) : List V → Hp → VK → Prop := fun vs H Q => ∃ (a : Addr) (L : List (Addr × (Nat × Nat))), vs = [V.ref a] ∧ SqL K H a (L.map fun z => V.ref z.1) ∧ (∀ z ∈ L, BarAt H z.1 z.2) ∧ L.length ≤ 10000 ∧ L.Pairwise (fun x y => leB x.2 y.2) ∧
  ∀ p, H p = none → Q (.ref p) (upd H p (.lst (L.map fun z => V.ref z.1)))
def encB (z : Addr × (Nat × Nat)) : PyData := .tuple [.int ((z.2.1 : Nat) : Int), .int ((z.2.2 : Nat) : Int)]
theorem each_ofB {its : List Value} : ∀ {L : List (Addr × (Nat × Nat))}, Vals (L.map fun z => V.ref z.1) its → PySem.W.EachIs (fun (v : Value) (z : Addr × (Nat × Nat)) => v = Value.ref z.1) its L
  | [], h => by cases h; exact .nil
  | z :: L, h => by
    cases h with
    | cons r t => exact .cons (show _ = Value.ref z.1 from r) (each_ofB t)
theorem each_outB {L : List (Addr × (Nat × Nat))} : ∀ {out : List Value}, PySem.W.EachIs (fun (v : Value) (z : Addr × (Nat × Nat)) => v = Value.ref z.1) out L → Vals (L.map fun z => V.ref z.1) out
  | _, .nil => .nil
  | _, .cons r t => .cons r (each_outB t)
theorem cr_sortedB (hu : X.A.units + 66 < cLine) : CallR X (.builtin "sorted") (rSortedB X.K) := by
  intro pins s σ H vs us Q I r h
  obtain ⟨a, L, rfl, hs, hx, l4, so, q⟩ := h
  obtain ⟨its, rv, hl, hz⟩ := I.list hs
  obtain ⟨u, rfl, ru⟩ := vals1 r
  obtain rfl : u = Value.ref a := ru
  have ll : L.length ≤ sizeLine := Nat.le_trans l4 (by decide)
  refine PySem.W.sorted_data (R := fun (v : Value) (z : Addr × (Nat × Nat)) => v = Value.ref z.1) (enc := encB) hl.isList (each_ofB rv) ?_ ?_ ?_ ll (fun z hz => ?_) fun out lo eo => ?_
  · have key : ∀ {L : List (Addr × (Nat × Nat))} {its : List Value}, Vals (L.map fun z => V.ref z.1) its → (∀ z ∈ L, BarAt H z.1 z.2) → PySem.W.EachIs (fun (v : Value) (z : Addr × (Nat × Nat)) => ∃ as, Reads s.heap v (encB z) as) its L := by
      intro L
      induction L with
      | nil => intro its h _; cases h; exact .nil
      | cons z L ih =>
        intro its h g
        cases h with
        | cons r t =>
          refine .cons ?_ (ih t fun y hy => g y (List.mem_cons_of_mem _ hy))
          have ab : Any H (.ref z.1) (encB z) := .tup (g z List.mem_cons_self) (.cons (.int _) (.cons (.int _) .nil))
          exact Dp.reads I _ _ _ (any_dp _ _ ab (by rfl)) r
    exact key rv hx
  · exact PySem.W.AllAlike.of fun b c => by
      show PySem.W.alike (.tuple _) (.tuple _) = true
      exact PySem.W.alike_ints [_, _] [_, _]
  · refine .inl fun d hd => ?_
    obtain ⟨z, hz, rfl⟩ := List.mem_map.mp hd
    exact ⟨_, _, rfl⟩
  · have : (encB z).depth = 1 := by
      unfold encB
      simp only [PyData.depth, PyData.depthAll]
      rfl
    omega
  · obtain ⟨n, hn⟩ := sortedAll_at s.heap its out.toArray
    have e : L.mergeSort (PySem.W.dataLe false encB) = L := List.mergeSort_of_pairwise (so.imp fun h => by
      unfold encB
      rw [PySem.W.dataLe_ii (fun z : Addr × (Nat × Nat) => ((z.2.1 : Nat) : Int)) (fun z => ((z.2.2 : Nat) : Int))]
      unfold leB at h
      exact decide_eq_true (by omega))
    rw [e] at eo
    refine ⟨.ref (s.heap.objs.size + 1), upd H (s.heap.objs.size + 1) (.lst (L.map fun z => V.ref z.1)), I.laid (t' := s.toks) (fun b ob e => sortedAll_old e) (Nat.le_succ _) ⟨by rw [List.length_map]; exact ll, out, n, each_outB eo, hn⟩, rfl, q _ (I.hok.fresh (Nat.le_succ _))⟩
end
theorem barsL_le : ∀ n, n < 8 → (barsL n).Pairwise (fun x y => x.1 < y.1 ∨ (x.1 = y.1 ∧ x.2 ≤ y.2)) := by decide +kernel
end Rw
set_option Elab.async false
set_option linter.all false
set_option maxRecDepth 100000
set_option maxHeartbeats 2000000
namespace Rw
open PySem PySem.Spec PyProof.Rows L2
/-- signs of texts that can be shown -/
def AscS (x : Str) : Prop := ∀ c ∈ x.cps.toList, c < 16 ^ 8
instance (x : Str) : Decidable (AscS x) := by unfold AscS; infer_instance
theorem asc_app {x y : Str} (hx : AscS x) (hy : AscS y) : AscS (x ++ y) := fun c hc => by
  rcases mem_cps_append.mp hc with h | h
  · exact hx c h
  · exact hy c h
theorem asc_join {s : Str} {ts : List Str} (hs : AscS s) (h : ∀ t ∈ ts, AscS t) : AscS (Str.join s ts) := fun c hc => by
  rcases (mem_join s c ts).mp hc with ⟨t, ht, k⟩ | ⟨_, k⟩
  · exact h t ht c k
  · exact hs c k
theorem asc_list {ts : List Str} (h : ∀ t ∈ ts, AscS t) : AscS (listText ts) := by
  rw [listText_eq_join]
  exact asc_app (asc_app (show AscS "[" by decide +kernel) (asc_join (show AscS ", " by decide +kernel) h)) (show AscS "]" by decide +kernel)
theorem asc_tup {ts : List Str} (h : ∀ t ∈ ts, AscS t) : AscS (tupleText ts) := by
  unfold tupleText
  refine asc_app (asc_app (show AscS "(" by decide +kernel) (asc_join (show AscS ", " by decide +kernel) h)) ?_
  split
  · exact show AscS ",)" by decide +kernel
  · exact show AscS ")" by decide +kernel
def AscD (d : PyData) : Prop := AscS d.shown
theorem ascD_all : ∀ {ds : List PyData}, (∀ d ∈ ds, AscD d) → ∀ t ∈ PyData.shownAll ds, AscS t
  | [], _, t, ht => by simp only [PyData.shownAll] at ht; cases ht
  | d :: ds, h, t, ht => by
    simp only [PyData.shownAll] at ht
    rcases List.mem_cons.mp ht with z | z
    · rw [z]
      exact h d List.mem_cons_self
    · exact ascD_all (fun e he => h e (List.mem_cons_of_mem _ he)) t z
theorem ascD_list {ds : List PyData} (h : ∀ d ∈ ds, AscD d) : AscD (.list ds) := by
  unfold AscD
  simp only [PyData.shown]
  exact asc_list (ascD_all h)
theorem ascD_tup {ds : List PyData} (h : ∀ d ∈ ds, AscD d) : AscD (.tuple ds) := by
  unfold AscD
  simp only [PyData.shown]
  exact asc_tup (ascD_all h)
theorem ascD_int {e : Int} (h0 : 0 ≤ e) (h6 : e ≤ 6) : AscD (.int e) := by
  rcases (by omega : e = 0 ∨ e = 1 ∨ e = 2 ∨ e = 3 ∨ e = 4 ∨ e = 5 ∨ e = 6) with z | z | z | z | z | z | z <;> subst z <;> exact show AscS _ by decide +kernel
section
variable {n : Nat} {T : List (List Int)} {d : PyData}
theorem tab_asc (t : TabT n T d) : AscD d ∧ Tq 2 d := by
  have n7 := t.n7
  obtain ⟨ds, e, lk⟩ := t.v
  have ld : ds.length = n := lk.len.trans t.l
  have row : ∀ x, x ∈ ds → ∃ r, VecD r x ∧ r.length ≤ 7 ∧ ∀ y, y ∈ r → 0 ≤ y ∧ y ≤ 6 := fun x hx => by
    obtain ⟨i, hi, rfl⟩ := List.getElem_of_mem hx
    obtain ⟨r, hr, vd⟩ := lk.at_ i _ (List.getElem?_eq_getElem hi)
    obtain ⟨h1, h2⟩ := t.w i r hr
    exact ⟨r, vd, by omega, h2⟩
  have a : ∀ x, x ∈ ds → AscD x := fun x hx => by
    obtain ⟨r, vd, lr, rr⟩ := row x hx
    have : ∀ y ∈ r.map PyData.int, AscD y := fun y hy => by
      obtain ⟨z, hz, rfl⟩ := List.mem_map.mp hy
      exact ascD_int (rr z hz).1 (rr z hz).2
    rcases vd with z | z <;> rw [z]
    · exact ascD_list this
    · exact ascD_tup this
  have b : ∀ x, x ∈ ds → Tq 1 x := fun x hx => by
    obtain ⟨r, vd, lr, rr⟩ := row x hx
    refine tq_row vd (by omega) ⟨fun y hy => ?_⟩
    have := rr y hy
    exact Nat.lt_of_le_of_lt (by omega : y.natAbs ≤ 6) (by decide)
  rcases e with z | z <;> rw [z]
  · exact ⟨ascD_list a, tq_list (by omega) b⟩
  · exact ⟨ascD_tup a, tq_tup (by omega) b⟩
theorem tab_fine (t : TabT n T d) : d.showable = true ∧ d.depth ≤ 60 ∧ d.shown.length ≤ sizeLine := tq_fine ((tab_asc t).2.up (by decide))
theorem str_tz {x : Str} {b : Nat} (h : AscS x) (l : x.length ≤ b) : Tz 3 (10 * b + 2) (.str x) := by
  refine ⟨by simp only [PyData.showable], by simp only [PyData.depth]; omega, ?_⟩
  simp only [PyData.shown]
  have := PySem.StrLaws.reprText_len x h
  omega
/-- what stands in the comparison of refusals -/
def barW (q : Nat × Nat) : PyData := .list [.str "bar", .tuple [.int ((q.1 : Nat) : Int), .int ((q.2 : Nat) : Int)]]
def barsW (q : Nat × Nat) (x : Str) : PyData := .list [barW q, barW q, .str x]
theorem pow_big : 7 < 2 ^ 1016 := Nat.lt_of_lt_of_le (by decide : 7 < 2 ^ 3) (Nat.pow_le_pow_right (by decide) (by decide))
theorem bar_tz {q : Nat × Nat} (h1 : q.1 ≤ 7) (h2 : q.2 ≤ 7) : Tz 3 401 (.int ((q.1 : Nat) : Int)) ∧ Tz 3 401 (.int ((q.2 : Nat) : Int)) :=
  ⟨(tz_nat (Nat.lt_of_le_of_lt h1 pow_big)).up (by decide) (Nat.le_refl _), (tz_nat (Nat.lt_of_le_of_lt h2 pow_big)).up (by decide) (Nat.le_refl _)⟩
theorem barT_fine {q : Nat × Nat} (h1 : q.1 ≤ 7) (h2 : q.2 ≤ 7) : Tz 4 809 (.tuple [.int ((q.1 : Nat) : Int), .int ((q.2 : Nat) : Int)]) := by
  obtain ⟨a, b⟩ := bar_tz h1 h2
  refine (tz_tup (k := 3) (b := 401) (m := 2) (by show 2 ≤ 2; omega) fun x hx => ?_).up (Nat.le_refl _) (by omega)
  rcases List.mem_cons.mp hx with z | z
  · rw [z]
    exact a
  · rw [List.mem_singleton.mp z]
    exact b
theorem barsW_fine {q : Nat × Nat} {x : Str} (h1 : q.1 ≤ 7) (h2 : q.2 ≤ 7) (hx : AscS x) (l : x.length ≤ 20000) : (barsW q x).showable = true ∧ (barsW q x).depth ≤ 60 ∧ (barsW q x).shown.length ≤ sizeLine := by
  have b := barT_fine h1 h2
  have bw : Tz 5 200002 (barW q) := by
    unfold barW
    refine (tz_list (k := 4) (b := 809) (m := 2) (by show 2 ≤ 2; omega) fun y hy => ?_).up (Nat.le_refl _) (by omega)
    rcases List.mem_cons.mp hy with z | z
    · rw [z]
      exact (str_tz (b := 10) (show AscS "bar" by decide +kernel) (by decide +kernel)).up (by omega) (by omega)
    · rw [List.mem_singleton.mp z]
      exact b
  have sx : Tz 5 200002 (.str x) := (str_tz hx l).up (by omega) (by omega)
  have : Tz 6 (3 * 200002 + 2 * 3 + 3) (barsW q x) := by
    unfold barsW
    refine tz_list (by show 3 ≤ 3; omega) fun y hy => ?_
    rcases List.mem_cons.mp hy with z | hy
    · rw [z]
      exact bw
    rcases List.mem_cons.mp hy with z | z
    · rw [z]
      exact bw
    · rw [List.mem_singleton.mp z]
      exact sx
  exact this.ok (by omega) (by omega)
theorem tab_len (t : TabT n T d) : d.shown.length ≤ 20000 := by
  have := (tab_asc t).2.ln
  exact Nat.le_trans this (by decide)
end
/-- the items that a test keeps -/
theorem lc_keep {J : It} {n : Nat} {G : Hp → Prop} {P : Nat → V → Prop} (w : Walk J n G (fun i H x H' => H' = H ∧ P i x)) {j : Nat} {σ : L2.St} {vs : List Nat} {tt : TT} {te : TE} {H1 : Hp} {D : Addr} {Q : Hp → Prop} (hn : n ≤ 1000) (hD : H1 D = none) (hG : ∀ H, Same H1 H → G H) (f : Nat → Bool) (g : Nat → V)
    (hs : ∀ i x H, i < n → P i x → Same H1 H → wipe ((wipe σ vs).set j (some x)) vs = wipe σ vs ∧ (∀ k : Bool → Hp → Prop, (∀ H', Same H H' → k (f i) H') → tt ((wipe σ vs).set j (some x)) H k) ∧ (f i = true → ∀ (k : VK) (H' : Hp), Same H H' → (∀ H2, Same H' H2 → k (g i) H2) → te ((wipe σ vs).set j (some x)) H' k))
    (hq : ∀ H, Same H1 H → H D = some (.lst (((List.range n).filter f).map g)) → Q H) :
    ∃ W : Nat → Nat → Hp → Prop, (∃ m, W 0 m (upd H1 D (.lst []))) ∧ ∀ i m H, W i m H →
      (J.stop i H ∧ Q H) ∨ (J.go i H ∧ ∃ Nx : Hp → Prop, (∀ H', Nx H' → ∃ m', m' < m ∧ W (i + 1) m' H') ∧ ∀ x H', J.yld i H x H' → gName j x (wipe σ vs) H' fun σ2 H2 => wipe σ2 vs = wipe σ vs ∧ tt σ2 H2 fun b H3 =>
        if b = true then te σ2 H3 fun y H4 => ∃ acc, H4 D = some (.lst acc) ∧ acc.length < sizeLine ∧ Nx (upd H4 D (.lst (acc ++ [y]))) else Nx H3) := by
  refine lc_it w (Qd := Q) (Pv := fun i H => Same H1 H ∧ H D = some (.lst (((List.range i).filter f).map g))) ⟨same_new hD, upd_same⟩ (fun i H _ h => hG H h.1) ?_ ?_
  · rintro i x H H' hi ⟨s1, ha⟩ ⟨rfl, hp⟩
    obtain ⟨e1, e2, e3⟩ := hs i x H' hi hp s1
    refine ⟨e1, e2 _ fun H4 s2 => ?_⟩
    have hl : (((List.range i).filter f).map g).length ≤ i := by
      rw [List.length_map]
      exact Nat.le_trans (List.length_filter_le _ _) (by rw [List.length_range]; exact Nat.le_refl _)
    cases fi : f i with
    | true =>
      refine iteT (e3 fi _ _ s2 fun H5 s5 => ⟨_, s5 _ _ (s2 _ _ ha), Nat.lt_of_lt_of_le (by omega : _ < 1000) (by decide), fun b o e => ?_, ?_⟩)
      · have ne : b ≠ D := ne_of_none e hD
        rw [upd_ne ne]
        exact s5 _ _ (s2 _ _ (s1 _ _ e))
      · rw [upd_same, List.range_succ, List.filter_append, List.map_append]
        simp [fi]
    | false =>
      refine iteF ⟨s1.trans s2, ?_⟩
      rw [s2 _ _ ha, List.range_succ, List.filter_append]
      simp [fi]
  · rintro H ⟨s1, ha⟩
    exact hq H s1 ha
theorem val_num {n : Nat} {T : List (List Int)} {q : Nat × Nat} (h : q ∈ barsL n) : valV (numKT n T) (keyT q) = some (.int (numT n T q)) := by
  unfold numKT valV
  generalize barsL n = l at h
  induction l with
  | nil => cases h
  | cons r l ih =>
    rw [List.map_cons, List.find?_cons]
    by_cases e : keyT r = keyT q
    · rw [decide_eq_true e, keyT_inj e] <;> rfl
    · rw [decide_eq_false e]
      refine ih ?_
      rcases List.mem_cons.mp h with z | z
      · exact absurd (by rw [z]) e
      · exact z
theorem num_fn {n : Nat} {T : List (List Int)} : (∀ p q, p ∈ numKT n T → q ∈ numKT n T → p.1 = q.1 → p.2 = q.2) ∧ ∀ p, p ∈ numKT n T → L2.flatB p.2 = true := by
  unfold numKT
  refine ⟨fun p q hp hq e => ?_, fun p hp => ?_⟩
  · obtain ⟨a, _, rfl⟩ := List.mem_map.mp hp
    obtain ⟨b, _, rfl⟩ := List.mem_map.mp hq
    rw [keyT_inj e]
  · obtain ⟨a, _, rfl⟩ := List.mem_map.mp hp
    rfl
/-- the keys of the numbers, as they stand in the dict -/
theorem keys_barsT {H : Hp} {f : Nat × Nat → V} : ∀ {l : List (Nat × Nat)} {bs : List Addr}, IsKeys H (l.map fun q => (keyT q, f q)) bs → ∃ L : List (Addr × (Nat × Nat)), L.map (fun z => V.ref z.1) = bs.map V.ref ∧ L.map (·.2) = l ∧ ∀ z ∈ L, BarAt H z.1 z.2
  | [], bs, h => by
    cases h
    exact ⟨[], rfl, rfl, fun z hz => (nomatch hz)⟩
  | q :: l, bs, h => by
    cases h with
    | @cons _ b _ bs e t =>
      obtain ⟨L, h1, h2, h3⟩ := keys_barsT (l := l) (bs := bs) t
      refine ⟨(b, q) :: L, by rw [List.map_cons, List.map_cons, h1], by rw [List.map_cons, h2], fun z hz => ?_⟩
      rcases List.mem_cons.mp hz with z' | z'
      · rw [z']
        exact e
      · exact h3 z z'
end Rw
set_option Elab.async false
set_option linter.all false
set_option maxRecDepth 100000
set_option maxHeartbeats 8000000
namespace Rw
open PySem PySem.Spec PyProof.Rows L2
def spRightT : Sp := fun vs H Q _ => ∃ (p : Nat) (v : V) (d : PyData) (n : Nat) (T : List (List Int)), vs = [.int ((p : Nat) : Int), v] ∧ PrN p ∧ Any H v d ∧ TabT n T d ∧ ∀ H', Same H H' → Q (.bl true) H'
theorem ne_self (x : V) : (!decide (x = x)) = false := by simp
theorem eqv_self (x : V) : decide (x = x) = true := by simp
def barP (q : Nat × Nat) : PyData := .tuple [.int ((q.1 : Nat) : Int), .int ((q.2 : Nat) : Int)]
theorem bar_any {H : Hp} {t : Addr} {q : Nat × Nat} (h : BarAt H t q) : Any H (.ref t) (barP q) := .tup h (.cons (.int _) (.cons (.int _) .nil))
theorem bars_any {H : Hp} : ∀ {L : List (Addr × (Nat × Nat))}, (∀ z ∈ L, BarAt H z.1 z.2) → AnyL H (L.map fun z => V.ref z.1) (L.map fun z => barP z.2)
  | [], _ => .nil
  | z :: L, h => .cons (bar_any (h z List.mem_cons_self)) (bars_any fun y hy => h y (List.mem_cons_of_mem _ hy))
theorem bars_lay {L : List (Nat × Nat)} : (PyData.list (L.map barP)).canLay0 = true ∧ (PyData.list (L.map barP)).depth ≤ 64 := by
  constructor
  · show PyData.canLayAll0 (L.map barP) = true
    induction L with
    | nil => rfl
    | cons q L ih => exact ih
  · have h1 : PyData.depthAll (L.map barP) ≤ 10 := dep_le fun d hd => by
      obtain ⟨q, _, rfl⟩ := List.mem_map.mp hd
      unfold barP
      simp only [PyData.depth, PyData.depthAll]
      omega
    simp only [PyData.depth]
    omega
theorem filter_get {α : Type} (L : List α) (dd : α) (p : α → Bool) (g : α → V) : ((List.range L.length).filter fun i => p (L[i]?.getD dd)).map (fun i => g (L[i]?.getD dd)) = (L.filter p).map g := by
  have e := map_get (fun x : α => x) dd L
  rw [List.map_id'] at e
  conv => rhs; rw [← e, List.filter_map, List.map_map]
  rfl
end Rw
namespace K41
open PySem PySem.Spec PyProof.Rows L2 Rw
abbrev sRight : Stmt := top 68
abbrev NRight : List Str := ["_law_p", "_law_table", "_law_counts_here", "_law_kept", "_law_low", "_law_due", "_law_told", "_law_made", "_law_bar"]
theorem scRight : FnScope NRight ["_law_p", "_law_table"] (defScope sRight) := ⟨rfl, rfl, rfl, by decide +kernel, rfl, by decide +kernel, by decide +kernel⟩
section
variable {P : Program} {w : World} {K : PySem.W.Frag} {mg : Str → Option Value} {base : Heap} {C : Addr}
theorem okRight {f : Addr} {fd : FuncData} (F : Fun K "_law_right" "_law_right" sRight f fd) (zp : mg "repr" = none) (zs : mg "sorted" = none) (zl : mg "list" = none) (GC : Own P w K mg base CX0 1 "_law_counts" ["_law_table"] [] spCountsT) (GX : Own P w K mg base CX0 6 "clash" ["table"] [] spClashT)
    (GI : Own P w K mg base CX0 7 "is_rank_table" ["value"] [] spIsRankT) (GE : Own P w K mg base CX0 10 "_law_caught" ["_law_way", "_law_p", "_law_table"] [] (spCauT C)) (GR : Own P w K mg base CX0 5 "_law_row_right" ["_law_p", "_law_row", "_law_table"] [] (spRowRt C)) :
    FnG P w K mg base CX0 11 f fd ["_law_p", "_law_table"] spRightT := by
  refine funG F scRight (fun vs H Q E h => ?_) (fun cdv A outer s H vs Q E gu hr h => ?_)
  · obtain ⟨p, v, d, n, T, rfl, _⟩ := h
    rfl
  · obtain ⟨p, v, d, n, T, rfl, hp, av, t, q⟩ := h
    have hu66 := (fun {A' : Around} (r : Room 10 A') => (by have := r.un; omega : A'.units + 66 < cLine)) hr
    refine ⟨_, (pss_cons (ps_asg (pe_tup (pa_cons (pe_own GC (hr.mono (by decide)) pass0 (pa_cons (pv 1) pa_nil)) (pa_cons (pe_callB (call_reprA gu hr.units) (by rfl) zp (by decide +kernel) (pa_cons (pv 1) pa_nil)) pa_nil))) (pg_tup rfl (pgs_cons (pg_name (i := 2) scRight.nd rfl (Or.inr rfl)) (pgs_cons (pg_name (i := 3) scRight.nd rfl (Or.inl rfl)) pgs_nil))))
    (pss_cons (ps_setLc (i := 4) (own := [("_law_bar", 8)]) (g := gName 8) (tt := tTest (tOp (rI0 fun i j => .bl (decide (i < j))) (tDGet (tVar 2) (tVar 8)) (tC (.int 0)))) (te := tVar 8) rfl scRight.nd rfl rfl (sw_true rfl rfl rfl (by decide +kernel)) (pi_seq (pe_callB (cr_sortedB hu66) (by rfl) zs (by decide +kernel) (pa_cons (pe_callTy (call_list_dT rfl) (by rfl) zl (by decide +kernel) (pa_cons (pv 2) pa_nil)) pa_nil))) (blkOk_by (N := NRight) (sc := defScope sRight) (by decide +kernel)) (fun _ _ _ _ _ => (pg_name (i := 8) scRight.nd rfl (Or.inl rfl))) (fun _ _ _ _ _ => (pts_one (pt_cmpR op_lt (pe_dget (hu_of hr) (pv 2) (pv 8) (fun _ _ => rfl)) pe_int (nomark _)))) (fun _ _ _ _ _ => (pv 8)))
    (pss_cons (ps_set (i := 5) scRight.nd rfl (Or.inl rfl) (pe_ifExp (pt_cmpR (op_neD (hr.units)) (pv 4) (pe_lst pa_nil) (nomark _)) (pe_ix ix_seq (pv 4) pe_int (fun _ _ => rfl)) pe_non))
    (pss_cons (ps_if (PW.pt (pw_or (pt_cmpR op_ne (pe_callB (call_reprA gu hr.units) (by rfl) zp (by decide +kernel) (pa_cons (pe_own GX (hr.mono (by decide)) pass0 (pa_cons (pv 1) pa_nil)) pa_nil)) (pe_callB (call_reprA gu hr.units) (by rfl) zp (by decide +kernel) (pa_cons (pv 5) pa_nil)) (nomark _)) (pw_or1 (pt_cmpR op_ne (pe_callB (call_reprA gu hr.units) (by rfl) zp (by decide +kernel) (pa_cons (pe_own GI (hr.mono (by decide)) pass0 (pa_cons (pv 1) pa_nil)) pa_nil)) (pe_callB (call_reprA gu hr.units) (by rfl) zp (by decide +kernel) (pa_cons (pe_cmpR op_isN (pv 5) pe_non (nomark _)) pa_nil)) (nomark _))))) (pss_one (ps_ret pe_bl)) pss_nil)
    (pss_cons (ps_par (i := 6) (j := 7) (by rfl) scRight.nd rfl rfl (by decide) rfl rfl (pa_cons (pe_own GE (hr.mono (by decide)) pass0 (pa_cons pe_int (pa_cons (pv 0) (pa_cons (pv 1) pa_nil)))) (pa_cons (pe_own GE (hr.mono (by decide)) pass0 (pa_cons pe_int (pa_cons (pv 0) (pa_cons (pv 1) pa_nil)))) pa_nil)) (by rfl))
    (pss_cons (ps_if (pt_cmpR op_notN (pv 5) pe_non (nomark _)) (pss_one (ps_ret (pe_cmpR op_eq (pe_callB (call_reprA gu hr.units) (by rfl) zp (by decide +kernel) (pa_cons (pe_lst (pa_cons (pv 6) (pa_cons (pv 7) (pa_cons (pe_callB (call_reprA gu hr.units) (by rfl) zp (by decide +kernel) (pa_cons (pv 1) pa_nil)) pa_nil)))) pa_nil)) (pe_callB (call_reprA gu hr.units) (by rfl) zp (by decide +kernel) (pa_cons (pe_lst (pa_cons (pe_lst (pa_cons pe_str (pa_cons (pv 5) pa_nil))) (pa_cons (pe_lst (pa_cons pe_str (pa_cons (pv 5) pa_nil))) (pa_cons (pv 3) pa_nil)))) pa_nil)) (nomark _)))) pss_nil)
    (pss_cons (ps_if (PW.pt (pw_or (pt_cmpR (op_neD2 hu66) (pv 6) (pe_lst (pa_cons pe_str (pa_cons (pv 2) pa_nil))) (nomark _)) (pw_or (pt_cmpR op_ne (pe_ix ix_seq (pv 7) pe_int (fun _ _ => rfl)) pe_str (nomark _)) (pw_or1 (pt_not (pt_val (pe_own GR (hr.mono (by decide)) pass0 (pa_cons (pv 0) (pa_cons (pe_ix ix_seq (pv 7) pe_int (fun _ _ => rfl)) (pa_cons (pv 1) pa_nil)))))))))) (pss_one (ps_ret pe_bl)) pss_nil)
    (pss_one (ps_ret (pe_cmpR op_eq (pe_callB (call_reprA gu hr.units) (by rfl) zp (by decide +kernel) (pa_cons (pv 1) pa_nil)) (pv 3) (nomark _))))))))))), ?_⟩
    have n7 := t.n7
    have fine := tab_fine t
    refine ⟨_, rfl, v, d, n, T, rfl, av, t, fun D H1 hD k1 eD => ?_⟩
    refine ⟨_, rfl, v, d, rfl, av.keep k1, fine.1, fine.2.1, fine.2.2, by show 2 ≤ sizeLine; decide, fun t0 ht0 => ?_⟩
    have k2 := same_new (o := .tup [.ref D, .str d.shown]) ht0
    have e2 := upd_same (H := H1) (a := t0) (o := .tup [.ref D, .str d.shown])
    have eD2 := k2 _ _ eD
    have kk2 := k1.trans k2
    generalize upd H1 t0 (.tup [.ref D, .str d.shown]) = H2 at e2 eD2 kk2 ⊢
    refine ⟨t0, _, rfl, SqT.of e2, rfl, _, _, rfl, _, _, rfl, rfl, ?_⟩
    -- the bars below nought
    refine ⟨_, rfl, D, _, rfl, .inl eD2, fun l0 bs hl0 ik => ?_⟩
    obtain ⟨L, eL1, eL2, eL3⟩ := keys_barsT ik
    have k3 := same_new (o := .lst (bs.map V.ref)) hl0
    have e3 := upd_same (H := H2) (a := l0) (o := .lst (bs.map V.ref))
    have eD3 := k3 _ _ eD2
    have kk3 := kk2.trans k3
    have eL3' : ∀ z ∈ L, BarAt (upd H2 l0 (.lst (bs.map V.ref))) z.1 z.2 := fun z hz => k3 _ _ (eL3 z hz)
    generalize upd H2 l0 (.lst (bs.map V.ref)) = H3 at e3 eD3 kk3 eL3' ⊢
    rw [← eL1] at e3
    have lL : L.length = (barsL n).length := by rw [← eL2, List.length_map]
    have b49 := bars_len (n := n) n7
    refine ⟨l0, L, rfl, SqL.of e3, eL3', by omega, ?_, fun l1 hl1 => ?_⟩
    · have := barsL_le n (by omega)
      rw [← eL2] at this
      exact List.pairwise_map.mp this
    have k4 := same_new (o := .lst (L.map fun z => V.ref z.1)) hl1
    have e4 := upd_same (H := H3) (a := l1) (o := .lst (L.map fun z => V.ref z.1))
    have eD4 := k4 _ _ eD3
    have kk4 := kk3.trans k4
    have eL4 : ∀ z ∈ L, BarAt (upd H3 l1 (.lst (L.map fun z => V.ref z.1))) z.1 z.2 := fun z hz => k4 _ _ (eL3' z hz)
    generalize upd H3 l1 (.lst (L.map fun z => V.ref z.1)) = H4 at e4 eD4 kk4 eL4 ⊢
    refine ⟨l1, true, _, rfl, SqL.of e4, fun l2 hl2 => ?_⟩
    refine lc_keep (walk_seq (k := true)) (by rw [List.length_map]; omega) hl2 (fun H' s' => SqL.of (s' _ _ e4)) (fun i => decide (numT n T (L[i]?.getD (0, (0, 0))).2 < 0)) (fun i => V.ref (L[i]?.getD (0, (0, 0))).1) ?_ ?_
    · rintro i x H5 hi hx s5
      rw [List.length_map] at hi
      rw [List.getElem?_map, List.getElem?_eq_getElem hi] at hx
      cases hx
      have eb := s5 _ _ (eL4 _ (List.getElem_mem hi))
      have mb : L[i].2 ∈ barsL n := by rw [← eL2]; exact List.mem_map_of_mem (List.getElem_mem hi)
      rw [List.getElem?_eq_getElem hi, Option.getD_some]
      refine ⟨rfl, fun k hk => ⟨_, rfl, _, rfl, D, _, rfl, ?_, _, _, rfl, rfl, _, rfl, hk _ (Same.refl _)⟩, fun _ k H' s6 hk => ⟨_, rfl, hk _ (Same.refl _)⟩⟩
      have := DGet.t (k := keyT L[i].2) (s5 _ _ eD4) eb
      rw [val_num mb] at this
      exact this
    intro H5 s5 e5
    rw [List.length_map, filter_get L (0, (0, 0)) (fun z => decide (numT n T z.2 < 0)) (fun z => V.ref z.1)] at e5
    have kk5 := kk4.trans s5
    have eD5 := s5 _ _ eD4
    have eL5 : ∀ z ∈ L.filter fun z => decide (numT n T z.2 < 0), BarAt H5 z.1 z.2 := fun z hz => s5 _ _ (eL4 z (List.mem_filter.mp hz).1)
    have hd : ((L.filter fun z => decide (numT n T z.2 < 0)).head?).map (·.2) = negT n T := by
      rw [List.head?_filter]
      unfold negT
      rw [← eL2, List.find?_map] <;> rfl
    clear e4 e3 eL3 eL3' ik eL1
    generalize L.filter (fun z => decide (numT n T z.2 < 0)) = G at e5 eL5 hd
    have lay := bars_lay (L := G.map (·.2))
    rw [List.map_map] at lay
    replace lay : (PyData.list (G.map fun z : Addr × (Nat × Nat) => barP z.2)).canLay0 = true ∧ (PyData.list (G.map fun z : Addr × (Nat × Nat) => barP z.2)).depth ≤ 64 := lay
    refine ⟨_, rfl, by show 0 ≤ sizeLine; decide, fun u6 hu6 => ?_⟩
    have k6 := same_new (o := .lst []) hu6
    have e6 := upd_same (H := H5) (a := u6) (o := .lst [])
    have kk6 := kk5.trans k6
    have eD6 := k6 _ _ eD5
    have e5' := k6 _ _ e5
    have eL6 : ∀ z ∈ G, BarAt (upd H5 u6 (.lst [])) z.1 z.2 := fun z hz => k6 _ _ (eL5 z hz)
    generalize upd H5 u6 (.lst []) = H6 at k6 e6 kk6 eD6 e5' eL6 ⊢
    refine ne_two (d := .list (G.map fun z : Addr × (Nat × Nat) => barP z.2)) (e := .list []) (.lst e5' (bars_any eL6)) (.lst e6 .nil) lay.1 rfl lay.2 (by decide) ⟨_, rfl, ?_⟩
    cases no : negT n T with
    | none =>
      rw [no] at hd
      obtain rfl : G = [] := by
        cases G with
        | nil => rfl
        | cons z G => cases hd
      refine iteF ?_
      refine ⟨_, rfl, v, d, n, T, rfl, av.keep kk6, t, fun _ H7 k7 => ?_, fun q' _ _ e _ _ => (by rw [no] at e; cases e)⟩
      have fn : PyData.none.showable = true ∧ PyData.none.depth ≤ 60 ∧ PyData.none.shown.length ≤ sizeLine := ⟨by decide +kernel, by decide +kernel, by decide +kernel⟩
      have fb : (PyData.bool true).showable = true ∧ (PyData.bool true).depth ≤ 60 ∧ (PyData.bool true).shown.length ≤ sizeLine := ⟨by decide +kernel, by decide +kernel, by decide +kernel⟩
      refine ⟨.non, .none, rfl, .non, fn.1, fn.2.1, fn.2.2, _, rfl, .non, .none, rfl, .non, fn.1, fn.2.1, fn.2.2, rfl, _, rfl, ?_⟩
      rw [ne_self]
      have kk7 := kk6.trans k7
      refine iteF ⟨_, rfl, v, d, n, T, rfl, av.keep kk7, t, fun H8 k8 => ?_⟩
      rw [no]
      have kk8 := kk7.trans k8
      refine ⟨.bl true, .bool true, rfl, .bl true, fb.1, fb.2.1, fb.2.2, _, rfl, rfl, .bl true, .bool true, rfl, .bl true, fb.1, fb.2.1, fb.2.2, rfl, _, rfl, ?_⟩
      rw [ne_self]
      refine iteF ?_
      refine ⟨_, rfl, _, rfl, 0, p, v, d, n, T, rfl, .inl rfl, hp, av.keep kk8, t, fun q' _ _ _ e => (by rw [no] at e; cases e), fun _ _ D9 l9 H9 hD9 hl9 k9 eD9 el9 => ?_, fun _ z => (by cases z)⟩
      have kk9 := kk8.trans k9
      refine ⟨_, rfl, _, rfl, 1, p, v, d, n, T, rfl, .inr rfl, hp, av.keep kk9, t, fun q' _ _ _ e => (by rw [no] at e; cases e), fun _ z => (by cases z), fun _ _ o l10 H10 hl10 k10 ro el10 => ?_⟩
      have kk10 := kk9.trans k10
      refine ⟨_, _, rfl, ?_⟩
      refine ⟨_, rfl, rfl, _, rfl, iteF ?_⟩
      have eD10 : H10 D = some (.dT (numKT n T)) := k10 _ _ (k9 _ _ (k8 _ _ (k7 _ _ eD6)))
      have eD10' := k10 _ _ eD9
      have el9' := k10 _ _ el9
      refine ⟨_, rfl, _, rfl, by show 2 ≤ sizeLine; decide, fun u11 hu11 => ?_⟩
      have k11 := same_new (o := .lst [.str "told", .ref D]) hu11
      have e11 := upd_same (H := H10) (a := u11) (o := .lst [.str "told", .ref D])
      have kk11 := kk10.trans k11
      generalize upd H10 u11 (.lst [.str "told", .ref D]) = H11 at k11 e11 kk11 ⊢
      refine ⟨l9, u11, _, _, rfl, rfl, k11 _ _ el9', e11, .cons (.inl ⟨rfl, rfl⟩) (.cons (.inr ⟨D9, D, _, rfl, rfl, k11 _ _ eD10', k11 _ _ eD10, num_fn.1, num_fn.2⟩) .nil), _, rfl, iteF ?_⟩
      refine ⟨_, rfl, .inl ⟨l10, _, _, _, rfl, rfl, SqL.of (k11 _ _ el10), atI_nat (j := 0) rfl, rfl, _, rfl, ?_⟩⟩
      rw [ne_self]
      refine iteF ⟨_, rfl, _, rfl, .inl ⟨l10, _, _, _, rfl, rfl, SqL.of (k11 _ _ el10), atI_nat (j := 1) rfl, _, rfl, p, o, v, d, n, T, rfl, hp, av.keep kk11, t, no, ro.keep k11, fun H12 k12 => ?_⟩⟩
      refine ⟨_, rfl, iteF ?_⟩
      have kk12 := kk11.trans k12
      refine ⟨_, rfl, v, d, rfl, av.keep kk12, fine.1, fine.2.1, fine.2.2, _, rfl, rfl, ?_⟩
      rw [eqv_self]
      exact q _ kk12
    | some q0 =>
      rw [no] at hd
      obtain ⟨z0, G, rfl⟩ : ∃ z0 G', G = z0 :: G' := by
        cases G with
        | nil => cases hd
        | cons z G => exact ⟨z, G, rfl⟩
      obtain ⟨t1, q1⟩ := z0
      obtain rfl : q1 = q0 := Option.some.inj hd
      have mq : q1 ∈ barsL n := List.mem_of_find?_eq_some (p := fun q => decide (numT n T q < 0)) no
      obtain ⟨m1, m2⟩ := bars_mem mq
      have bt := barT_fine (q := q1) (by omega) (by omega)
      have fq : (barP q1).showable = true ∧ (barP q1).depth ≤ 60 ∧ (barP q1).shown.length ≤ sizeLine := bt.ok (by decide) (by decide)
      have fb : (PyData.bool false).showable = true ∧ (PyData.bool false).depth ≤ 60 ∧ (PyData.bool false).shown.length ≤ sizeLine := ⟨by decide +kernel, by decide +kernel, by decide +kernel⟩
      have ft := barsW_fine (q := q1) (x := d.shown) (by omega) (by omega) (tab_asc t).1 (tab_len t)
      have b6 : BarAt H6 t1 q1 := eL6 (t1, q1) List.mem_cons_self
      refine iteT ⟨_, rfl, .inl ⟨l2, _, _, _, rfl, rfl, SqL.of e5', atI_nat (j := 0) rfl, ?_⟩⟩
      refine ⟨_, rfl, v, d, n, T, rfl, av.keep kk6, t, fun e => (by rw [no] at e; cases e), fun q' u H7 e k7 b7 => ?_⟩
      rw [no] at e
      cases e
      refine ⟨.ref u, barP q1, rfl, bar_any b7, fq.1, fq.2.1, fq.2.2, _, rfl, .ref t1, barP q1, rfl, bar_any (k7 _ _ b6), fq.1, fq.2.1, fq.2.2, rfl, _, rfl, ?_⟩
      rw [ne_self]
      have kk7 := kk6.trans k7
      refine iteF ⟨_, rfl, v, d, n, T, rfl, av.keep kk7, t, fun H8 k8 => ?_⟩
      rw [no]
      have kk8 := kk7.trans k8
      refine ⟨.bl false, .bool false, rfl, .bl false, fb.1, fb.2.1, fb.2.2, _, rfl, rfl, .bl false, .bool false, rfl, .bl false, fb.1, fb.2.1, fb.2.2, rfl, _, rfl, ?_⟩
      rw [ne_self]
      refine iteF ?_
      refine ⟨_, rfl, _, rfl, 0, p, v, d, n, T, rfl, .inl rfl, hp, av.keep kk8, t, fun q' u9 l9 H9 e k9 b9 hl9 el9 => ?_, fun e => (by rw [no] at e; cases e), fun e => (by rw [no] at e; cases e)⟩
      rw [no] at e
      cases e
      have kk9 := kk8.trans k9
      refine ⟨_, rfl, _, rfl, 1, p, v, d, n, T, rfl, .inr rfl, hp, av.keep kk9, t, fun q' u10 l10 H10 e k10 b10 hl10 el10 => ?_, fun e => (by rw [no] at e; cases e), fun e => (by rw [no] at e; cases e)⟩
      rw [no] at e
      cases e
      have kk10 := kk9.trans k10
      refine ⟨_, _, rfl, ?_⟩
      refine ⟨_, rfl, rfl, _, rfl, iteT ?_⟩
      have el9' := k10 _ _ el9
      have b9' : BarAt H10 u9 q1 := k10 _ _ b9
      have b10t : BarAt H10 t1 q1 := k10 _ _ (k9 _ _ (k8 _ _ (k7 _ _ b6)))
      refine ⟨_, rfl, _, rfl, _, rfl, v, d, rfl, av.keep kk10, fine.1, fine.2.1, fine.2.2, by show 3 ≤ sizeLine; decide, fun c1 hc1 => ?_⟩
      have k11 := same_new (o := .lst [.ref l9, .ref l10, .str d.shown]) hc1
      have e11 := upd_same (H := H10) (a := c1) (o := .lst [.ref l9, .ref l10, .str d.shown])
      have kk11 := kk10.trans k11
      generalize upd H10 c1 (.lst [.ref l9, .ref l10, .str d.shown]) = H11 at k11 e11 kk11 ⊢
      refine ⟨.ref c1, barsW q1 d.shown, rfl, .lst e11 (.cons (.lst (k11 _ _ el9') (.cons (.str _) (.cons (bar_any (k11 _ _ b9')) .nil))) (.cons (.lst (k11 _ _ el10) (.cons (.str _) (.cons (bar_any (k11 _ _ b10)) .nil))) (.cons (.str _) .nil))), ft.1, ft.2.1, ft.2.2, ?_⟩
      refine ⟨_, rfl, by show 2 ≤ sizeLine; decide, fun c2 hc2 => ?_⟩
      have k12 := same_new (o := .lst [.str "bar", .ref t1]) hc2
      have e12 := upd_same (H := H11) (a := c2) (o := .lst [.str "bar", .ref t1])
      have kk12 := kk11.trans k12
      have b12 : BarAt (upd H11 c2 (.lst [.str "bar", .ref t1])) t1 q1 := k12 _ _ (k11 _ _ b10t)
      generalize upd H11 c2 (.lst [.str "bar", .ref t1]) = H12 at k12 e12 kk12 b12 ⊢
      refine ⟨_, rfl, by show 2 ≤ sizeLine; decide, fun c3 hc3 => ?_⟩
      have k13 := same_new (o := .lst [.str "bar", .ref t1]) hc3
      have e13 := upd_same (H := H12) (a := c3) (o := .lst [.str "bar", .ref t1])
      have kk13 := kk12.trans k13
      have b13 : BarAt (upd H12 c3 (.lst [.str "bar", .ref t1])) t1 q1 := k13 _ _ b12
      have e12' := k13 _ _ e12
      generalize upd H12 c3 (.lst [.str "bar", .ref t1]) = H13 at k13 e13 kk13 b13 e12' ⊢
      refine ⟨_, rfl, by show 3 ≤ sizeLine; decide, fun c4 hc4 => ?_⟩
      have k14 := same_new (o := .lst [.ref c2, .ref c3, .str d.shown]) hc4
      have e14 := upd_same (H := H13) (a := c4) (o := .lst [.ref c2, .ref c3, .str d.shown])
      have kk14 := kk13.trans k14
      generalize upd H13 c4 (.lst [.ref c2, .ref c3, .str d.shown]) = H14 at k14 e14 kk14 ⊢
      refine ⟨.ref c4, barsW q1 d.shown, rfl, .lst e14 (.cons (.lst (k14 _ _ e12') (.cons (.str _) (.cons (bar_any (k14 _ _ b13)) .nil))) (.cons (.lst (k14 _ _ e13) (.cons (.str _) (.cons (bar_any (k14 _ _ b13)) .nil))) (.cons (.str _) .nil))), ft.1, ft.2.1, ft.2.2, rfl, ?_⟩
      rw [eqv_self]
      exact q _ kk14
end
end K41
set_option Elab.async false
set_option linter.all false
set_option maxRecDepth 100000
set_option maxHeartbeats 8000000
set_option pp.maxSteps 600
namespace Rw
open PySem PySem.Spec PyProof.Rows L2
theorem same_growB {p : Addr} {H H1 H2 : Hp} (s : Same H H1) (hp : H p = none) (g : Grow p H1 H2) : Same H H2 := fun b o e => g b o (ne_of_none e hp) (s b o e)
end Rw
namespace K41
open PySem PySem.Spec PyProof.Rows L2 Rw
abbrev sLaw : Stmt := top 69
abbrev NLaw : List Str := ["_law_script", "_law_k", "_law_box_here", "_law_turn_here", "_law_table", "_law_line"]
theorem scLaw : FnScope NLaw ["_law_script"] (defScope sLaw) := ⟨rfl, rfl, rfl, by decide +kernel, rfl, by decide +kernel, by decide +kernel⟩
def spLaw (K : PySem.W.Frag) : Sp := fun vs H Q _ => ∃ (a : Addr) (ns : List Int), vs = [.ref a] ∧ SqL K H a (ns.map V.int) ∧ ns.length ≤ 63 ∧ ∀ H', Q (.bl true) H'
structure Olaw (P : Program) (w : World) (K : PySem.W.Frag) (mg : Str → Option Value) (base : Heap) : Prop where
  cell : Own P w K mg base CX0 1 "_law_cell" ["_law_script", "_law_k"] [] (spCellR K)
  box : Own P w K mg base CX0 1 "_law_box" ["_law_cell_here"] [] spBoxR
  prime : Own P w K mg base CX0 2 "_law_prime" ["_law_box_here"] [] spPrimeR
  drawn : Own P w K mg base CX0 3 "_law_drawn" ["_law_box_here"] [] spDrawnT
  right : OwnG P w K mg base CX0 11 "_law_right" ["_law_p", "_law_table"] [] spRightT
structure Zs (mg : Str → Option Value) : Prop where
  range : mg "range" = none
  max : mg "max" = none
  min : mg "min" = none
  len : mg "len" = none
  tuple : mg "tuple" = none
abbrev tTupL (K : PySem.W.Frag) : TE := tCB (fun xs H Q => ∃ p ys, xs = [.ref p] ∧ ((SqL K H p ys ∧ ∀ l, H l = none → Q (.ref l) (upd H l (.tup ys))) ∨ (SqT K H p ys ∧ Q (.ref p) H))) (tCons (tVar 5) tNil)
section
variable {P : Program} {w : World} {K : PySem.W.Frag} {mg : Str → Option Value} {base : Heap}
theorem okLaw {f : Addr} {fd : FuncData} (F : Fun K "law" "law" sLaw f fd) (Z : Zs mg) (O : Olaw P w K mg base) : FnG P w K mg base CX0 12 f fd ["_law_script"] (spLaw K) := by
  refine funG F scLaw (fun vs H Q E h => ?_) (fun cdv A outer s H vs Q E gu hr h => ?_)
  · obtain ⟨a, ns, rfl, _⟩ := h
    rfl
  · obtain ⟨a, ns, rfl, hs, hlen, q⟩ := h
    refine ⟨_, (pss_cons (ps_for PassesOwn.never rfl (pi_range1 rfl Z.range (pa_cons (pe_callB (call_max2 rfl) (by rfl) Z.max (by decide +kernel) (pa_cons pe_int (pa_cons (pe_callB (call_min2 rfl) (by rfl) Z.min (by decide +kernel) (pa_cons pe_int (pa_cons (pe_callB call_len_seq (by rfl) Z.len PySem.boot_len (pa_cons (pv 0) pa_nil)) pa_nil))) pa_nil))) pa_nil)) (pg_name (i := 1) scLaw.nd rfl (Or.inl rfl)) (pss_cons (ps_set (i := 2) scLaw.nd rfl (Or.inl rfl) (pe_own O.box (hr.mono (by decide)) pass0 (pa_cons (pe_own O.cell (hr.mono (by decide)) pass0 (pa_cons (pv 0) (pa_cons (pv 1) pa_nil))) pa_nil)))
      (pss_one (ps_for PassesOwn.never rfl (pi_range1 rfl Z.range (pa_cons pe_int pa_nil)) (pg_name (i := 3) scLaw.nd rfl (Or.inl rfl)) (pss_cons (ps_set (i := 4) scLaw.nd rfl (Or.inl rfl) (pe_own O.drawn (hr.mono (by decide)) pass0 (pa_cons (pv 2) pa_nil)))
        (pss_one (ps_if (PW.pt (pw_or (pt_not (pt_val (pe_ownG O.right gu (hr.mono (by decide)) pass0 (pa_cons (pe_own O.prime (hr.mono (by decide)) pass0 (pa_cons (pv 2) pa_nil)) (pa_cons (pv 4) pa_nil))))) (pw_or1 (pt_not (pt_val (pe_ownG O.right gu (hr.mono (by decide)) pass0 (pa_cons pe_int (pa_cons (pe_callTy call_tuple_of (by rfl) Z.tuple (by decide +kernel) (pa_cons (pe_lc (own := [("_law_line", 5)]) (g := gName 5) (tt := tYes) (te := tTupL K) rfl scLaw.nd (pi_seq (pv 4)) (blkOk_by (N := NLaw) (sc := defScope sLaw) (by decide +kernel)) (fun _ _ _ _ _ => (pg_name (i := 5) scLaw.nd rfl (Or.inl rfl))) (fun _ _ _ _ _ => pts_nil) (fun _ _ _ _ _ => (pe_callTy call_tuple_of (by rfl) Z.tuple (by decide +kernel) (pa_cons (pv 5) pa_nil)))) pa_nil)) pa_nil)))))))) (pss_one (ps_ret pe_bl)) pss_nil)))))))
    (pss_one (ps_ret pe_bl))), ?_⟩
    refine ⟨_, rfl, a, _, rfl, .inl hs, _, _, rfl, _, _, rfl, _, rfl, ?_, ?_, ?_⟩
    · split <;> split <;> omega
    · split <;> split <;> omega
    have hn8 : (if (if ((ns.map V.int).length : Int) < 8 then ((ns.map V.int).length : Int) else 8) > 2 then (if ((ns.map V.int).length : Int) < 8 then ((ns.map V.int).length : Int) else 8) else 2).toNat ≤ 8 := by
      split <;> split <;> omega
    refine for_range (lo := 0) (n := _) (fun i σ' H' => (∃ x1 x2 x3 x4, σ' = [some (.ref a), x1, x2, x3, x4, none]) ∧ Same H H') ⟨⟨_, _, _, _, rfl⟩, Same.refl _⟩ ?_ ?_
    rotate_left
    · rintro σ' H' ⟨⟨x1, x2, x3, x4, rfl⟩, S⟩
      exact q _
    rintro i σ' Hs hi ⟨⟨x1, x2, x3, x4, rfl⟩, S⟩
    have hi8 : i < 8 := Nat.lt_of_lt_of_le hi hn8
    refine ⟨_, rfl, _, rfl, a, ns, i, (by rw [Int.zero_add] <;> rfl), S.seq hs, by omega, fun z => ⟨z, rfl, fun p Hb hp sm bx => ?_⟩⟩
    refine ⟨6, rfl, by decide, by decide, ?_⟩
    refine for_range (lo := 0) (n := 6) (fun t σ' H' => (∃ y3 y4, σ' = [some (.ref a), some (.int (0 + (i : Int))), some (.ref p), y3, y4, none]) ∧ Grow p Hb H' ∧ Bx H' p (200 * t)) ⟨⟨_, _, rfl⟩, Grow.refl, by simpa using bx⟩ ?_ ?_
    rotate_left
    · rintro σ' H2 ⟨⟨y3, y4, rfl⟩, G2, B2⟩
      exact ⟨⟨_, _, _, _, rfl⟩, S.trans (same_growB sm hp G2)⟩
    rintro t σ' H2 ht ⟨⟨y3, y4, rfl⟩, G2, B2⟩
    refine ⟨_, rfl, p, _, rfl, B2, by omega, fun l n T H3 G3 B3 aT tT => ?_⟩
    refine ⟨_, rfl, p, _, rfl, B3, by omega, fun qq H4 hq G4 B4 => ?_⟩
    obtain ⟨pr, rfl, pp⟩ := pr_nat hq
    have aT4 : Any (del H4 p) (.ref l) (.list (T.map lstI)) := aT.keep (Grow.del G4)
    refine ⟨_, rfl, pr, .ref l, _, n, T, rfl, pp, aT4.keep same_del, tT, fun H5 k5 => ⟨_, rfl, iteF ?_⟩⟩
    have aT5 : Any (del H5 p) (.ref l) (.list (T.map lstI)) := aT4.keep (Grow.del (Grow.of k5))
    have B5 : Bx H5 p (200 * t + 81) := (B4.keep k5).more (by omega)
    have G5 : Grow p Hb H5 := ((G2.trans G3).trans G4).trans (Grow.of k5)
    clear aT aT4
    obtain ⟨xs, el, al⟩ : ∃ xs, H5 l = some (.lst xs) ∧ AnyL (del H5 p) xs (T.map lstI) := by
      cases aT5 with
      | lst e a => exact ⟨_, same_del _ _ e, a⟩
    have n7 := tT.n7
    have lxs : xs.length = n := by rw [anyL_len al, List.length_map]; exact tT.l
    refine ⟨_, rfl, l, true, xs, rfl, SqL.of el, fun D hD => ?_⟩
    refine lc_same (walk_seq (k := true)) (by omega) hD (fun H' s' => SqL.of (s' _ _ el)) (fun i => tupI (T[i]?.getD [])) ?_ ?_
    · rintro j y H6 hj hy s6 ⟨o6, ho6⟩
      refine ⟨rfl, fun k hk => ?_⟩
      obtain ⟨d, hd, ad⟩ := anyL_at al hy
      rw [List.getElem?_map] at hd
      obtain ⟨r, hr, rfl⟩ := Option.map_eq_some_iff.mp hd
      obtain ⟨b, rfl, eb⟩ := any_lstI ad
      refine ⟨_, rfl, b, _, rfl, .inl ⟨SqL.of (s6 _ _ (same_del _ _ eb)), fun u hu => ?_⟩⟩
      have ne : u ≠ D := fun z => by rw [z, ho6] at hu; cases hu
      refine hk (.ref u) _ (same_new hu) ?_
      rw [hr, Option.getD_some]
      exact .tup (by rw [del_ne ne, upd_same]) (ints_anyL r)
    intro H6 acc s6 eD aD
    have lT := tT.l
    rw [show xs.length = T.length by omega, map_get tupI [] T] at aD
    refine ⟨D, _, rfl, .inl ⟨SqL.of eD, fun u hu => ?_⟩⟩
    have k7 := same_new (o := .tup acc) hu
    have t7 : TabT n T (.tuple (T.map tupI)) := ⟨tT.n0, tT.n7, ⟨_, .inr rfl, likeV_tups T⟩, tT.l, tT.w⟩
    have pp3 : PrN 3 := ⟨by unfold primesL; simp, by decide, by decide⟩
    refine ⟨3, .ref u, _, n, T, rfl, pp3, .tup upd_same (anyL_keep (same_del.trans k7) aD), t7, fun H8 k8 => ⟨_, rfl, iteF ?_⟩⟩
    have kk := s6.trans (k7.trans k8)
    exact ⟨⟨_, _, rfl⟩, G5.trans (Grow.of kk), (B5.keep kk).more (by omega)⟩
end
end K41
set_option Elab.async false
set_option linter.all false
set_option maxRecDepth 100000
set_option maxHeartbeats 4000000
set_option Elab.async false
set_option linter.all false
set_option maxRecDepth 100000
set_option maxHeartbeats 8000000
namespace K41
open PySem PySem.Spec PyProof.Rows L2 Rw
abbrev sIniP : Stmt := inClass (top 3) 0
theorem scIniP : FnScope ["self", "value"] ["self", "value"] (defScope sIniP) := ⟨rfl, rfl, rfl, by decide +kernel, rfl, by decide +kernel, by decide +kernel⟩
theorem isP : IsIni sIniP := ⟨_, _, _, _, rfl, rfl, rfl⟩
abbrev sIniM : Stmt := inClass (top 4) 0
theorem scIniM : FnScope ["self", "value"] ["self", "value"] (defScope sIniM) := ⟨rfl, rfl, rfl, by decide +kernel, rfl, by decide +kernel, by decide +kernel⟩
theorem isM : IsIni sIniM := ⟨_, _, _, _, rfl, rfl, rfl⟩
abbrev sIniT : Stmt := inClass (top 5) 0
theorem scIniT : FnScope ["self", "value"] ["self", "value"] (defScope sIniT) := ⟨rfl, rfl, rfl, by decide +kernel, rfl, by decide +kernel, by decide +kernel⟩
theorem isT : IsIni sIniT := ⟨_, _, _, _, rfl, rfl, rfl⟩
abbrev sIniL : Stmt := inClass (top 6) 0
theorem scIniL : FnScope ["self", "value"] ["self", "value"] (defScope sIniL) := ⟨rfl, rfl, rfl, by decide +kernel, rfl, by decide +kernel, by decide +kernel⟩
theorem isL : IsIni sIniL := ⟨_, _, _, _, rfl, rfl, rfl⟩
abbrev sIniZ : Stmt := inClass (top 7) 0
theorem scIniZ : FnScope ["self", "value"] ["self", "value"] (defScope sIniZ) := ⟨rfl, rfl, rfl, by decide +kernel, rfl, by decide +kernel, by decide +kernel⟩
theorem isZ : IsIni sIniZ := ⟨_, _, _, _, rfl, rfl, rfl⟩
abbrev sIniA : Stmt := inClass (top 8) 0
theorem scIniA : FnScope ["self", "value"] ["self", "value"] (defScope sIniA) := ⟨rfl, rfl, rfl, by decide +kernel, rfl, by decide +kernel, by decide +kernel⟩
theorem isA : IsIni sIniA := ⟨_, _, _, _, rfl, rfl, rfl⟩
abbrev sIniN : Stmt := inClass (top 9) 0
theorem scIniN : FnScope ["self", "value"] ["self", "value"] (defScope sIniN) := ⟨rfl, rfl, rfl, by decide +kernel, rfl, by decide +kernel, by decide +kernel⟩
theorem isN : IsIni sIniN := ⟨_, _, _, _, rfl, rfl, rfl⟩
abbrev sIniY : Stmt := inClass (top 10) 0
theorem scIniY : FnScope ["self", "value"] ["self", "value"] (defScope sIniY) := ⟨rfl, rfl, rfl, by decide +kernel, rfl, by decide +kernel, by decide +kernel⟩
theorem isY : IsIni sIniY := ⟨_, _, _, _, rfl, rfl, rfl⟩
abbrev sIniG : Stmt := inClass (top 12) 0
theorem scIniG : FnScope ["self", "value"] ["self", "value"] (defScope sIniG) := ⟨rfl, rfl, rfl, by decide +kernel, rfl, by decide +kernel, by decide +kernel⟩
theorem isG : IsIni sIniG := ⟨_, _, _, _, rfl, rfl, rfl⟩
abbrev sIniB : Stmt := inClass (top 11) 0
theorem scIniB : FnScope ["self", "bar"] ["self", "bar"] (defScope sIniB) := ⟨rfl, rfl, rfl, by decide +kernel, rfl, by decide +kernel, by decide +kernel⟩
theorem isB : IsIniF "bar" sIniB := ⟨_, _, _, _, rfl, rfl, rfl⟩
abbrev sIniU : Stmt := inClass (top 13) 0
theorem scIniU : FnScope ["self"] ["self"] (defScope sIniU) := ⟨rfl, rfl, rfl, by decide +kernel, rfl, by decide +kernel, by decide +kernel⟩
/-- what is asked of the written part -/
structure Asked (K : PySem.W.Frag) (w : World) (aI aT C CR CP CM CT CL CZ CA CN CY CB CG CU : Addr) (kI : List (Int × Value)) (kT : List (Str × Value)) (tM : Tok) : Prop where
  taI : TabIHere K "INVERSES" aI kI
  taT : TabSHere K w "TURNED" aT kT
  iMOST : PySem.W.nsIn K mainGlobals "MOST" = some (some (.int 6 tM))
  hI : ∀ i, (lookI kI i).isSome = decide (i ∈ primesL)
  hT : ∀ c, (lookS kT ⟨#[c]⟩).isSome = isArr c
  root : PySem.W.nsIn K mainGlobals "RowError" = some (some (.ref CR))
  eP : ErrHere K "InvalidPrime" "InvalidPrime.__init__" sIniP CR CP
  eM : ErrHere K "InvalidMatrix" "InvalidMatrix.__init__" sIniM CR CM
  eT : ErrHere K "InvalidPattern" "InvalidPattern.__init__" sIniT CR CT
  eL : ErrHere K "InvalidPlace" "InvalidPlace.__init__" sIniL CR CL
  eZ : ErrHere K "InvalidSizes" "InvalidSizes.__init__" sIniZ CR CZ
  eA : ErrHere K "InvalidMaps" "InvalidMaps.__init__" sIniA CR CA
  eN : ErrHere K "InvalidNumbers" "InvalidNumbers.__init__" sIniN CR CN
  eY : ErrHere K "InvalidTable" "InvalidTable.__init__" sIniY CR CY
  eG : ErrHere K "TooLarge" "TooLarge.__init__" sIniG CR CG
  eB : ErrFHere K "NegativeBar" "NegativeBar.__init__" "bar" sIniB CR CB
  eU : ErrNHere K "UnlikeRows" "UnlikeRows.__init__" sIniU CR CU
  cB : PySem.W.isClsIn K CB = true
  sBB : PySem.W.subIn K (.ref CB) (.ref CB) = some true
  gRow : PySem.W.nsIn K mainGlobals "Row" = some (some (.ref C))
  cPg : PySem.W.plainGet K C Str.empty = true
  cHd : PySem.W.hasDictIn K C = true
  cPo : PySem.W.plainOver K C = true
  cSa : PySem.W.findIn K (.ref C) "__setattr__" = some (some (.builtin "object.__setattr__"))
  n1 : NoAttr K C "_pattern"
  n2 : NoAttr K C "_prime"
  n3 : NoAttr K C "_sizes"
  n4 : NoAttr K C "_maps"
  mkC : PySem.W.makesIn K C = true
  kpC : PySem.W.keepIn K (.ref C) = true
  iHa : PySem.W.findIn K (.ref C) "__class__" = some (some (.builtin "object.__class__"))
  iHn : PySem.W.specialIn K (.builtin "object.__class__") "__get__" = some (some (.builtin "getset_descriptor.__get__"))
  iHt : PySem.W.takesIn K (.builtin "object.__class__") = some true
  iHm : PySem.W.mroIn K C (.type "object") = some true
  iMe : PySem.W.kitOne K (.ref C) (.ref C) = some true
  rSp : PySem.W.specialIn K (.ref CR) "__getattribute__" = some (some (.builtin "type.__getattribute__"))
  rTy : PySem.W.typeIn K (.ref CR) = some (.type "type")
  rRd : PySem.W.readsIn K CR (.type "type") = true
  rIni : PySem.W.findCls K (.ref CR) (.type "type") "__init__" = some (.val (.builtin "ValueError.__init__"))
  mIni : MethHere K C "__init__" "Row.__init__" sIniR
  mMaps : MethHere K C "maps" "Row.maps" sMaps
  qP : PropHere K C "pattern" "Row.pattern" sGetP
  qQ : PropHere K C "prime" "Row.prime" sGetQ
  qS : PropHere K C "sizes" "Row.sizes" sGetS
  d1 : DefHere K "is_number" sNum
  d2 : DflHere K "is_integer" sInt [.none, .none]
  d3 : DefHere K "is_prime" sPrime
  d4 : DefHere K "check_prime" sCheck
  d5 : DefHere K "is_list" sList
  d6 : DefHere K "is_vector" sVec
  d7 : DefHere K "is_matrix" sMat
  d8 : DefHere K "is_pattern" sPat
  d9 : DefHere K "check_pattern" sCPat
  d10 : DefHere K "bars" sBars
  d11 : DefHere K "is_bar" sBarP
  d12 : DefHere K "check_sizes" sCSz
  d13 : DefHere K "check_numbers" sCNum
  d14 : DefHere K "check_low" sLow
  d15 : DefHere K "low_sizes" sLowSz
  d16 : DefHere K "way" sWay
  d17 : DefHere K "_check_maps" sCMaps
  d18 : DefHere K "_same_items" sSame
  d19 : DefHere K "row_with" sWith
  d20 : DefHere K "_is_table" sIsTab
  d21 : DefHere K "_check_table" sCTab
  d22 : DefHere K "_pattern_of" sPatOf
  d23 : DefHere K "_value_at" sValAt
  d24 : DefHere K "_number_by" sNumBy
  d25 : DefHere K "clash" sClash
  d26 : DefHere K "is_rank_table" sIsRank
  d27 : DefHere K "bars_of" sBarsOf
  d28 : DefHere K "row_of_table" sRowOfT
  d29 : DefHere K "_law_cell" sCell
  d30 : DefHere K "_law_box" sBox
  d31 : DefHere K "_law_take" sTake
  d32 : DefHere K "_law_turn" sTurn
  d33 : DefHere K "_law_less" sLess
  d34 : DefHere K "_law_base" sBaseL
  d35 : DefHere K "_law_rank" sRankL
  d36 : DefHere K "_law_led" sLedL
  d37 : DefHere K "_law_ranks" sRanks
  d38 : DefHere K "_law_prime" sPrimeL
  d39 : DefHere K "_law_counts" sCounts
  d40 : DefHere K "_law_summed" sSummed
  d41 : DefHere K "_law_drawn" sDrawn
  d42 : DefHere K "_law_caught" sCaught
  d43 : DefHere K "_law_row_right" sRowRt
  d44 : DefHere K "_law_right" sRight
  dl : DefHere K "law" sLaw
  z1 : PySem.W.nsIn K mainGlobals "isinstance" = some none
  z2 : PySem.W.nsIn K mainGlobals "int" = some none
  z3 : PySem.W.nsIn K mainGlobals "bool" = some none
  z4 : PySem.W.nsIn K mainGlobals "str" = some none
  z5 : PySem.W.nsIn K mainGlobals "list" = some none
  z6 : PySem.W.nsIn K mainGlobals "tuple" = some none
  z7 : PySem.W.nsIn K mainGlobals "dict" = some none
  z8 : PySem.W.nsIn K mainGlobals "len" = some none
  z9 : PySem.W.nsIn K mainGlobals "all" = some none
  z10 : PySem.W.nsIn K mainGlobals "range" = some none
  z11 : PySem.W.nsIn K mainGlobals "enumerate" = some none
  z12 : PySem.W.nsIn K mainGlobals "repr" = some none
  z13 : PySem.W.nsIn K mainGlobals "max" = some none
  z14 : PySem.W.nsIn K mainGlobals "min" = some none
  z15 : PySem.W.nsIn K mainGlobals "sum" = some none
  z16 : PySem.W.nsIn K mainGlobals "zip" = some none
  z17 : PySem.W.nsIn K mainGlobals "sorted" = some none
theorem all_mk {l : PySem.W.OpenLaw} {w : World} {K : PySem.W.Frag} {h : Heap} {mg : Str → Option Value} {fa : Addr} {aI aT C CR CP CM CT CL CZ CA CN CY CB CG CU : Addr} {kI : List (Int × Value)} {kT : List (Str × Value)} {tM : Tok} (X : K.In h) (G : h.Ns mainGlobals mg) (hfa : mg "law" = some (.ref fa)) (Z : Asked K w aI aT C CR CP CM CT CL CZ CA CN CY CB CG CU kI kT tM) :
    ∃ fd : FuncData, (∀ (s : Shared) (v : Value), BindsTo s fd ⟨[v], []⟩ [("_law_script", v)]) ∧ ∀ base : Heap, K.In base → base.Ns mainGlobals mg → FnG l.prog w K mg base CX0 12 fa fd ["_law_script"] (spLaw K) := by
  have zz_isinstance : mg "isinstance" = none := PySem.W.mg_none_of X G Z.z1
  have zz_int : mg "int" = none := PySem.W.mg_none_of X G Z.z2
  have zz_bool : mg "bool" = none := PySem.W.mg_none_of X G Z.z3
  have zz_str : mg "str" = none := PySem.W.mg_none_of X G Z.z4
  have zz_list : mg "list" = none := PySem.W.mg_none_of X G Z.z5
  have zz_tuple : mg "tuple" = none := PySem.W.mg_none_of X G Z.z6
  have zz_dict : mg "dict" = none := PySem.W.mg_none_of X G Z.z7
  have zz_len : mg "len" = none := PySem.W.mg_none_of X G Z.z8
  have zz_all : mg "all" = none := PySem.W.mg_none_of X G Z.z9
  have zz_range : mg "range" = none := PySem.W.mg_none_of X G Z.z10
  have zz_enumerate : mg "enumerate" = none := PySem.W.mg_none_of X G Z.z11
  have zz_repr : mg "repr" = none := PySem.W.mg_none_of X G Z.z12
  have zz_max : mg "max" = none := PySem.W.mg_none_of X G Z.z13
  have zz_min : mg "min" = none := PySem.W.mg_none_of X G Z.z14
  have zz_sum : mg "sum" = none := PySem.W.mg_none_of X G Z.z15
  have zz_zip : mg "zip" = none := PySem.W.mg_none_of X G Z.z16
  have zz_sorted : mg "sorted" = none := PySem.W.mg_none_of X G Z.z17
  have eP : Err K mg "InvalidPrime" CP := Z.eP.err X G scIniP isP fun _ _ _ _ _ _ us hl => match us, hl with | [_, _], _ => rfl
  have eM : Err K mg "InvalidMatrix" CM := Z.eM.err X G scIniM isM fun _ _ _ _ _ _ us hl => match us, hl with | [_, _], _ => rfl
  have eT : Err K mg "InvalidPattern" CT := Z.eT.err X G scIniT isT fun _ _ _ _ _ _ us hl => match us, hl with | [_, _], _ => rfl
  have eL : Err K mg "InvalidPlace" CL := Z.eL.err X G scIniL isL fun _ _ _ _ _ _ us hl => match us, hl with | [_, _], _ => rfl
  have eZ : Err K mg "InvalidSizes" CZ := Z.eZ.err X G scIniZ isZ fun _ _ _ _ _ _ us hl => match us, hl with | [_, _], _ => rfl
  have eA : Err K mg "InvalidMaps" CA := Z.eA.err X G scIniA isA fun _ _ _ _ _ _ us hl => match us, hl with | [_, _], _ => rfl
  have eN : Err K mg "InvalidNumbers" CN := Z.eN.err X G scIniN isN fun _ _ _ _ _ _ us hl => match us, hl with | [_, _], _ => rfl
  have eY : Err K mg "InvalidTable" CY := Z.eY.err X G scIniY isY fun _ _ _ _ _ _ us hl => match us, hl with | [_, _], _ => rfl
  have eG : Err K mg "TooLarge" CG := Z.eG.err X G scIniG isG fun _ _ _ _ _ _ us hl => match us, hl with | [_, _], _ => rfl
  have eB : ErrF K mg "NegativeBar" "bar" CB := Z.eB.err X G scIniB isB (by decide) (by decide) fun _ _ _ _ _ _ us hl => match us, hl with | [_, _], _ => rfl
  have kxB : PySem.W.subIn K (.ref CB) (.type "BaseException") = some true := eB.xf.exC
  have gRoot : mg "RowError" = some (.ref CR) := PySem.W.mg_of X G Z.root
  have rtC : RootC K CR := ⟨Z.rSp, Z.rTy, Z.rRd, Z.rIni⟩
  have eU : ErrN K mg "UnlikeRows" CU := Z.eU.err X G scIniU (fun P w base q f cdv A outer s H E => ⟨_, pss_one (ps_expr (pe_rootini rtC rfl gRoot (pa_cons (pv 0) pa_nil))), fun _ _ _ z => z⟩) fun _ _ _ _ _ _ us hl => match us, hl with | [_], _ => rfl
  have kxU : PySem.W.subIn K (.ref CU) (.type "BaseException") = some true := eU.ox.exC
  have xBB : PySem.W.exmOne K (.ref CB) (.ref CB) = some true := exm_of kxB Z.cB eB.ox.tyC Z.sBB
  have T : Txt K w mg aI aT CP CT CZ CA CM CL kI kT := ⟨zz_isinstance, zz_int, zz_bool, zz_str, zz_list, zz_tuple, zz_len, zz_all, zz_range, zz_enumerate, PySem.W.mg_of X G Z.taI.1, Z.taI.2, Z.hI, PySem.W.mg_of X G Z.taT.1, Z.taT.2, Z.hT, ⟨tM, PySem.W.mg_of X G Z.iMOST⟩, eP, eT, eZ, eA, eM, eL⟩
  have cl : Cls K C := ⟨Z.cPg, Z.cHd, Z.cPo, Z.cSa⟩
  have R : RowCls K C := ⟨cl, Z.n1, Z.n2, Z.n3, Z.n4⟩
  have TR : TxR K mg C CG CU := ⟨zz_zip, eG, eU, PySem.W.mg_of X G Z.gRow, ⟨cl, Z.iHa, Z.iHn, Z.iHt, Z.iHm, Z.iMe⟩⟩
  have TN : TxN mg K CN CN := ⟨zz_dict, zz_sum, eN⟩
  have D1 := Z.d1.df (ps := ["value"]) X G fun _ _ _ _ _ _ us hl => match us, hl with | [_], _ => rfl
  have D3 := Z.d3.df (ps := ["value"]) X G fun _ _ _ _ _ _ us hl => match us, hl with | [_], _ => rfl
  have D4 := Z.d4.df (ps := ["prime"]) X G fun _ _ _ _ _ _ us hl => match us, hl with | [_], _ => rfl
  have D5 := Z.d5.df (ps := ["value"]) X G fun _ _ _ _ _ _ us hl => match us, hl with | [_], _ => rfl
  have D6 := Z.d6.df (ps := ["value", "length"]) X G fun _ _ _ _ _ _ us hl => match us, hl with | [_, _], _ => rfl
  have D7 := Z.d7.df (ps := ["value", "height", "width"]) X G fun _ _ _ _ _ _ us hl => match us, hl with | [_, _, _], _ => rfl
  have D8 := Z.d8.df (ps := ["value"]) X G fun _ _ _ _ _ _ us hl => match us, hl with | [_], _ => rfl
  have D9 := Z.d9.df (ps := ["pattern"]) X G fun _ _ _ _ _ _ us hl => match us, hl with | [_], _ => rfl
  have D10 := Z.d10.df (ps := ["pattern"]) X G fun _ _ _ _ _ _ us hl => match us, hl with | [_], _ => rfl
  have D11 := Z.d11.df (ps := ["pattern", "value"]) X G fun _ _ _ _ _ _ us hl => match us, hl with | [_, _], _ => rfl
  have D12 := Z.d12.df (ps := ["pattern", "sizes"]) X G fun _ _ _ _ _ _ us hl => match us, hl with | [_, _], _ => rfl
  have D13 := Z.d13.df (ps := ["pattern", "numbers"]) X G fun _ _ _ _ _ _ us hl => match us, hl with | [_, _], _ => rfl
  have D14 := Z.d14.df (ps := ["sizes"]) X G fun _ _ _ _ _ _ us hl => match us, hl with | [_], _ => rfl
  have D15 := Z.d15.df (ps := ["pattern", "numbers"]) X G fun _ _ _ _ _ _ us hl => match us, hl with | [_, _], _ => rfl
  have D16 := Z.d16.df (ps := ["pattern", "index"]) X G fun _ _ _ _ _ _ us hl => match us, hl with | [_, _], _ => rfl
  have D17 := Z.d17.df (ps := ["pattern", "sizes", "maps"]) X G fun _ _ _ _ _ _ us hl => match us, hl with | [_, _, _], _ => rfl
  have D18 := Z.d18.df (ps := ["rows", "columns"]) X G fun _ _ _ _ _ _ us hl => match us, hl with | [_, _], _ => rfl
  have D19 := Z.d19.df (ps := ["pattern", "prime", "numbers"]) X G fun _ _ _ _ _ _ us hl => match us, hl with | [_, _, _], _ => rfl
  have D20 := Z.d20.df (ps := ["value"]) X G fun _ _ _ _ _ _ us hl => match us, hl with | [_], _ => rfl
  have D21 := Z.d21.df (ps := ["table"]) X G fun _ _ _ _ _ _ us hl => match us, hl with | [_], _ => rfl
  have D22 := Z.d22.df (ps := ["table"]) X G fun _ _ _ _ _ _ us hl => match us, hl with | [_], _ => rfl
  have D23 := Z.d23.df (ps := ["table", "first", "last"]) X G fun _ _ _ _ _ _ us hl => match us, hl with | [_, _, _], _ => rfl
  have D24 := Z.d24.df (ps := ["table", "bar"]) X G fun _ _ _ _ _ _ us hl => match us, hl with | [_, _], _ => rfl
  have D25 := Z.d25.df (ps := ["table"]) X G fun _ _ _ _ _ _ us hl => match us, hl with | [_], _ => rfl
  have D26 := Z.d26.df (ps := ["value"]) X G fun _ _ _ _ _ _ us hl => match us, hl with | [_], _ => rfl
  have D27 := Z.d27.df (ps := ["table"]) X G fun _ _ _ _ _ _ us hl => match us, hl with | [_], _ => rfl
  have D28 := Z.d28.df (ps := ["prime", "table"]) X G fun _ _ _ _ _ _ us hl => match us, hl with | [_, _], _ => rfl
  have D29 := Z.d29.df (ps := ["_law_script", "_law_k"]) X G fun _ _ _ _ _ _ us hl => match us, hl with | [_, _], _ => rfl
  have D30 := Z.d30.df (ps := ["_law_cell_here"]) X G fun _ _ _ _ _ _ us hl => match us, hl with | [_], _ => rfl
  have D31 := Z.d31.df (ps := ["_law_box_here", "_law_many"]) X G fun _ _ _ _ _ _ us hl => match us, hl with | [_, _], _ => rfl
  have D32 := Z.d32.df (ps := ["_law_p", "_law_item"]) X G fun _ _ _ _ _ _ us hl => match us, hl with | [_, _], _ => rfl
  have D33 := Z.d33.df (ps := ["_law_p", "_law_rows", "_law_head", "_law_spot"]) X G fun _ _ _ _ _ _ us hl => match us, hl with | [_, _, _, _], _ => rfl
  have D34 := Z.d34.df (ps := ["_law_p", "_law_rows"]) X G fun _ _ _ _ _ _ us hl => match us, hl with | [_, _], _ => rfl
  have D35 := Z.d35.df (ps := ["_law_p", "_law_rows"]) X G fun _ _ _ _ _ _ us hl => match us, hl with | [_, _], _ => rfl
  have D36 := Z.d36.df (ps := ["_law_p", "_law_row", "_law_matrix", "_law_wide"]) X G fun _ _ _ _ _ _ us hl => match us, hl with | [_, _, _, _], _ => rfl
  have D37 := Z.d37.df (ps := ["_law_web"]) X G fun _ _ _ _ _ _ us hl => match us, hl with | [_], _ => rfl
  have D38 := Z.d38.df (ps := ["_law_box_here"]) X G fun _ _ _ _ _ _ us hl => match us, hl with | [_], _ => rfl
  have D39 := Z.d39.df (ps := ["_law_table"]) X G fun _ _ _ _ _ _ us hl => match us, hl with | [_], _ => rfl
  have D40 := Z.d40.df (ps := ["_law_box_here", "_law_many"]) X G fun _ _ _ _ _ _ us hl => match us, hl with | [_, _], _ => rfl
  have D41 := Z.d41.df (ps := ["_law_box_here"]) X G fun _ _ _ _ _ _ us hl => match us, hl with | [_], _ => rfl
  have D42 := Z.d42.df (ps := ["_law_way", "_law_p", "_law_table"]) X G fun _ _ _ _ _ _ us hl => match us, hl with | [_, _, _], _ => rfl
  have D43 := Z.d43.df (ps := ["_law_p", "_law_row", "_law_table"]) X G fun _ _ _ _ _ _ us hl => match us, hl with | [_, _, _], _ => rfl
  have D44 := Z.d44.df (ps := ["_law_p", "_law_table"]) X G fun _ _ _ _ _ _ us hl => match us, hl with | [_, _], _ => rfl
  obtain ⟨f_mIni, fd_mIni, at_mIni, fn_mIni, kp_mIni, F_mIni, B_mIni⟩ := Z.mIni.mt (ps := ["self", "pattern", "prime", "sizes", "maps"]) fun _ _ _ _ _ _ us hl => match us, hl with | [_, _, _, _, _], _ => rfl
  obtain ⟨f_mMaps, fd_mMaps, at_mMaps, fn_mMaps, kp_mMaps, F_mMaps, B_mMaps⟩ := Z.mMaps.mt (ps := ["self"]) fun _ _ _ _ _ _ us hl => match us, hl with | [_], _ => rfl
  obtain ⟨p_qP, g_qP, fd_qP, P_qP, F_qP, B_qP⟩ := Z.qP.pr (ps := ["self"]) fun _ _ _ _ _ _ us hl => match us, hl with | [_], _ => rfl
  obtain ⟨p_qQ, g_qQ, fd_qQ, P_qQ, F_qQ, B_qQ⟩ := Z.qQ.pr (ps := ["self"]) fun _ _ _ _ _ _ us hl => match us, hl with | [_], _ => rfl
  obtain ⟨p_qS, g_qS, fd_qS, P_qS, F_qS, B_qS⟩ := Z.qS.pr (ps := ["self"]) fun _ _ _ _ _ _ us hl => match us, hl with | [_], _ => rfl
  obtain ⟨f, g, oc, od, kV, dc, pm, an, cd, ct, sl, lk, hc, hk⟩ := Z.dl
  have e := hfa.symm.trans (PySem.W.mg_of X G g)
  cases e
  refine ⟨PySem.W.fnOf "law" "law" (defArgs sLaw) (defBody sLaw) (defScope sLaw) .none kV dc pm an cd ct, fun s v => .of_eq rfl, fun base KB _ => ?_⟩
  have PP : PropAt l.prog w K mg base C "pattern" (spGetP C) := ⟨cl, p_qP, g_qP, fd_qP, P_qP, okGetP F_qP R, B_qP⟩
  have PQ : PropAt l.prog w K mg base C "prime" (spGetQ C) := ⟨cl, p_qQ, g_qQ, fd_qQ, P_qQ, okGetQ F_qQ R, B_qQ⟩
  have PS : PropAt l.prog w K mg base C "sizes" (spGetS C) := ⟨cl, p_qS, g_qS, fd_qS, P_qS, okGetS F_qS R, B_qS⟩
  have MM : Meth0At l.prog w K mg base C "maps" 1 (spMaps C) := ⟨cl, f_mMaps, fd_mMaps, ⟨at_mMaps, fn_mMaps, kp_mMaps⟩, okMaps F_mMaps T R, B_mMaps⟩
  have G1 : Own l.prog w K mg base CX0 1 "is_number" ["value"] [] spNum := D1.own fun f fd F => okNum F T
  have G2 : Own l.prog w K mg base CX0 2 "is_integer" ["value", "low", "high"] [] spInt := Z.d2.own3 X G (fun T kV doc pm an cdv ct us its h1 h2 => match us, its, h1, h2 with | [_, _, _], [_, _], _, _ => ⟨_, rfl, rfl⟩) fun f fd F => okInt F G1
  have G3 : Own l.prog w K mg base CX0 2 "is_prime" ["value"] [] spPrime := D3.own fun f fd F => okPrime F T G1
  have G4 : Own l.prog w K mg base (L2.CX l.prog w) 4 "check_prime" ["prime"] [] (spCheck CP) := D4.own fun f fd F => okCheck F T G3
  have G5 : Own l.prog w K mg base CX0 1 "is_list" ["value"] [] spList := D5.own fun f fd F => okList F T
  have G6 : Own l.prog w K mg base CX0 2 "is_vector" ["value", "length"] [] spVec := D6.own fun f fd F => okVec F T G5
  have G7 : Own l.prog w K mg base CX0 3 "is_matrix" ["value", "height", "width"] [] spMat := D7.own fun f fd F => okMat F T G5 G6
  have G8 : Own l.prog w K mg base CX0 1 "is_pattern" ["value"] [] spPat := D8.own fun f fd F => okPat F T
  have G9 : Own l.prog w K mg base (L2.CX l.prog w) 4 "check_pattern" ["pattern"] [] (spCPat CT) := D9.own fun f fd F => okCPat F T G8
  have G10 : Own l.prog w K mg base (L2.CX l.prog w) 5 "bars" ["pattern"] [] (spBars CT) := D10.own fun f fd F => okBars F T TN G9
  have G11 : Own l.prog w K mg base CX0 3 "is_bar" ["pattern", "value"] [] spBarP := D11.own fun f fd F => okBarP F T TN G2
  have G12 : Own l.prog w K mg base (L2.CX l.prog w) 4 "check_sizes" ["pattern", "sizes"] [] (spCSz CZ) := D12.own fun f fd F => okCSz F T G5 G2
  have G13 : Own l.prog w K mg base (L2.CX l.prog w) 5 "check_numbers" ["pattern", "numbers"] [] (spCNumsG CN) := D13.own fun f fd F => okCNum F T TN G11 G2
  have G14 : Own l.prog w K mg base (L2.CX l.prog w) 4 "check_low" ["sizes"] [] (spLow K CG) := D14.own fun f fd F => okLow F T TR
  have G15 : Own l.prog w K mg base (L2.CX l.prog w) 6 "low_sizes" ["pattern", "numbers"] [] (spLowSzG CN CG) := D15.own fun f fd F => okLowSz F T TN G13 G14
  have G16 : Own l.prog w K mg base CX0 1 "way" ["pattern", "index"] [] spWay := D16.own fun f fd F => okWay F
  have G17 : Own l.prog w K mg base (L2.CX l.prog w) 5 "_check_maps" ["pattern", "sizes", "maps"] [] (spCMaps CA CM) := D17.own fun f fd F => okCMaps F T G5 G16 G7
  have G18 : Own l.prog w K mg base CX0 1 "_same_items" ["rows", "columns"] [] spSameI := D18.own fun f fd F => okSame F T
  have RA : RowsAt l.prog w K mg base C CT CP CZ CA CM := ⟨PySem.W.mg_of X G Z.gRow, cl, f_mIni, fd_mIni, ⟨Z.mkC, at_mIni, fn_mIni, Z.kpC⟩, okIniR F_mIni T R G9 G4 G12 G17, B_mIni⟩
  have G19 : Own l.prog w K mg base (L2.CX l.prog w) 8 "row_with" ["pattern", "prime", "numbers"] [] (spRowWith C CT CP CN CG) := D19.own fun f fd F => okWith F T RA G9 G4 G15 G10 G16 G18
  have G20 : Own l.prog w K mg base CX0 3 "_is_table" ["value"] [] spIsTab := D20.own fun f fd F => okIsTab F T G5 G2
  have G21 : Own l.prog w K mg base (L2.CX l.prog w) 5 "_check_table" ["table"] [] (spCTab CY) := D21.own fun f fd F => okCTab F eY G20
  have G22 : Own l.prog w K mg base CX0 1 "_pattern_of" ["table"] [] spPatT := D22.own fun f fd F => okPatOf F zz_len
  have G23 : Own l.prog w K mg base CX0 1 "_value_at" ["table", "first", "last"] [] spValT := D23.own fun f fd F => okValAt F zz_len
  have G24 : Own l.prog w K mg base CX0 2 "_number_by" ["table", "bar"] [] spNumT := D24.own fun f fd F => okNumBy F G23
  have G25 : Own l.prog w K mg base CX0 6 "clash" ["table"] [] spClashT := D25.own fun f fd F => okClash F G21 G10 G22 G24
  have G26 : Own l.prog w K mg base CX0 7 "is_rank_table" ["value"] [] spIsRankT := D26.own fun f fd F => okIsRank F G20 G25
  have G27 : Own l.prog w K mg base (L2.CX l.prog w) 7 "bars_of" ["table"] [] (spBarsT CB) := D27.own fun f fd F => okBarsOf F eB G25 G10 G22 G24
  have G28 : Own l.prog w K mg base (L2.CX l.prog w) 9 "row_of_table" ["prime", "table"] [] (spRowT C CB) := D28.own fun f fd F => okRowOfT F G4 G27 G22 G19
  have G29 : Own l.prog w K mg base CX0 1 "_law_cell" ["_law_script", "_law_k"] [] (spCellR K) := D29.own fun f fd F => okCell F T.len
  have G30 : Own l.prog w K mg base CX0 1 "_law_box" ["_law_cell_here"] [] spBoxR := D30.own fun f fd F => okBox F zz_max T.int
  have G31 : Own l.prog w K mg base CX0 1 "_law_take" ["_law_box_here", "_law_many"] [] spTakeR := D31.own fun f fd F => okTake F T.int
  have G32 : Own l.prog w K mg base CX0 1 "_law_turn" ["_law_p", "_law_item"] [] spTurn := D32.own fun f fd F => okTurn F T.range T.int
  have G33 : Own l.prog w K mg base CX0 1 "_law_less" ["_law_p", "_law_rows", "_law_head", "_law_spot"] [] spLess := D33.own fun f fd F => okLess F T.range T.int T.len
  have G34 : Own l.prog w K mg base CX0 2 "_law_base" ["_law_p", "_law_rows"] [] spBaseL := D34.own fun f fd F => okBaseL F T.range T.len T.int T.tuple G32 G33
  have G35 : Own l.prog w K mg base CX0 3 "_law_rank" ["_law_p", "_law_rows"] [] spRankL := D35.own fun f fd F => okRankL F T.len G34
  have G36 : Own l.prog w K mg base CX0 1 "_law_led" ["_law_p", "_law_row", "_law_matrix", "_law_wide"] [] spMixed := D36.own fun f fd F => okLedL F T zz_sum
  have G37 : Own l.prog w K mg base CX0 4 "_law_ranks" ["_law_web"] [] spRanksL := D37.own fun f fd F => okRanks F T.range T.len T.int T.tuple zz_enumerate zz_min zz_max G36 G35
  have G38 : Own l.prog w K mg base CX0 2 "_law_prime" ["_law_box_here"] [] spPrimeR := D38.own fun f fd F => okPrimeL F G31
  have G39 : Own l.prog w K mg base CX0 1 "_law_counts" ["_law_table"] [] spCountsT := D39.own fun f fd F => okCounts F T.range T.len
  have G40 : Own l.prog w K mg base CX0 2 "_law_summed" ["_law_box_here", "_law_many"] [] spSummedT := D40.own fun f fd F => okSummed F T.range zz_max zz_enumerate T.int G31
  have G41 : Own l.prog w K mg base CX0 3 "_law_drawn" ["_law_box_here"] [] spDrawnT := D41.own fun f fd F => okDrawn F T.range zz_max zz_min G31 G40
  have G42 : Own l.prog w K mg base CX0 10 "_law_caught" ["_law_way", "_law_p", "_law_table"] [] (spCauT C) := D42.own fun f fd F => okCaught F eB gRoot xBB G27 G28
  have G43 : Own l.prog w K mg base CX0 5 "_law_row_right" ["_law_p", "_law_row", "_law_table"] [] (spRowRt C) := D43.own fun f fd F => okRowRt F T.list T.len PP PQ PS MM G37
  have G44 : OwnG l.prog w K mg base CX0 11 "_law_right" ["_law_p", "_law_table"] [] spRightT := D44.ownG fun f fd F => okRight F zz_repr zz_sorted T.list G39 G25 G26 G42 G43
  exact okLaw (fun_mk (st := sLaw) lk hc hk) ⟨zz_range, zz_max, zz_min, zz_len, zz_tuple⟩ ⟨G29, G30, G38, G41, G44⟩
end K41
set_option Elab.async false
open PySem PySem.W PyProof.Rows
set_option maxRecDepth 100000
set_option maxHeartbeats 0
open_top k41head for PySem.Challenge.rw_maprows_k41_whole_tables_or_a_bar_that_c
open PySem PySem.W PyProof.Rows in
set_option maxRecDepth 100000 in
set_option maxHeartbeats 0 in
set_option pp.maxSteps 20 in
theorem PySem.Challenge.cw_maprows_k41_whole_tables_or_a_bar_that_c_holds : PySem.Challenge.rw_maprows_k41_whole_tables_or_a_bar_that_c.Holds := by
  refine k41head ?walk
  k_fill
  refine Rw.walkG (l := PySem.Challenge.rw_maprows_k41_whole_tables_or_a_bar_that_c) (n := 63) (k := 12) (x := "_law_script") (sp := K41.spLaw) rfl (by decide) rfl rfl ⟨rfl, by decide, by decide⟩ (fun w h Y => PySem.W.kIn_of Y) ?F (fun K H a ns hl _ hs => ⟨a, ns, rfl, hs, hl, fun _ => rfl⟩)
  intro w mg fa h KX G hmg
  refine' K41.all_mk KX G hmg ?Z
  case' Z => refine' ⟨?taI, ?taT, ?iMOST, ?hI, ?hT, ?root, ?eP, ?eM, ?eT, ?eL, ?eZ, ?eA, ?eN, ?eY, ?eG, ?eB, ?eU, ?cB, ?sBB, ?gRow, ?cPg, ?cHd, ?cPo, ?cSa, ?n1, ?n2, ?n3, ?n4, ?mkC, ?kpC, ?iHa, ?iHn, ?iHt, ?iHm, ?iMe, ?rSp, ?rTy, ?rRd, ?rIni, ?mIni, ?mMaps, ?qP, ?qQ, ?qS, ?d1, ?d2, ?d3, ?d4, ?d5, ?d6, ?d7, ?d8, ?d9, ?d10, ?d11, ?d12, ?d13, ?d14, ?d15, ?d16, ?d17, ?d18, ?d19, ?d20, ?d21, ?d22, ?d23, ?d24, ?d25, ?d26, ?d27, ?d28, ?d29, ?d30, ?d31, ?d32, ?d33, ?d34, ?d35, ?d36, ?d37, ?d38, ?d39, ?d40, ?d41, ?d42, ?d43, ?d44, ?dl, ?z1, ?z2, ?z3, ?z4, ?z5, ?z6, ?z7, ?z8, ?z9, ?z10, ?z11, ?z12, ?z13, ?z14, ?z15, ?z16, ?z17⟩
  (case taI => refine' Rw.TabIHere.of ?g ?k ?t ?z; (case g => k_is); (case k => k_is); (case t => exact .cons rfl rfl rfl (.cons rfl rfl rfl (.cons rfl rfl rfl (.cons rfl rfl rfl (.cons rfl rfl rfl (.cons rfl rfl rfl .nil)))))); (case z => first | rfl | k_is))
  (case taT => refine' Rw.TabSHere.of ?g ?k ?t ?z; (case g => k_is); (case k => k_is); (case t => exact .cons rfl rfl rfl (.cons rfl rfl rfl .nil)); (case z => first | rfl | k_is))
  (case iMOST => k_is)
  (case hI => exact fun i => Rw.prime_tab (us := []) i)
  (case hT => exact fun c => Rw.arr_tab c)
  (case root => k_is)
  (case eP => refine' Rw.ErrHere.of ?g ?xl ?sa ?ga ?gg ?no ?ini ?ty ?l ?c ?k ?kc ?ex ?tc ?hd; (case g => k_is); (case xl => k_is); (case sa => k_is); (case ga => k_is); (case gg => k_is); (case no => k_is); (case ini => k_is); (case ty => k_is); (case l => k_is); (case c => k_is); (case k => k_is); (case kc => k_is); (case ex => k_is); (case tc => k_is); (case hd => k_is))
  (case eM => refine' Rw.ErrHere.of ?g ?xl ?sa ?ga ?gg ?no ?ini ?ty ?l ?c ?k ?kc ?ex ?tc ?hd; (case g => k_is); (case xl => k_is); (case sa => k_is); (case ga => k_is); (case gg => k_is); (case no => k_is); (case ini => k_is); (case ty => k_is); (case l => k_is); (case c => k_is); (case k => k_is); (case kc => k_is); (case ex => k_is); (case tc => k_is); (case hd => k_is))
  (case eT => refine' Rw.ErrHere.of ?g ?xl ?sa ?ga ?gg ?no ?ini ?ty ?l ?c ?k ?kc ?ex ?tc ?hd; (case g => k_is); (case xl => k_is); (case sa => k_is); (case ga => k_is); (case gg => k_is); (case no => k_is); (case ini => k_is); (case ty => k_is); (case l => k_is); (case c => k_is); (case k => k_is); (case kc => k_is); (case ex => k_is); (case tc => k_is); (case hd => k_is))
  (case eL => refine' Rw.ErrHere.of ?g ?xl ?sa ?ga ?gg ?no ?ini ?ty ?l ?c ?k ?kc ?ex ?tc ?hd; (case g => k_is); (case xl => k_is); (case sa => k_is); (case ga => k_is); (case gg => k_is); (case no => k_is); (case ini => k_is); (case ty => k_is); (case l => k_is); (case c => k_is); (case k => k_is); (case kc => k_is); (case ex => k_is); (case tc => k_is); (case hd => k_is))
  (case eZ => refine' Rw.ErrHere.of ?g ?xl ?sa ?ga ?gg ?no ?ini ?ty ?l ?c ?k ?kc ?ex ?tc ?hd; (case g => k_is); (case xl => k_is); (case sa => k_is); (case ga => k_is); (case gg => k_is); (case no => k_is); (case ini => k_is); (case ty => k_is); (case l => k_is); (case c => k_is); (case k => k_is); (case kc => k_is); (case ex => k_is); (case tc => k_is); (case hd => k_is))
  (case eA => refine' Rw.ErrHere.of ?g ?xl ?sa ?ga ?gg ?no ?ini ?ty ?l ?c ?k ?kc ?ex ?tc ?hd; (case g => k_is); (case xl => k_is); (case sa => k_is); (case ga => k_is); (case gg => k_is); (case no => k_is); (case ini => k_is); (case ty => k_is); (case l => k_is); (case c => k_is); (case k => k_is); (case kc => k_is); (case ex => k_is); (case tc => k_is); (case hd => k_is))
  (case eN => refine' Rw.ErrHere.of ?g ?xl ?sa ?ga ?gg ?no ?ini ?ty ?l ?c ?k ?kc ?ex ?tc ?hd; (case g => k_is); (case xl => k_is); (case sa => k_is); (case ga => k_is); (case gg => k_is); (case no => k_is); (case ini => k_is); (case ty => k_is); (case l => k_is); (case c => k_is); (case k => k_is); (case kc => k_is); (case ex => k_is); (case tc => k_is); (case hd => k_is))
  (case eY => refine' Rw.ErrHere.of ?g ?xl ?sa ?ga ?gg ?no ?ini ?ty ?l ?c ?k ?kc ?ex ?tc ?hd; (case g => k_is); (case xl => k_is); (case sa => k_is); (case ga => k_is); (case gg => k_is); (case no => k_is); (case ini => k_is); (case ty => k_is); (case l => k_is); (case c => k_is); (case k => k_is); (case kc => k_is); (case ex => k_is); (case tc => k_is); (case hd => k_is))
  (case eG => refine' Rw.ErrHere.of ?g ?xl ?sa ?ga ?gg ?no ?ini ?ty ?l ?c ?k ?kc ?ex ?tc ?hd; (case g => k_is); (case xl => k_is); (case sa => k_is); (case ga => k_is); (case gg => k_is); (case no => k_is); (case ini => k_is); (case ty => k_is); (case l => k_is); (case c => k_is); (case k => k_is); (case kc => k_is); (case ex => k_is); (case tc => k_is); (case hd => k_is))
  (case eB => refine' Rw.ErrFHere.of ?g ?xl ?sa ?ga ?gg ?no ?ini ?ty ?l ?c ?k ?kc ?ex ?tc ?hd; (case g => k_is); (case xl => k_is); (case sa => k_is); (case ga => k_is); (case gg => k_is); (case no => k_is); (case ini => k_is); (case ty => k_is); (case l => k_is); (case c => k_is); (case k => k_is); (case kc => k_is); (case ex => k_is); (case tc => k_is); (case hd => k_is))
  (case eU => refine' Rw.ErrNHere.of ?g ?xl ?sa ?ini ?ty ?l ?c ?k ?kc ?ex ?tc; (case g => k_is); (case xl => k_is); (case sa => k_is); (case ini => k_is); (case ty => k_is); (case l => k_is); (case c => k_is); (case k => k_is); (case kc => k_is); (case ex => k_is); (case tc => k_is))
  (case cB => first | rfl | k_is)
  (case sBB => first | rfl | k_is)
  (case gRow => first | rfl | k_is)
  (case cPg => first | rfl | k_is)
  (case cHd => first | rfl | k_is)
  (case cPo => first | rfl | k_is)
  (case cSa => first | rfl | k_is)
  (case n1 => first | rfl | k_is)
  (case n2 => first | rfl | k_is)
  (case n3 => first | rfl | k_is)
  (case n4 => first | rfl | k_is)
  (case mkC => first | rfl | k_is)
  (case kpC => first | rfl | k_is)
  (case iHa => first | rfl | k_is)
  (case iHn => first | rfl | k_is)
  (case iHt => first | rfl | k_is)
  (case iHm => first | rfl | k_is)
  (case iMe => first | rfl | k_is)
  (case rSp => first | rfl | k_is)
  (case rTy => first | rfl | k_is)
  (case rRd => first | rfl | k_is)
  (case rIni => first | rfl | k_is)
  (case mIni => refine' Rw.MethHere.of ?g ?fn ?l ?c ?k; (case g => k_is); (case fn => first | rfl | k_is); (case l => k_is); (case c => k_is); (case k => k_is))
  (case mMaps => refine' Rw.MethHere.of ?g ?fn ?l ?c ?k; (case g => k_is); (case fn => first | rfl | k_is); (case l => k_is); (case c => k_is); (case k => k_is))
  (case qP => refine' Rw.PropHere.of ?a ?ge ?ta ?re ?l ?c ?k; (case a => k_is); (case ge => first | rfl | k_is); (case ta => first | rfl | k_is); (case re => k_is); (case l => k_is); (case c => k_is); (case k => k_is))
  (case qQ => refine' Rw.PropHere.of ?a ?ge ?ta ?re ?l ?c ?k; (case a => k_is); (case ge => first | rfl | k_is); (case ta => first | rfl | k_is); (case re => k_is); (case l => k_is); (case c => k_is); (case k => k_is))
  (case qS => refine' Rw.PropHere.of ?a ?ge ?ta ?re ?l ?c ?k; (case a => k_is); (case ge => first | rfl | k_is); (case ta => first | rfl | k_is); (case re => k_is); (case l => k_is); (case c => k_is); (case k => k_is))
  (case d1 => refine' Rw.DefHere.of ?g ?l ?c ?k; (case g => k_is); (case l => k_is); (case c => k_is); (case k => k_is))
  (case d2 => refine' Rw.DflHere.of ?g ?l ?c ?k ?t; (case g => k_is); (case l => k_is); (case c => k_is); (case k => k_is); (case t => k_is))
  (case d3 => refine' Rw.DefHere.of ?g ?l ?c ?k; (case g => k_is); (case l => k_is); (case c => k_is); (case k => k_is))
  (case d4 => refine' Rw.DefHere.of ?g ?l ?c ?k; (case g => k_is); (case l => k_is); (case c => k_is); (case k => k_is))
  (case d5 => refine' Rw.DefHere.of ?g ?l ?c ?k; (case g => k_is); (case l => k_is); (case c => k_is); (case k => k_is))
  (case d6 => refine' Rw.DefHere.of ?g ?l ?c ?k; (case g => k_is); (case l => k_is); (case c => k_is); (case k => k_is))
  (case d7 => refine' Rw.DefHere.of ?g ?l ?c ?k; (case g => k_is); (case l => k_is); (case c => k_is); (case k => k_is))
  (case d8 => refine' Rw.DefHere.of ?g ?l ?c ?k; (case g => k_is); (case l => k_is); (case c => k_is); (case k => k_is))
  (case d9 => refine' Rw.DefHere.of ?g ?l ?c ?k; (case g => k_is); (case l => k_is); (case c => k_is); (case k => k_is))
  (case d10 => refine' Rw.DefHere.of ?g ?l ?c ?k; (case g => k_is); (case l => k_is); (case c => k_is); (case k => k_is))
  (case d11 => refine' Rw.DefHere.of ?g ?l ?c ?k; (case g => k_is); (case l => k_is); (case c => k_is); (case k => k_is))
  (case d12 => refine' Rw.DefHere.of ?g ?l ?c ?k; (case g => k_is); (case l => k_is); (case c => k_is); (case k => k_is))
  (case d13 => refine' Rw.DefHere.of ?g ?l ?c ?k; (case g => k_is); (case l => k_is); (case c => k_is); (case k => k_is))
  (case d14 => refine' Rw.DefHere.of ?g ?l ?c ?k; (case g => k_is); (case l => k_is); (case c => k_is); (case k => k_is))
  (case d15 => refine' Rw.DefHere.of ?g ?l ?c ?k; (case g => k_is); (case l => k_is); (case c => k_is); (case k => k_is))
  (case d16 => refine' Rw.DefHere.of ?g ?l ?c ?k; (case g => k_is); (case l => k_is); (case c => k_is); (case k => k_is))
  (case d17 => refine' Rw.DefHere.of ?g ?l ?c ?k; (case g => k_is); (case l => k_is); (case c => k_is); (case k => k_is))
  (case d18 => refine' Rw.DefHere.of ?g ?l ?c ?k; (case g => k_is); (case l => k_is); (case c => k_is); (case k => k_is))
  (case d19 => refine' Rw.DefHere.of ?g ?l ?c ?k; (case g => k_is); (case l => k_is); (case c => k_is); (case k => k_is))
  (case d20 => refine' Rw.DefHere.of ?g ?l ?c ?k; (case g => k_is); (case l => k_is); (case c => k_is); (case k => k_is))
  (case d21 => refine' Rw.DefHere.of ?g ?l ?c ?k; (case g => k_is); (case l => k_is); (case c => k_is); (case k => k_is))
  (case d22 => refine' Rw.DefHere.of ?g ?l ?c ?k; (case g => k_is); (case l => k_is); (case c => k_is); (case k => k_is))
  (case d23 => refine' Rw.DefHere.of ?g ?l ?c ?k; (case g => k_is); (case l => k_is); (case c => k_is); (case k => k_is))
  (case d24 => refine' Rw.DefHere.of ?g ?l ?c ?k; (case g => k_is); (case l => k_is); (case c => k_is); (case k => k_is))
  (case d25 => refine' Rw.DefHere.of ?g ?l ?c ?k; (case g => k_is); (case l => k_is); (case c => k_is); (case k => k_is))
  (case d26 => refine' Rw.DefHere.of ?g ?l ?c ?k; (case g => k_is); (case l => k_is); (case c => k_is); (case k => k_is))
  (case d27 => refine' Rw.DefHere.of ?g ?l ?c ?k; (case g => k_is); (case l => k_is); (case c => k_is); (case k => k_is))
  (case d28 => refine' Rw.DefHere.of ?g ?l ?c ?k; (case g => k_is); (case l => k_is); (case c => k_is); (case k => k_is))
  (case d29 => refine' Rw.DefHere.of ?g ?l ?c ?k; (case g => k_is); (case l => k_is); (case c => k_is); (case k => k_is))
  (case d30 => refine' Rw.DefHere.of ?g ?l ?c ?k; (case g => k_is); (case l => k_is); (case c => k_is); (case k => k_is))
  (case d31 => refine' Rw.DefHere.of ?g ?l ?c ?k; (case g => k_is); (case l => k_is); (case c => k_is); (case k => k_is))
  (case d32 => refine' Rw.DefHere.of ?g ?l ?c ?k; (case g => k_is); (case l => k_is); (case c => k_is); (case k => k_is))
  (case d33 => refine' Rw.DefHere.of ?g ?l ?c ?k; (case g => k_is); (case l => k_is); (case c => k_is); (case k => k_is))
  (case d34 => refine' Rw.DefHere.of ?g ?l ?c ?k; (case g => k_is); (case l => k_is); (case c => k_is); (case k => k_is))
  (case d35 => refine' Rw.DefHere.of ?g ?l ?c ?k; (case g => k_is); (case l => k_is); (case c => k_is); (case k => k_is))
  (case d36 => refine' Rw.DefHere.of ?g ?l ?c ?k; (case g => k_is); (case l => k_is); (case c => k_is); (case k => k_is))
  (case d37 => refine' Rw.DefHere.of ?g ?l ?c ?k; (case g => k_is); (case l => k_is); (case c => k_is); (case k => k_is))
  (case d38 => refine' Rw.DefHere.of ?g ?l ?c ?k; (case g => k_is); (case l => k_is); (case c => k_is); (case k => k_is))
  (case d39 => refine' Rw.DefHere.of ?g ?l ?c ?k; (case g => k_is); (case l => k_is); (case c => k_is); (case k => k_is))
  (case d40 => refine' Rw.DefHere.of ?g ?l ?c ?k; (case g => k_is); (case l => k_is); (case c => k_is); (case k => k_is))
  (case d41 => refine' Rw.DefHere.of ?g ?l ?c ?k; (case g => k_is); (case l => k_is); (case c => k_is); (case k => k_is))
  (case d42 => refine' Rw.DefHere.of ?g ?l ?c ?k; (case g => k_is); (case l => k_is); (case c => k_is); (case k => k_is))
  (case d43 => refine' Rw.DefHere.of ?g ?l ?c ?k; (case g => k_is); (case l => k_is); (case c => k_is); (case k => k_is))
  (case d44 => refine' Rw.DefHere.of ?g ?l ?c ?k; (case g => k_is); (case l => k_is); (case c => k_is); (case k => k_is))
  (case dl => refine' Rw.DefHere.of ?g ?l ?c ?k; (case g => k_is); (case l => k_is); (case c => k_is); (case k => k_is))
  (case z1 => k_is)
  (case z2 => k_is)
  (case z3 => k_is)
  (case z4 => k_is)
  (case z5 => k_is)
  (case z6 => k_is)
  (case z7 => k_is)
  (case z8 => k_is)
  (case z9 => k_is)
  (case z10 => k_is)
  (case z11 => k_is)
  (case z12 => k_is)
  (case z13 => k_is)
  (case z14 => k_is)
  (case z15 => k_is)
  (case z16 => k_is)
  (case z17 => k_is)
#print axioms PySem.Challenge.cw_maprows_k41_whole_tables_or_a_bar_that_c_holds
