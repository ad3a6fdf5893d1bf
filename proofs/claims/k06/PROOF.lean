import PyProof.Rows.All
import Wide.All
import OpenK.AllK
import Wide.FinOn
import PyProof.RowDictHeap
import PyProof.ReprRoads
import HandS.ForMost
import HandS.ForExc
import HandS.ExcInit
import HandS.ExcField
import HandS.IsInst
import HandS.Wide
import HandS.Defaults
import HandS.Conv
import KE.GoesMore
import KE.GoesZip
import HandS.Zip0
import HandS.Walk
import KE.GoesEnum
import HandS.Property
import PySem.Challenge.RW_maprows_k06_members_and_rests
import HandS.SortRule
import PyProof.P3Eq
import HandS.OwnEq
import PyProof.StrLawsRepr
import HandS.TryOnly
import PyProof.NeKinds
import HandS.TupMul
import HandS.TupAny
import HandS.Codes
import HandS.Text
import HandS.Evl
import HandS.Style
import PyProof.StrBlock2
import HandS.List
import HandS.DictTup
import HandS.Iter
import HandS.DictComp
import HandS.Replace
import HandS.ReplaceList
import HandS.NamedTupSort
import PyProof.FactsAll.object_2
set_option Elab.async false
set_option linter.all false
set_option maxRecDepth 100000
set_option maxHeartbeats 4000000
/-! TkA: own rules that all laws of this program share: a def called where no repr runs (FnG), the end of a row from it, repr of data, try with several named clauses. -/
namespace Rw
open PySem PySem.Spec PyProof.Rows L2

/-! ### defs that are called where no repr is under way -/
theorem guards_deep (A : Around) (e : Env) : (A.deeper e).guards = A.guards := by rfl
/-- FnOk, but only where no repr is under way -/
structure FnG (P : Program) (w : World) (K : PySem.W.Frag) (mg : Str → Option Value) (base : Heap) (CX : CXT) (k : Nat) (f : Addr) (fd : FuncData) (ps : List Str) (sp : Sp) : Prop where
  many : ∀ vs H Q E, sp vs H Q E → vs.length = ps.length
  go : ∀ (A : Around) (fr : List Env) (s : Shared) (H : Hp) (ar : Args) (us : List Value) (vs : List V) (Q : VK) (E : XK), A.guards = some [] → Room k A → Env0 P w K mg base A fr s H →
    BindsTo s fd ar (ps.zip us) → Vals vs us → sp vs H Q E → codeAny (model P w) A (.call (.ref f) ar) (CR CX fr P w H s Q E) s

section
variable {P : Program} {w : World} {K : PySem.W.Frag} {mg : Str → Option Value} {base : Heap} {CX : CXT}
theorem fnG_of {k : Nat} {f : Addr} {name qual : Str} {pa : Arguments} {bd : List Stmt} {sc : Scope} {dV kV doc pm cdv ct oc : Value} {an od : Option Addr} {osl : Array (Option Value)} {N ps : List Str} {sp : Sp}
    (lk : K.lookup f = some ⟨oc, od, .func (PySem.W.fnOf name qual pa bd sc dV kV doc pm an cdv ct), osl⟩) (hcd : PySem.W.codeIn K cdv qual = true) (S : FnScope N ps sc)
    (many : ∀ vs H Q E, sp vs H Q E → vs.length = ps.length)
    (walk : ∀ (A : Around) (fr : List Env) (s : Shared) (H : Hp) (vs : List V) (Q : VK) (E : XK), A.guards = some [] → Room k (A.deeper (envOfC qual sc s.heap.objs.size f cdv)) → sp vs H Q E →
      ∃ t, PSs (cxOf CX P w K mg base N qual sc f cdv A fr s H E) bd t ∧ t { nx := fun _ H' => Q .non H', rt := Q } (start N vs) H) :
    FnG P w K mg base CX (k + 1) f (PySem.W.fnOf name qual pa bd sc dV kV doc pm an cdv ct) ps sp := by
  constructor
  · exact many
  intro A fr s H ar us vs Q E gu room ev bnd rel prom
  have cnt := many vs H Q E prom
  have kin : K.In s.heap := PySem.W.Frag.In.keeps ev.mod.kin (fun b o e => (ev.bs b o e).1)
  have lim : s.heap.NoLimit := Heap.NoLimit.keeps ev.mod.nolimit (fun b o e => (ev.bs b o e).1)
  refine codeAny_call_function (Room.depth room) (kin f _ lk) rfl S.co S.gen rfl (PySem.W.codeRec_of kin hcd) ?_
  refine bnd _ _ _ _ ?_
  refine wpAny_newFunctionEnv_cells S.kind ?_ ?_
  · intro y hy
    obtain ⟨n, v⟩ := y
    have hp := (List.of_mem_zip hy).1
    cases S.par n hp with
    | inl q => exact Or.inl q
    | inr q => exact Or.inr ⟨q, PySem.W.cellsFrom_some sc.names (s.heap.objs.size + 1) [] (Or.inl q)⟩
  intro env he s1 x
  subst he
  refine And.intro (lim.keeps (InCallC.toInCall x).keep) ?_
  refine codeAny_func ?_
  have start_ok := inv_start (CX := CX) (E := E) (f := f) (cd := cdv) S room.hd ev cnt rel x
  obtain ⟨t, ht, hq⟩ := walk A fr s H vs Q E gu (Room.deeper room _) prom
  refine wpAny_mono (PSs.run ht [] s1 (start N vs) H _ start_ok hq) ?_ (fun _ _ z => z)
  intro fl s2 hs
  cases fl with
  | ret u =>
    obtain ⟨v, σ2, H2, J, rv, q⟩ := hs
    exact Exists.intro v ⟨H2, J.os, J.bare, J.base, J.hok, rv, q⟩
  | next =>
    obtain ⟨σ2, H2, J, q⟩ := hs
    exact Exists.intro V.non ⟨H2, J.os, J.bare, J.base, J.hok, rfl, q⟩
  | brk => exact (hs.choose_spec.choose_spec.2).elim
  | cont => exact (hs.choose_spec.choose_spec.2).elim
/-- a def of the text: its body's term and reading, where no repr is under way -/
theorem funG {x qual : Str} {st : Stmt} {f : Addr} {fd : FuncData} {N ps : List Str} {k : Nat} {sp : Sp} (F : Fun K x qual st f fd) (S : FnScope N ps (defScope st)) (many : ∀ vs H Q E, sp vs H Q E → vs.length = ps.length)
    (walk : ∀ (cdv : Value) (A : Around) (fr : List Env) (s : Shared) (H : Hp) (vs : List V) (Q : VK) (E : XK), (cxOf CX0 P w K mg base N qual (defScope st) f cdv A fr s H E).A.guards = some [] →
      Room k (A.deeper (envOfC qual (defScope st) s.heap.objs.size f cdv)) → sp vs H Q E →
      ∃ t, PSs (cxOf CX0 P w K mg base N qual (defScope st) f cdv A fr s H E).nox (defBody st) t ∧ t { nx := fun _ H' => Q .non H', rt := Q } (start N vs) H) : FnG P w K mg base CX0 (k + 1) f fd ps sp := by
  obtain ⟨oc, od, kV, doc, pm, an, cdv, ct, osl, rfl, lk, hcd⟩ := F.ex
  refine fnG_of lk hcd S many ?_
  intro A fr s H vs Q E gu room prom
  obtain ⟨t, d, q⟩ := walk cdv A fr s H vs Q E gu room prom
  exact ⟨t, PSs.nox d, q⟩
end

section
variable {X : Cx} {CX : CXT} {k : Nat} {f : Addr} {fd : FuncData} {ps : List Str} {sp : Sp} {dvs : List V} {ds : List Value} {E : XK} {x : Str} {p pos : Pos} {e : Expr} {es : List Expr} {t : TA}
/-- f(e, ..) of such a def -/
theorem pe_callG (F : FnG X.prog X.w X.K X.mg X.base CX k f fd ps sp) (gu : X.A.guards = some []) (room : Room k X.A) (hg : Gl X x) (hm : X.mg x = some (.ref f)) (hk : PySem.W.keepIn X.K (.ref f) = true)
    (bnd : Binds X.K fd ps ds) (hd : Vals dvs ds) (hx : Passes CX X E) (ha : PA X (e :: es) t) (hdb : (x == ("__debug__" : Str)) = false := by decide)
    (he : starEach (e :: es) X.env = (false, eval e X.env) :: starEach es X.env := by rfl) (hpl : (backTo pos (starEach es X.env)).any (·.1) = false := by rfl) :
    PE X (.Call (.Name x p) (e :: es) [] pos) (tCall sp dvs E t) := by
  constructor
  intro pins s σ H Q I h
  refine wpAny_Call_Name_kw (ld_glob I hg hm ?_ hdb)
  refine PySem.W.callWith_K (h₀ := X.base) I.ok.mod.kin hk ?_ he hpl
  refine thn (PA.run ha pos pins s σ H _ I h) ?_
  intro us s1 hh
  obtain ⟨vs, H1, I1, r, q⟩ := hh
  refine ⟨I1.kIn, ?_⟩
  have r2 : Vals (vs ++ dvs) (us ++ ds) := Vals.append r hd
  have cnt : (us ++ ds).length = ps.length := (r2.length).symm.trans (F.many _ _ _ _ q)
  refine wpAny_call (codeAny_mono (F.go X.A X.stack s1 H1 ⟨us, []⟩ (us ++ ds) (vs ++ dvs) Q E gu room I1.env0 (bnd s1 us I1.kIn cnt) r2 q) ?_)
  intro res s2 hq
  cases res with
  | error er => exact hx pins σ H1 s1 er s2 I1 hq
  | ok fl =>
    cases fl with
    | ret u => exact Inv.after I1 hq
    | next => exact hq.elim
    | brk => exact hq.elim
    | cont => exact hq.elim
end
end Rw

set_option Elab.async false
set_option linter.all false
set_option maxRecDepth 100000
set_option maxHeartbeats 4000000
/-! TkB: the end of a law's row from a def that is called where no repr is under way. -/
namespace Rw
open PySem PySem.Spec PyProof.Rows L2

/-- nothing is tracked in H but perhaps a -/
def Lone (H : Hp) (a : Addr) : Prop := ∀ b, H b ≠ none → b = a

section
variable {P : Program} {w : World} {K : PySem.W.Frag} {mg mb : Str → Option Value} {s : Shared} {a : Addr} {H : Hp} {o : Obj}
theorem lone_base {b : Addr} {u : Obj} (e : s.heap.get? b = some u) (n : H b = none) : (hidT s.heap H).get? b = some u := hidT_get e n
theorem lone_free (A : Lone H a) {b : Addr} (n : b ≠ a) : H b = none := by
  cases q : H b with
  | none => rfl
  | some u => exact (n (A b (by rw [q]; exact fun z => nomatch z))).elim
theorem lone_dict (A : Lone H a) (ha : s.heap.get? a = some o) (hd : ∀ es n, o.data ≠ .dict es n) {b : Addr} {u : Obj} {es : Array DictEntry} {n : Nat} (e : s.heap.get? b = some u) (d : u.data = .dict es n) : H b = none :=
  lone_free A fun z => by
    rw [z, ha] at e
    cases e
    exact hd es n d
theorem lone_ns (A : Lone H a) (ha : s.heap.get? a = some o) (hd : ∀ es n, o.data ≠ .dict es n) {b : Addr} {m : Str → Option Value} (h : s.heap.Ns b m) : (hidT s.heap H).Ns b m := by
  obtain ⟨u, es, n, e, d, r⟩ := h
  exact ⟨u, es, n, lone_base e (lone_dict A ha hd e d), d, r⟩
theorem lone_mod (A : Lone H a) (ha : s.heap.get? a = some o) (hd : ∀ es n, o.data ≠ .dict es n) (KX : K.In s.heap) (hK : H a ≠ none → K.lookup a = none) (g : s.heap.Ns mainGlobals mg) (b : s.heap.Ns builtinsNs mb)
    (bb : ∀ x : Str, x ≠ "__name__" → mb x = bootBuiltins x) (lim : s.heap.NoLimit) : Mod K mg (hidT s.heap H) := by
  have kin : K.In (hidT s.heap H) := fun c u e => by
    refine lone_base (KX c u e) ?_
    by_cases z : c = a
    · cases q : H a with
      | none => rw [z]; exact q
      | some y =>
        rw [z, hK (by rw [q]; exact fun z => nomatch z)] at e
        cases e
    · exact lone_free A z
  refine ⟨kin, lone_ns A ha hd g, ⟨mb, lone_ns A ha hd b, bb⟩, ?_⟩
  obtain ⟨mc, h1, h2⟩ := lim
  exact ⟨mc, lone_ns A ha hd h1, h2⟩

/-- what a law's run leaves, from its promise -/
theorem lone_run {CX : CXT} {k : Nat} {fa : Addr} {fd : FuncData} {x : Str} {sp : Sp} (A : Lone H a) (ha : s.heap.get? a = some o) (hd : ∀ es n, o.data ≠ .dict es n) (KX : K.In s.heap) (hK : H a ≠ none → K.lookup a = none)
    (g : s.heap.Ns mainGlobals mg) (b : s.heap.Ns builtinsNs mb) (bb : ∀ x : Str, x ≠ "__name__" → mb x = bootBuiltins x) (lim : s.heap.NoLimit) (hg : s.gens = #[]) (only : Only H) (hok : HOk P w H s.heap) (gu : callerA.guards = some []) (hr : Room k callerA)
    (F : ∀ base : Heap, K.In base → base.Ns mainGlobals mg → FnG P w K mg base CX k fa fd [x] sp) (bnd : ∀ (s : Shared) (u : Value), BindsTo s fd ⟨[u], []⟩ [(x, u)])
    (hs : sp [.ref a] H (fun v _ => v = .bl true) fun _ _ _ => False) (hCX : ∀ e s', CX [] H s (fun _ _ _ => False) e s' → False) :
    codeAny (model P w) callerA (.call (.ref fa) ⟨[.ref a], []⟩) (fun r s' => r = .ok (.ret (.bool true)) ∧ OldK s.heap s'.heap ∧ s'.os = s.os ∧ AllBare s'.gens) s := by
  have M := lone_mod A ha hd KX hK g b bb lim
  have ev : Env0 P w K mg (hidT s.heap H) callerA [] s H := by
    refine ⟨rfl, M, fun c u e => of_hidT e, Nat.le_of_eq (hidT_size _ _), True.intro, ?_, hok, .of_eq hg⟩
    intro c hc
    cases hc
  refine codeAny_mono ((F _ M.kin M.glob).go callerA [] s H ⟨[.ref a], []⟩ [.ref a] [.ref a] _ _ gu hr ev (bnd s (.ref a)) (.cons rfl .nil) hs) ?_
  intro r s' h
  cases r with
  | error e => exact False.elim (hCX e s' h)
  | ok fl =>
    cases fl with
    | next => exact h.elim
    | brk => exact h.elim
    | cont => exact h.elim
    | ret u =>
      obtain ⟨v, H', os, bare, un, hok', r', q⟩ := h
      have ev : v = V.bl true := q
      rw [ev] at r'
      cases (show u = Value.bool true from r')
      refine ⟨rfl, OldK.of_keep ?_, os, bare⟩
      intro c u e
      cases q : H c with
      | none => exact un.keep c u e q (fun z => nomatch z) (fun z => nomatch z)
      | some y =>
        cases only c with
        | inl z =>
          rw [q] at z
          cases z
        | inr z =>
          obtain ⟨ob, xs, z⟩ := z
          have e1 := (hok c _ z).1
          have e2 := (hok' c _ (un.frzs c ob _ z)).1
          rw [e] at e1
          cases e1
          exact e2

theorem lawG {CX : CXT} {k : Nat} {fa : Addr} {fd : FuncData} {x : Str} {sp : Sp} {vs : List Value} {ns : List Int} (KX : K.In s.heap) (g : s.heap.Ns mainGlobals mg) (b : s.heap.Ns builtinsNs mb)
    (bb : ∀ x : Str, x ≠ "__name__" → mb x = bootBuiltins x) (lim : s.heap.NoLimit) (hg : s.gens = #[]) (ha : s.heap.get? a = some { cls := .type "list", data := .seq vs.toArray }) (hi : IntsAre vs ns) (hl : ns.length ≤ sizeLine)
    (gu : callerA.guards = some []) (hr : Room k callerA) (F : ∀ base : Heap, K.In base → base.Ns mainGlobals mg → FnG P w K mg base CX k fa fd [x] sp) (bnd : ∀ (s : Shared) (u : Value), BindsTo s fd ⟨[u], []⟩ [(x, u)])
    (hs : ∀ H : Hp, Only H → SqL K H a (ns.map V.int) → sp [.ref a] H (fun v _ => v = .bl true) fun _ _ _ => False) (hCX : ∀ H e s', CX [] H s (fun _ _ _ => False) e s' → False) :
    codeAny (model P w) callerA (.call (.ref fa) ⟨[.ref a], []⟩) (fun r s' => r = .ok (.ret (.bool true)) ∧ OldK s.heap s'.heap ∧ s'.os = s.os ∧ AllBare s'.gens) s := by
  have rv := vals_ints hi
  have nd : ∀ es n, ({ cls := .type "list", data := .seq vs.toArray } : Obj).data ≠ .dict es n := fun es n z => nomatch z
  cases hk : K.lookup a with
  | some o =>
    have e := KX a o hk
    rw [ha] at e
    cases e
    have sq : SqL K (fun _ => none) a (ns.map V.int) := Or.inr ⟨_, vs.toArray, _, hk, rfl, rfl, rfl, (by rw [List.size_toArray, hi.length]; exact hl), (by simpa using rv)⟩
    have on : Only (fun _ => none) := fun _ => Or.inl rfl
    exact lone_run (H := fun _ => none) (fun b z => absurd rfl z) ha nd KX (fun z => absurd rfl z) g b bb lim hg on (fun c u z => nomatch z) gu hr F bnd (hs _ on sq) (hCX _)
  | none =>
    have on : Only (upd (fun _ => none) a (.frz { cls := .type "list", data := .seq vs.toArray } (.lst (ns.map V.int)))) := fun c => by
      by_cases z : c = a
      · rw [z]
        exact Or.inr ⟨_, _, upd_same⟩
      · exact Or.inl (upd_ne z)
    refine lone_run (a := a) (fun c z => ?_) ha nd KX (fun _ => hk) g b bb lim hg on (fun c u z => ?_) gu hr F bnd (hs _ on (.inl (.inr ⟨_, upd_same⟩))) (hCX _)
    · by_cases y : c = a
      · exact y
      · exact (z (upd_ne y)).elim
    · by_cases y : c = a
      · rw [y, upd_same] at z
        cases z
        rw [y]
        exact ⟨ha, by rw [List.length_map]; exact hl, vs, _, rv, ha⟩
      · rw [upd_ne y] at z
        cases z
end

/-- the row's walk -/
theorem walkG {l : PySem.W.OpenLaw} {n k : Nat} {q : Program} {loose : List Str} {XP : (Str → Option Value) → Heap → Prop} {YP : World → Heap → Prop} {d : DefRec} {K : Params → PySem.W.Frag} {sp : PySem.W.Frag → Sp} {x : Str}
    (hn : l.most = some n) (hn2 : n ≤ sizeLine) (hdf : d.params.defaults = []) (gu : callerA.guards = some []) (hr : Room k callerA) (hY : ∀ (w : World) (h : Heap), YP w h → (K w.params).In h)
    (F : ∀ (w : World) (mg : Str → Option Value) (fa : Addr) (h : Heap), (K w.params).In h → h.Ns mainGlobals mg → mg d.name = some (.ref fa) →
      ∃ fd : FuncData, (∀ (s : Shared) (u : Value), BindsTo s fd ⟨[u], []⟩ [(x, u)]) ∧ ∀ base : Heap, (K w.params).In base → base.Ns mainGlobals mg → FnG l.prog w (K w.params) mg base CX0 k fa fd [x] (sp (K w.params)))
    (hs : ∀ (K : PySem.W.Frag) (H : Hp) (a : Addr) (ns : List Int), ns.length ≤ n → Only H → SqL K H a (ns.map V.int) → sp K [.ref a] H (fun v _ => v = .bl true) fun _ _ _ => False) :
    PySem.W.WalkO q loose XP YP l.row.toRowW d [] (fun f vs => PySem.call f vs) := by
  refine Att.attach_call hn hdf ?_
  intro w s0 s1 mg mb fa o pm cd doc a vs ns G Y ho hd hcd hmg hobj hints hlen hg
  have KX := hY w s1.heap Y
  obtain ⟨fd, bnd, FF⟩ := F w mg fa s1.heap KX G.T.g hmg
  exact lawG KX G.T.g G.T.b G.T.builtins G.T.nolimit hg hobj hints (Nat.le_trans hlen hn2) gu hr FF bnd (fun H on sq => hs (K w.params) H a ns hlen on sq) (fun _ _ _ z => z)
end Rw

set_option Elab.async false
set_option linter.all false
set_option maxRecDepth 100000
set_option maxHeartbeats 4000000
/-! TkC: data with dicts among them; repr of data. -/
namespace Rw
open PySem PySem.Spec PyProof.Rows L2

/-- how a dict's key reads -/
def keyD : Key → PyData
  | .inl i => .int i
  | .inr x => .str x
mutual
/-- what v is, as data: lists and tuples that are tracked, dicts with keys that are ints or texts -/
inductive Any (H : Hp) : V → PyData → Prop
  | non : Any H .non .none
  | bl (b : Bool) : Any H (.bl b) (.bool b)
  | int (i : Int) : Any H (.int i) (.int i)
  | str (x : Str) : Any H (.str x) (.str x)
  | lst {a : Addr} {xs : List V} {ds : List PyData} : H a = some (.lst xs) → AnyL H xs ds → Any H (.ref a) (.list ds)
  | tup {a : Addr} {xs : List V} {ds : List PyData} : H a = some (.tup xs) → AnyL H xs ds → Any H (.ref a) (.tuple ds)
  | dct {a : Addr} {kvs : List (Key × V)} {ds : List (PyData × PyData)} : H a = some (.dK kvs) → AnyK H kvs ds → Any H (.ref a) (.dict ds)
inductive AnyL (H : Hp) : List V → List PyData → Prop
  | nil : AnyL H [] []
  | cons {v : V} {vs : List V} {d : PyData} {ds : List PyData} : Any H v d → AnyL H vs ds → AnyL H (v :: vs) (d :: ds)
inductive AnyK (H : Hp) : List (Key × V) → List (PyData × PyData) → Prop
  | nil : AnyK H [] []
  | cons {k : Key} {v : V} {vs : List (Key × V)} {d : PyData} {ds : List (PyData × PyData)} : Any H v d → AnyK H vs ds → AnyK H ((k, v) :: vs) ((keyD k, d) :: ds)
end

/-! ### how such data is shown -/
section
variable {prog : Program} {w : World} {h : Heap}
/-- u lies as the data d in h, and is shown by repr -/
def Shows (prog : Program) (w : World) (h : Heap) (u : Value) (d : PyData) : Prop := ∃ as, Reads h u d as ∧ ∃ bs, ReadAtMost h d.depth bs ∧ ReprK prog w bs h d.depth u d.shown
def ShowsL (prog : Program) (w : World) (h : Heap) (us : List Value) (ds : List PyData) : Prop := ∃ as, ReadsAll h us ds as ∧ ∃ bs, ReadAtMost h (PyData.depthAll ds) bs ∧ ReprAllK prog w bs h (PyData.depthAll ds) us (PyData.shownAll ds)
theorem shows_flat {u : Value} {d : PyData} (r : Reads h u d []) (k : ReprIs prog w u d.shown) : Shows prog w h u d := ⟨[], r, [], fun _ z => (nomatch z), ReprK.of_is k [] h d.depth⟩
theorem showsL_nil : ShowsL prog w h [] [] := ⟨[], .nil, [], fun _ z => (nomatch z), by simp only [PyData.shownAll]; exact .nil⟩
theorem showsL_cons {u : Value} {d : PyData} {us : List Value} {ds : List PyData} (x : Shows prog w h u d) (y : ShowsL prog w h us ds) : ShowsL prog w h (u :: us) (d :: ds) := by
  obtain ⟨a1, r1, b1, m1, k1⟩ := x
  obtain ⟨a2, r2, b2, m2, k2⟩ := y
  have e : PyData.depthAll (d :: ds) = max d.depth (PyData.depthAll ds) := by simp only [PyData.depthAll]
  have l1 : d.depth ≤ max d.depth (PyData.depthAll ds) := Nat.le_max_left _ _
  have l2 : PyData.depthAll ds ≤ max d.depth (PyData.depthAll ds) := Nat.le_max_right _ _
  refine ⟨a1 ++ a2, .cons r1 r2, b1 ++ b2, ?_, ?_⟩
  · rw [e]
    exact ReadAtMost.append (m1.mono l1) (m2.mono l2)
  · rw [e]
    simp only [PyData.shownAll]
    exact .cons (ReprK.level_le (ReprK.more k1 fun b z => List.mem_append_left b2 z) l1) (ReprAllK.more_le (fun b z => List.mem_append_right b1 z) l2 k2)
theorem shown_le {ds : List PyData} {n : Nat} (z : ∀ t ∈ PyData.shownAll ds, t.length ≤ n) : ∀ d ∈ ds, d.shown.length ≤ n := by
  induction ds with
  | nil => intro d hd; cases hd
  | cons c cs ih =>
    intro d hd
    simp only [PyData.shownAll] at z
    rcases List.mem_cons.mp hd with e | e
    · rw [e]
      exact z _ List.mem_cons_self
    · exact ih (fun t ht => z t (List.mem_cons_of_mem _ ht)) d e
/-- the parts of a list -/
structure ListAt (h : Heap) (a : Addr) (us : List Value) (o : Obj) (n : Nat) : Prop where
  get : h.get? a = some o
  cls : o.cls = .type "list"
  dat : o.data = .seq us.toArray n
structure TupleAt (h : Heap) (a : Addr) (us : List Value) (o : Obj) (n : Nat) : Prop where
  get : h.get? a = some o
  cls : o.cls = .type "tuple"
  dat : o.data = .seq us.toArray n
structure DictAt' (h : Heap) (a : Addr) (es : Array DictEntry) (o : Obj) (n : Nat) : Prop where
  get : h.get? a = some o
  cls : o.cls = .type "dict"
  dat : o.data = .dict es n
  off : (a == sysModules) = false
theorem list_reads {a : Addr} {us : List Value} {o : Obj} {n : Nat} {ds : List PyData} {as : List Addr} (L : ListAt h a us o n) (r : ReadsAll h us ds as) : Reads h (.ref a) (.list ds) (a :: as) := .list L.get L.cls L.dat r
theorem tuple_reads {a : Addr} {us : List Value} {o : Obj} {n : Nat} {ds : List PyData} {as : List Addr} (L : TupleAt h a us o n) (r : ReadsAll h us ds as) : Reads h (.ref a) (.tuple ds) as := .tuple L.get L.cls L.dat r
theorem off_of {a : Addr} {d : PyData} {as bs : List Addr} {m : Nat} (r : Reads h (.ref a) d as) (e : d.depth = m + 1) (k : ReadAtMost h m bs) : a ∉ bs := not_mem_of_deeper r (by omega) k
theorem shows_list {a : Addr} {us : List Value} {o : Obj} {n : Nat} {ds : List PyData} (L : ListAt h a us o n) (x : ShowsL prog w h us ds) : Shows prog w h (.ref a) (.list ds) := by
  obtain ⟨as, r, bs, m, k⟩ := x
  have R := list_reads L r
  have dp : (PyData.list ds).depth = PyData.depthAll ds + 1 := by simp only [PyData.depth]
  refine ⟨_, R, a :: bs, ReadAtMost.cons R (by omega) m, ?_⟩
  rw [dp]
  simp only [PyData.shown]
  cases us with
  | nil =>
    cases r
    simp only [PyData.shownAll, listText_nil]
    exact ReprK.listEmpty L.get L.cls L.dat
  | cons u us => exact ReprK.list L.get L.cls L.dat (off_of R dp m) (by simpa using k.length_eq) (fun i y e => k.item i y (by simpa using e))
theorem shows_tuple {a : Addr} {us : List Value} {o : Obj} {n : Nat} {ds : List PyData} (L : TupleAt h a us o n) (x : ShowsL prog w h us ds) : Shows prog w h (.ref a) (.tuple ds) := by
  obtain ⟨as, r, bs, m, k⟩ := x
  have R := tuple_reads L r
  have dp : (PyData.tuple ds).depth = PyData.depthAll ds + 1 := by simp only [PyData.depth]
  refine ⟨_, R, a :: bs, ReadAtMost.cons R (by omega) m, ?_⟩
  rw [dp]
  simp only [PyData.shown]
  exact ReprK.tuple L.get L.cls L.dat (off_of R dp m) k
theorem shows_dict {a : Addr} {es : Array DictEntry} {o : Obj} {n : Nat} {kvs : List (PyData × PyData)} (L : DictAt' h a es o n) (x : ShowsL prog w h (es.toList.map (·.key)) (kvs.map (·.1))) (y : ShowsL prog w h (es.toList.map (·.val)) (kvs.map (·.2))) :
    (∃ as, Reads h (.ref a) (.dict kvs) as) ∧ (∃ bs, ReadAtMost h (PyData.depthKv kvs) bs ∧ a ∉ bs ∧ ReprEntriesK prog w bs h (PyData.depthKv kvs) es.toList (PyData.shownKv kvs)) := by
  obtain ⟨a1, r1, b1, m1, k1⟩ := x
  obtain ⟨a2, r2, b2, m2, k2⟩ := y
  have R : Reads h (.ref a) (.dict kvs) (a :: a1 ++ a2) := .dict L.get L.cls L.dat r1 r2
  have dp : (PyData.dict kvs).depth = PyData.depthKv kvs + 1 := by simp only [PyData.depth]
  have m : ReadAtMost h (PyData.depthKv kvs) (b1 ++ b2) := ReadAtMost.append (m1.mono (PyData.depthAll_keys_le kvs)) (m2.mono (PyData.depthAll_vals_le kvs))
  refine ⟨⟨_, R⟩, b1 ++ b2, m, off_of R dp m, ?_⟩
  rw [PyData.shownKv_eq]
  have j1 := ReprAllK.more_le (fun b z => List.mem_append_left b2 z) (PyData.depthAll_keys_le kvs) k1
  have j2 := ReprAllK.more_le (fun b z => List.mem_append_right b1 z) (PyData.depthAll_vals_le kvs) k2
  exact ReprEntriesK.of_two es.toList _ _ j1 j2
theorem shows_dict' {a : Addr} {es : Array DictEntry} {o : Obj} {n : Nat} {kvs : List (PyData × PyData)} (L : DictAt' h a es o n) (x : ShowsL prog w h (es.toList.map (·.key)) (kvs.map (·.1))) (y : ShowsL prog w h (es.toList.map (·.val)) (kvs.map (·.2))) :
    Shows prog w h (.ref a) (.dict kvs) := by
  obtain ⟨⟨as, R⟩, bs, m, na, k⟩ := shows_dict L x y
  have dp : (PyData.dict kvs).depth = PyData.depthKv kvs + 1 := by simp only [PyData.depth]
  refine ⟨as, R, a :: bs, ReadAtMost.cons R (by omega) m, ?_⟩
  rw [dp]
  simp only [PyData.shown]
  exact ReprK.dict L.get L.cls L.dat L.off na k
end

section
variable {X : Cx} {pins : List (Addr × Obj)} {σ : L2.St} {H : Hp} {s : Shared}
theorem key_shows {P : Program} {w : World} {h : Heap} (k : Key) (v : Value) (hk : (mixKind P w).is k v = true) (hs : (keyD k).showable = true) (hz : (keyD k).shown.length ≤ sizeLine) : Shows P w h v (keyD k) := by
  rcases keyIs_shape hk with ⟨i, t, e1, e2⟩ | ⟨x, t, e1, e2⟩
  · subst e1 e2
    refine shows_flat (.int i t) ?_
    simp only [keyD, PyData.shown]
    exact ReprIs.int t (by simpa [keyD, PyData.showable] using hs)
  · subst e1 e2
    refine shows_flat (.str x t) ?_
    simp only [keyD, PyData.shown]
    exact ReprIs.str x t (by simpa only [keyD, PyData.shown] using hz)
theorem lst_at (I : Inv X pins σ H s) {a : Addr} {xs : List V} (e : H a = some (.lst xs)) : ∃ us o n, ListAt s.heap a us o n ∧ Vals xs us := by
  obtain ⟨_, its, n, rv, g⟩ := (show ObjOk X.prog X.w H s.heap a (.lst xs) from I.hok a _ e)
  exact ⟨its, _, n, ⟨g, rfl, rfl⟩, rv⟩
theorem tup_at (I : Inv X pins σ H s) {a : Addr} {xs : List V} (e : H a = some (.tup xs)) : ∃ us o n, TupleAt s.heap a us o n ∧ Vals xs us := by
  obtain ⟨_, its, rv, o, g, c, n, dt⟩ := (show ObjOk X.prog X.w H s.heap a (.tup xs) from I.hok a _ e)
  exact ⟨its, o, n, ⟨g, c, dt⟩, rv⟩
theorem dct_at (I : Inv X pins σ H s) {a : Addr} {kvs : List (Key × V)} (e : H a = some (.dK kvs)) : ∃ vs es o n, DictAt' s.heap a es o n ∧ KV kvs vs ∧ Pairs (mixKind X.prog X.w) es.toList vs := by
  obtain ⟨_, off, vs, rel, o, es, n, g, c, dt, _, p, _⟩ := (show ObjOk X.prog X.w H s.heap a (.dK kvs) from I.hok a _ e)
  exact ⟨vs, es, o, n, ⟨g, c.1, dt, off⟩, rel, p⟩
mutual
theorem any_shows (I : Inv X pins σ H s) : ∀ (d : PyData) (v : V) (u : Value), Any H v d → RelV v u → d.showable = true → d.shown.length ≤ sizeLine → Shows X.prog X.w s.heap u d
  | .none, v, u, h, r, _, _ => by
    cases h
    cases (show u = Value.none from r)
    exact shows_flat .none (by simp only [PyData.shown]; exact ReprIs.none)
  | .bool b, v, u, h, r, _, _ => by
    cases h
    cases (show u = Value.bool b from r)
    exact shows_flat (.bool b) (by simp only [PyData.shown]; exact ReprIs.bool b)
  | .int i, v, u, h, r, sh, _ => by
    cases h
    obtain ⟨t, e⟩ := (show ∃ t, u = Value.int i t from r)
    rw [e]
    exact shows_flat (.int i t) (by simp only [PyData.shown]; exact ReprIs.int t (by simpa [PyData.showable] using sh))
  | .str x, v, u, h, r, _, sz => by
    cases h
    obtain ⟨t, e⟩ := (show ∃ t, u = Value.str x t from r)
    rw [e]
    exact shows_flat (.str x t) (by simp only [PyData.shown]; exact ReprIs.str x t (by simpa only [PyData.shown] using sz))
  | .list ds, v, u, h, r, sh, sz => by
    cases h with
    | lst ea ha =>
      rename_i a xs
      cases (show u = Value.ref a from r)
      obtain ⟨us, o, n, L, rv⟩ := lst_at I ea
      have z : (listText (PyData.shownAll ds)).length ≤ sizeLine := by simpa only [PyData.shown] using sz
      exact shows_list L (any_showsL I ds xs us ha rv (by simpa [PyData.showable] using sh) fun t ht => Nat.le_trans (listText_mem_le ht) z)
  | .tuple ds, v, u, h, r, sh, sz => by
    cases h with
    | tup ea ha =>
      rename_i a xs
      cases (show u = Value.ref a from r)
      obtain ⟨us, o, n, L, rv⟩ := tup_at I ea
      have z : (tupleText (PyData.shownAll ds)).length ≤ sizeLine := by simpa only [PyData.shown] using sz
      exact shows_tuple L (any_showsL I ds xs us ha rv (by simpa [PyData.showable] using sh) fun t ht => Nat.le_trans (tupleText_mem_le ht) z)
  | .dict ds, v, u, h, r, sh, sz => by
    cases h with
    | dct ea ha =>
      rename_i a kvs
      cases (show u = Value.ref a from r)
      obtain ⟨vs, es, o, n, L, rel, p⟩ := dct_at I ea
      have z : (dictText (PyData.shownKv ds)).length ≤ sizeLine := by simpa only [PyData.shown] using sz
      obtain ⟨x, y⟩ := any_showsK I ds kvs vs es.toList ha rel p (by simpa [PyData.showable] using sh) fun t ht => Nat.le_trans (dictText_mem_le ht) z
      exact shows_dict' L x y
theorem any_showsL (I : Inv X pins σ H s) : ∀ (ds : List PyData) (vs : List V) (us : List Value), AnyL H vs ds → Vals vs us → PyData.showableAll ds = true → (∀ t ∈ PyData.shownAll ds, t.length ≤ sizeLine) → ShowsL X.prog X.w s.heap us ds
  | [], vs, us, h, r, _, _ => by
    cases h
    cases r
    exact showsL_nil
  | d :: ds, vs, us, h, r, sh, sz => by
    have sh' : d.showable = true ∧ PyData.showableAll ds = true := by simpa [PyData.showableAll] using sh
    simp only [PyData.shownAll] at sz
    cases h with
    | cons h1 h2 =>
      cases r with
      | cons r1 r2 => exact showsL_cons (any_shows I d _ _ h1 r1 sh'.1 (sz _ List.mem_cons_self)) (any_showsL I ds _ _ h2 r2 sh'.2 fun t ht => sz t (List.mem_cons_of_mem _ ht))
theorem any_showsK (I : Inv X pins σ H s) : ∀ (ds : List (PyData × PyData)) (kvs : List (Key × V)) (us : List (Key × Value)) (es : List DictEntry), AnyK H kvs ds → KV kvs us → Pairs (mixKind X.prog X.w) es us → PyData.showableKv ds = true →
    (∀ t ∈ PyData.shownKv ds, t.length ≤ sizeLine) → ShowsL X.prog X.w s.heap (es.map (·.key)) (ds.map (·.1)) ∧ ShowsL X.prog X.w s.heap (es.map (·.val)) (ds.map (·.2))
  | [], vs, us, es, h, r, p, _, _ => by
    cases h
    cases r
    cases p
    exact ⟨showsL_nil, showsL_nil⟩
  | (kd, d) :: ds, vs, us, es, h, r, p, sh, sz => by
    have sh' : (kd.showable = true ∧ d.showable = true) ∧ PyData.showableKv ds = true := by simpa [PyData.showableKv] using sh
    simp only [PyData.shownKv] at sz
    have top := sz _ List.mem_cons_self
    rw [strLen_append, strLen_append] at top
    cases h with
    | cons h1 h2 =>
      cases r with
      | cons r1 r2 =>
        rename_i k v vs' q us'
        obtain ⟨kq, uq⟩ := q
        obtain ⟨ek, r1⟩ := r1
        cases (show k = kq from ek)
        cases p with
        | cons hk hv hp =>
          obtain ⟨x, y⟩ := any_showsK I ds _ _ _ h2 r2 hp sh'.2 fun t ht => sz t (List.mem_cons_of_mem _ ht)
          refine ⟨showsL_cons (key_shows k _ hk sh'.1.1 (by omega)) x, ?_⟩
          have e := any_shows I d _ _ h1 r1 sh'.1.2 (by omega)
          rw [← hv] at e
          exact showsL_cons e y
end
/-- repr of data that lies at an address -/
def rRepr : List V → Hp → VK → Prop := fun xs H Q => ∃ (a : Addr) (d : PyData), xs = [.ref a] ∧ Any H (.ref a) d ∧ d.showable = true ∧ d.depth ≤ 60 ∧ d.shown.length ≤ sizeLine ∧ Q (.str d.shown) H
theorem call_repr (gu : X.A.guards = some []) (hu : X.A.units + 64 < cLine) : CallR X (.builtin "repr") rRepr := by
  intro pins s σ H xs us Q I r h
  obtain ⟨a, d, e, an, sh, dp, sz, q⟩ := h
  subst e
  obtain ⟨u, e, ru⟩ := vals1 r
  subst e
  cases (show u = Value.ref a from ru)
  have fin : ∀ h' u tk, (∀ b o, s.heap.get? b = some o → h'.get? b = some o) → EP X pins σ Q (.str d.shown u) { s with heap := h', toks := tk } := fun h' t tk keep => ⟨V.str d.shown, H, Inv.kept I keep, ⟨t, rfl⟩, q⟩
  have gu1 : X.A.in1.guards = some [] := gu
  have un1 : X.A.in1.units = X.A.units + 1 := rfl
  cases an with
  | lst ea ha =>
    rename_i xs ds
    obtain ⟨us, o, n, L, rv⟩ := lst_at I ea
    have z : (listText (PyData.shownAll ds)).length ≤ sizeLine := by simpa only [PyData.shown] using sz
    have D : (PyData.list ds).depth = PyData.depthAll ds + 1 := by simp only [PyData.depth]
    obtain ⟨as, rd, bs, m, k⟩ := any_showsL I ds xs us ha rv (by simpa [PyData.showable] using sh) fun t ht => Nat.le_trans (listText_mem_le ht) z
    have ty : s.TypeIs (.ref a) "list" := ⟨o, L.get, L.cls⟩
    refine call_repr_slot (by omega) ty F.slot_list_repr.toG ?_
    simp only [PyData.shown] at fin
    cases us with
    | nil =>
      cases rd
      simp only [PyData.shownAll, listText_nil] at fin
      exact call_list_repr_empty ty L.get L.dat ⟨_, _, rfl, fin s.heap _ _ fun _ _ z => z⟩
    | cons u us => exact call_list_reprK L.get L.cls L.dat (off_of (list_reads L rd) D m) (by simpa using k.length_eq) (fun i y e => k.item i y (by simpa using e)) gu1 (fun b _ => Clear.nil b) (by omega) (fun _ _ z => z) (fun h' t tk keep => ⟨_, _, rfl, fin h' t tk keep⟩) z
  | tup ea ha =>
    rename_i xs ds
    obtain ⟨us, o, n, L, rv⟩ := tup_at I ea
    have z : (tupleText (PyData.shownAll ds)).length ≤ sizeLine := by simpa only [PyData.shown] using sz
    have D : (PyData.tuple ds).depth = PyData.depthAll ds + 1 := by simp only [PyData.depth]
    obtain ⟨as, rd, bs, m, k⟩ := any_showsL I ds xs us ha rv (by simpa [PyData.showable] using sh) fun t ht => Nat.le_trans (tupleText_mem_le ht) z
    refine call_repr_slot (by omega) ⟨o, L.get, L.cls⟩ F.slot_tuple_repr ?_
    simp only [PyData.shown] at fin
    exact call_tuple_reprK L.get L.cls L.dat (off_of (tuple_reads L rd) D m) k gu1 (fun b _ => Clear.nil b) (by omega) (fun _ _ z => z) (fun h' t tk keep => ⟨_, _, rfl, fin h' t tk keep⟩) z
  | dct ea ha =>
    rename_i kvs ds
    obtain ⟨vs, es, o, n, L, rel, p⟩ := dct_at I ea
    have z : (dictText (PyData.shownKv ds)).length ≤ sizeLine := by simpa only [PyData.shown] using sz
    have D : (PyData.dict ds).depth = PyData.depthKv ds + 1 := by simp only [PyData.depth]
    obtain ⟨x, y⟩ := any_showsK I ds kvs vs es.toList ha rel p (by simpa [PyData.showable] using sh) fun t ht => Nat.le_trans (dictText_mem_le ht) z
    obtain ⟨_, bs, m, na, k⟩ := shows_dict L x y
    refine call_repr_slot (by omega) ⟨o, L.get, L.cls⟩ F.slot_dict_repr ?_
    simp only [PyData.shown] at fin
    exact call_dict_reprK L.get L.cls L.dat L.off na k gu1 (fun b _ => Clear.nil b) (by omega) (fun _ _ z => z) (fun h' t tk keep => ⟨_, _, rfl, fin h' t tk keep⟩) z
/-- repr of a truth value -/
def boolS (b : Bool) : Str := if b then "True" else "False"
theorem call_reprB : CallR X (.builtin "repr") (fun xs H Q => ∃ b, xs = [.bl b] ∧ Q (.str (boolS b)) H) := by
  intro pins s σ H xs us Q I r h
  obtain ⟨b, e, q⟩ := h
  subst e
  obtain ⟨u, e, ru⟩ := vals1 r
  subst e
  cases (show u = Value.bool b from ru)
  exact PySem.P.repr_of_bool ⟨V.str (boolS b), H, I.tok _, ⟨_, rfl⟩, q⟩
end
end Rw

set_option Elab.async false
set_option linter.all false
set_option maxRecDepth 100000
set_option maxHeartbeats 4000000
/-! TkD: try with several except clauses, each with a name or without. -/
namespace Rw
open PySem PySem.Spec PyProof.Rows L2

/-- a clause: its class, the slot of its name, its suite -/
structure Cl where
  c : Value
  slot : Option Nat
  ts : Addr → Value → Option Addr → TS
/-- the suite with the error at a, its name bound ahead of it and gone behind it -/
def Cl.run (q : Cl) (a : Addr) (cls : Value) (d : Option Addr) : TS := fun D σ H => match q.slot with
  | none => q.ts a cls d D σ H
  | some i => q.ts a cls d { nx := fun τ J => D.nx (τ.set i none) J, rt := D.rt, bk := fun τ J => D.bk (τ.set i none) J, ct := fun τ J => D.ct (τ.set i none) J } (σ.set i (some (.ref a))) H
/-- what the clauses wish of an error -/
def wCls (K : PySem.W.Frag) (Wo : WX) (D : Ends) : List Cl → WX
  | [] => Wo
  | q :: r => fun cls d σ H => ∃ b, PySem.W.exmOne K cls q.c = some b ∧ (b = true → ∀ a, H a = none → q.run a cls d D σ H) ∧ (b = false → wCls K Wo D r cls d σ H)
def SuiteOk (X : Cx) (sts : List Stmt) (ts : Addr → Value → Option Addr → TS) : Prop :=
  ∀ (a : Addr) (oe : Obj) (cls : Value) (d : Option Addr) (pn : List (Addr × Obj)), Zc cls d oe → (∃ vs, oe.data = .fields vs) → PSs (X.suite a ((a, oe) :: pn)) sts (ts a cls d)
inductive ClsOk (X : Cx) : List ExceptHandler → List Cl → Prop
  | nil : ClsOk X [] []
  | anon {x : Str} {c : Value} {ts : Addr → Value → Option Addr → TS} {st : Stmt} {sts : List Stmt} {np hp : Pos} {hs : List ExceptHandler} {l : List Cl} (hc : Names X x c) (ok : SuiteOk X (st :: sts) ts) (r : ClsOk X hs l) :
      ClsOk X (.ExceptHandler (some (.Name x np)) none (st :: sts) hp :: hs) (⟨c, none, ts⟩ :: l)
  | as {x n : Str} {i : Nat} {c : Value} {ts : Addr → Value → Option Addr → TS} {st : Stmt} {sts : List Stmt} {np hp : Pos} {hs : List ExceptHandler} {l : List Cl} (hi : X.N[i]? = some n) (hl : X.env.kindOf n = some .local) (hc : Names X x c)
      (ok : SuiteOk X (st :: sts) ts) (r : ClsOk X hs l) : ClsOk X (.ExceptHandler (some (.Name x np)) (some n) (st :: sts) hp :: hs) (⟨c, some i, ts⟩ :: l)

section
variable {X : Cx}
/-- what stands when an error has landed in this frame -/
structure Down (X : Cx) (B : Heap) (pins : List (Addr × Obj)) (σ : L2.St) (H : Hp) (a : Addr) (cls : Value) (d : Option Addr) (sI s : Shared) : Prop where
  inv : Inv X pins σ H sI
  nb : ∀ b o, sI.heap.get? b = some o → b ∉ frs X.stack → B.get? b = some o
  os : s.os = sI.os
  ag : AllBare s.gens
  free : H a = none
  up : sI.heap.UpToSlots s.heap
  fly : HandSPX.FlyingZ B (X.env :: X.outer) a (Zc cls d) s.heap
theorem Down.goes {B : Heap} {pins : List (Addr × Obj)} {σ : L2.St} {H : Hp} {a : Addr} {cls : Value} {d : Option Addr} {sI s : Shared} (W : Down X B pins σ H a cls d sI s) : Inv X pins σ H s :=
  Inv.landed W.inv W.nb W.fly.1 W.up W.os W.ag
theorem Down.more {B : Heap} {pins : List (Addr × Obj)} {σ : L2.St} {H : Hp} {a : Addr} {cls : Value} {d : Option Addr} {sI s : Shared} {h : Heap} (W : Down X B pins σ H a cls d sI s)
    (fl : HandSPX.FlyingZ B (X.env :: X.outer) a (Zc cls d) h) (u : s.heap.UpToSlots h) : Down X B pins σ H a cls d sI { s with heap := h } :=
  ⟨W.inv, W.nb, W.os, W.ag, W.free, Heap.UpToSlots.trans W.up u, fl⟩
/-- the error's own object: none of the frames -/
theorem Down.off {B : Heap} {pins : List (Addr × Obj)} {σ : L2.St} {H : Hp} {a : Addr} {cls : Value} {d : Option Addr} {sI s : Shared} (W : Down X B pins σ H a cls d sI s) (hf : X.env.frame = some X.env.locals) :
    a ≠ X.env.locals ∧ a ∉ X.fs := by
  obtain ⟨oe, vs, he, _, hd⟩ := W.fly.there
  have no : a ∉ frs (X.env :: X.outer) := fun hm => by
    obtain ⟨_, o, e, nf⟩ := Heap.FunFrames.mem W.fly.2.2.1 hm
    rw [he] at e
    cases e
    exact nf vs hd
  constructor
  · intro z
    exact no (List.mem_filterMap.mpr ⟨X.env, List.mem_cons_self, hf.trans (congrArg some z.symm)⟩)
  · intro hm
    obtain ⟨e, he, q⟩ := List.mem_filterMap.mp hm
    exact no (List.mem_filterMap.mpr ⟨e, List.mem_cons_of_mem X.env he, q⟩)
/-- in the suite -/
theorem Down.suite {B : Heap} {pins : List (Addr × Obj)} {σ : L2.St} {H : Hp} {a : Addr} {cls : Value} {d : Option Addr} {sI s : Shared} (W : Down X B pins σ H a cls d sI s) (hf : X.env.frame = some X.env.locals) :
    ∃ oe : Obj, s.heap.get? a = some oe ∧ Zc cls d oe ∧ (∃ vs, oe.data = .fields vs) ∧ Inv (X.suite a ((a, oe) :: (X.pn ++ pins))) [] σ H s := by
  obtain ⟨oe, vs, he, hz, hd⟩ := W.fly.there
  obtain ⟨n1, n2⟩ := W.off hf
  exact ⟨oe, he, hz, ⟨vs, hd⟩, Inv.suite W.goes he hd W.free n1 n2⟩

/-- the class of a clause is looked up, and asked -/
theorem Down.asks {B : Heap} {pins : List (Addr × Obj)} {σ : L2.St} {H : Hp} {a : Addr} {cls c : Value} {d : Option Addr} {sI s : Shared} {x : Str} {np : Pos} {b : Bool} {E : Value → Shared → Prop} {Q : Bool → Shared → Prop}
    (W : Down X B pins σ H a cls d sI s) (hf : X.env.frame = some X.env.locals) (hc : Names X x c) (hb : PySem.W.exmOne X.K cls c = some b) (q : Q b s) :
    wpAny (model X.prog X.w) (X.A.mark (some (.ref a))) (eval (.Name x np) X.env) (fun v s' => v = c ∧ s' = s) E s := by
  obtain ⟨oe, he, hz, _, S⟩ := W.suite hf
  obtain ⟨hg, hdbg, hm⟩ := hc
  rcases hm with hm | ⟨hm, hv, hn⟩
  · exact ld_glob (X := X.suite a ((a, oe) :: (X.pn ++ pins))) S hg hm ⟨rfl, rfl⟩ hdbg
  · exact ld_blt (X := X.suite a ((a, oe) :: (X.pn ++ pins))) S hg hm hv ⟨rfl, rfl⟩ hn hdbg

/-- the clauses, one after the other -/
theorem Down.clauses {B : Heap} {pins : List (Addr × Obj)} {σ : L2.St} {H : Hp} {a : Addr} {cls : Value} {d : Option Addr} {sI : Shared} {Wo : WX} {D : Ends} (hs : X.stack = X.env :: X.outer) (hf : X.env.frame = some X.env.locals) (hN : X.N.Nodup) (tk : Takes X Wo) :
    ∀ {hds : List ExceptHandler} {l : List Cl}, ClsOk X hds l → ∀ {s : Shared}, Down X B pins σ H a cls d sI s → wCls X.K Wo D l cls d σ H → wpAny (model X.prog X.w) X.A (handleBy (.ref a) X.env hds) (SP X pins D) X.xe s := by
  intro hds l hk
  induction hk with
  | nil =>
    intro s W wish
    refine wpAny_handleBy_nil ?_
    obtain ⟨_, _, _, oe, vs, T, oT, ts, he, hz, hd, h1, hr⟩ := id W.fly
    have nT : ¬ ((Value.ref T == Value.none) = true) := by simp
    unfold PySem.passOn
    refine wpAny_bind (wpAny_field he hd h1 ?_)
    rw [if_neg nT]
    have out : wpAny (model X.prog X.w) X.A (setFlight (.ref a) X.env.frame) (fun _ s4 => wpAny (model X.prog X.w) X.A (throw (.ref a) : Sem Flow) (SP X pins D) X.xe s4) X.xe s := by
      rw [hf]
      refine HandSPX.setFlight_upZ W.fly ?_
      intro h4 hh4 up4
      refine wpAny_throw (tk (.ref a) _ ⟨a, B, sI, pins, σ, H, cls, d, rfl, W.inv, W.nb, W.up.trans up4, ?_, W.free, W.os, W.ag, wish⟩)
      rw [hs]
      exact Or.inr (Or.inr hh4)
    first
      | exact wpAny_bind (wpAny_pure (wpAny_bind out))
      | exact wpAny_bind out
  | @anon x c ts st sts np hp hs' l' hc ok r ih =>
    intro s W wish
    obtain ⟨b, hb, yes, no⟩ := wish
    refine wpAny_handleBy_cons (codeAny_handlers_test ?_) (fun q => nomatch q)
    refine wpAny_mono (W.asks (E := fun _ _ => False) (Q := fun _ _ => True) hf hc hb True.intro) ?_ (fun _ _ z => z.elim)
    rintro v s' ⟨rfl, rfl⟩
    obtain ⟨oe, he, hz, hd, S⟩ := W.suite hf
    have LT : PySem.W.Looks (model X.prog X.w) s'.heap (typeOf (.ref a)) cls := fun A Q E s2 k q => wpAny_typeOf_ref (k a oe he) (by rw [hz.1]; exact q)
    refine (PySem.W.exm_one (M := model X.prog X.w) S.kIn LT hb).here ?_
    cases b with
    | false => exact ih W (no rfl)
    | true =>
      refine codeAny_handlers_suite (HandSPX.lands_againZ W.fly ?_)
      intro h4 fl4 up4
      obtain ⟨oe4, he4, hz4, hd4, S4⟩ := (W.more fl4 up4).suite hf
      refine wpAny_mono (PSs.run (ok a oe4 cls d (X.pn ++ pins) hz4 hd4) [] _ σ H D S4 (yes rfl a W.free)) ?_ (fun _ _ z => z.elim)
      intro fl s6 hsp
      have ok0 := W.inv.ok
      cases fl with
      | ret u =>
        obtain ⟨v6, σ6, H6, S6, r6, q6⟩ := hsp
        exact ⟨v6, σ6, H6, Inv.unsuite S6 ok0, r6, q6⟩
      | next =>
        obtain ⟨σ6, H6, S6, q6⟩ := hsp
        exact ⟨σ6, H6, Inv.unsuite S6 ok0, q6⟩
      | brk =>
        obtain ⟨σ6, H6, S6, q6⟩ := hsp
        exact ⟨σ6, H6, Inv.unsuite S6 ok0, q6⟩
      | cont =>
        obtain ⟨σ6, H6, S6, q6⟩ := hsp
        exact ⟨σ6, H6, Inv.unsuite S6 ok0, q6⟩
  | @as x n i c ts st sts np hp hs' l' hi hl hc ok r ih =>
    intro s W wish
    obtain ⟨b, hb, yes, no⟩ := wish
    refine wpAny_handleBy_cons (codeAny_handlers_test ?_) (fun q => nomatch q)
    refine wpAny_mono (W.asks (E := fun _ _ => False) (Q := fun _ _ => True) hf hc hb True.intro) ?_ (fun _ _ z => z.elim)
    rintro v s' ⟨rfl, rfl⟩
    obtain ⟨oe, he, hz, hd, S⟩ := W.suite hf
    have LT : PySem.W.Looks (model X.prog X.w) s'.heap (typeOf (.ref a)) cls := fun A Q E s2 k q => wpAny_typeOf_ref (k a oe he) (by rw [hz.1]; exact q)
    refine (PySem.W.exm_one (M := model X.prog X.w) S.kIn LT hb).here ?_
    cases b with
    | false => exact ih W (no rfl)
    | true =>
      refine codeAny_handlers_suite_as (HandSPX.lands_againZ W.fly ?_)
      intro h4 fl4 up4
      obtain ⟨oe4, he4, hz4, hd4, S4⟩ := (W.more fl4 up4).suite hf
      have ok0 := W.inv.ok
      refine store_ok (X := X.suite a ((a, oe4) :: (X.pn ++ pins))) (v := .ref a) S4 hN hi (Or.inl hl) rfl ?_ (Or.inr hl)
      intro s5 S5
      refine wpAny_mono (PSs.run (ok a oe4 cls d (X.pn ++ pins) hz4 hd4) [] s5 _ H _ S5 (yes rfl a W.free)) ?_ (fun _ _ z => z.elim)
      intro fl s6 hsp
      have gone : ∀ {τ : L2.St} {J : Hp} {Q : Shared → Prop}, Inv (X.suite a ((a, oe4) :: (X.pn ++ pins))) [] τ J s6 → (∀ s7, Inv X pins (τ.set i none) J s7 → Q s7) →
          wpAny (model X.prog X.w) X.A (do bindName X.env n .none; unbindBehindTheSuite X.env n hp) (fun _ s7 => Q s7) X.xe s6 := by
        intro τ J Q S6 hq
        exact gone_ok (Inv.unsuite S6 ok0) hN hi hl hq
      cases fl with
      | ret u =>
        obtain ⟨v6, σ6, H6, S6, r6, q6⟩ := hsp
        exact gone S6 (fun s7 J7 => ⟨v6, _, H6, J7, r6, q6⟩)
      | next =>
        obtain ⟨σ6, H6, S6, q6⟩ := hsp
        exact gone S6 (fun s7 J7 => ⟨_, H6, J7, q6⟩)
      | brk =>
        obtain ⟨σ6, H6, S6, q6⟩ := hsp
        exact gone S6 (fun s7 J7 => ⟨_, H6, J7, q6⟩)
      | cont =>
        obtain ⟨σ6, H6, S6, q6⟩ := hsp
        exact gone S6 (fun s7 J7 => ⟨_, H6, J7, q6⟩)

/-- try: body / except ..: .. / except ..: .. -/
theorem ps_tries {body : List Stmt} {h0 : ExceptHandler} {hds : List ExceptHandler} {l : List Cl} {pos : Pos} {tb : WX → TS} {Wo : WX} (hs : X.stack = X.env :: X.outer) (hf : X.env.frame = some X.env.locals) (hN : X.N.Nodup) (tk : Takes X Wo)
    (hb : ∀ (W : WX) (pn : List (Addr × Obj)) (xe : Value → Shared → Prop), Takes (X.tr pn xe) W → PassesOwn (model X.prog X.w) X.A X.env xe → PSs (X.tr pn xe) body (tb W)) (hh : ClsOk X (h0 :: hds) l) :
    PS X (.Try body (h0 :: hds) [] [] pos) (fun D σ H => tb (wCls X.K Wo D l) D σ H) := by
  constructor
  intro pins s σ H D I h
  have ok0 := I.ok
  have fr : X.A.frames = some (X.env :: X.outer) := (Cx.Ok.frames ok0).trans (congrArg some hs)
  refine wpAny_Try_except ?_
  have land : ∀ (u : Value) (s' : Shared), XE (X.tr (X.pn ++ pins) (fun e s₁ => wpAny (model X.prog X.w) X.A (noteFrame e X.env) (fun _ s₂ => wpAny (model X.prog X.w) X.A (setFlight e none) (fun _ s₃ =>
      wpAny (model X.prog X.w) X.A (handleBy e X.env (h0 :: hds)) (SP X pins D) X.xe s₃) X.xe s₂) X.xe s₁)) (wCls X.K Wo D l) u s' →
      wpAny (model X.prog X.w) X.A (noteFrame u X.env) (fun _ s₂ => wpAny (model X.prog X.w) X.A (setFlight u none) (fun _ s₃ => wpAny (model X.prog X.w) X.A (handleBy u X.env (h0 :: hds)) (SP X pins D) X.xe s₃) X.xe s₂) X.xe s' := by
    intro u s' xx
    obtain ⟨a, B, sI, pins', τ, J, cls, d, eu, I', nb, up, sky, na, os, ag, wish⟩ := xx
    subst eu
    have sky2 : Sky B (X.env :: X.outer) a (Zc cls d) X.env.locals s'.heap := hs ▸ sky
    refine Sky.land Zc.steady fr hf sky2 ?_
    intro h3 fl3 up3
    exact Down.clauses hs hf hN tk hh ⟨Inv.ofTry I' ok0, nb, os, ag, na, up.trans up3, fl3⟩ wish
  refine wpAny_mono (PSs.run (hb (wCls X.K Wo D l) (X.pn ++ pins) _ land PassesOwn.looking) [] s σ H D (Inv.toTry I _) h) ?_ (fun e s1 he => he)
  intro fl s1 hsp
  cases fl with
  | ret u =>
    obtain ⟨v, τ, J, I', r, q⟩ := hsp
    exact ⟨v, τ, J, Inv.ofTry I' ok0, r, q⟩
  | next =>
    obtain ⟨τ, J, I', q⟩ := hsp
    exact wpAny_execs_nil ⟨τ, J, Inv.ofTry I' ok0, q⟩
  | brk =>
    obtain ⟨τ, J, I', q⟩ := hsp
    exact ⟨τ, J, Inv.ofTry I' ok0, q⟩
  | cont =>
    obtain ⟨τ, J, I', q⟩ := hsp
    exact ⟨τ, J, Inv.ofTry I' ok0, q⟩
end
end Rw

set_option Elab.async false
set_option linter.all false
set_option maxRecDepth 100000
set_option maxHeartbeats 4000000
/-! TkE: own defs by name (Own, OwnG), own errors with one value (Err), data kept over heaps, the kinds of things. -/
namespace Rw
open PySem PySem.Spec PyProof.Rows L2

/-! ### a def by its name -/
/-- x names a def that keeps sp when it is called with all but the values dvs -/
structure Own (P : Program) (w : World) (K : PySem.W.Frag) (mg : Str → Option Value) (base : Heap) (CX : CXT) (k : Nat) (x : Str) (ps : List Str) (dvs : List V) (sp : Sp) : Prop where
  has : ∃ (f : Addr) (fd : FuncData) (ds : List Value), mg x = some (.ref f) ∧ PySem.W.keepIn K (.ref f) = true ∧ FnOk P w K mg base CX k f fd ps sp ∧ Binds K fd ps ds ∧ Vals dvs ds
structure OwnG (P : Program) (w : World) (K : PySem.W.Frag) (mg : Str → Option Value) (base : Heap) (CX : CXT) (k : Nat) (x : Str) (ps : List Str) (dvs : List V) (sp : Sp) : Prop where
  has : ∃ (f : Addr) (fd : FuncData) (ds : List Value), mg x = some (.ref f) ∧ PySem.W.keepIn K (.ref f) = true ∧ FnG P w K mg base CX k f fd ps sp ∧ Binds K fd ps ds ∧ Vals dvs ds
/-- where a def of the text stands behind the top -/
structure Df (K : PySem.W.Frag) (mg : Str → Option Value) (x : Str) (st : Stmt) (ps : List Str) : Prop where
  has : ∃ (f : Addr) (fd : FuncData), mg x = some (.ref f) ∧ Fun K x x st f fd ∧ Binds K fd ps []
section
variable {P : Program} {w : World} {K : PySem.W.Frag} {mg : Str → Option Value} {base : Heap} {CX : CXT} {k : Nat} {x : Str} {ps : List Str} {dvs : List V} {sp : Sp} {st : Stmt}
theorem Df.own (D : Df K mg x st ps) (h : ∀ (f : Addr) (fd : FuncData), Fun K x x st f fd → FnOk P w K mg base CX k f fd ps sp) : Own P w K mg base CX k x ps [] sp := by
  obtain ⟨f, fd, g, F, b⟩ := D.has
  exact ⟨f, fd, [], g, F.kp, h f fd F, b, .nil⟩
theorem Df.ownG (D : Df K mg x st ps) (h : ∀ (f : Addr) (fd : FuncData), Fun K x x st f fd → FnG P w K mg base CX k f fd ps sp) : OwnG P w K mg base CX k x ps [] sp := by
  obtain ⟨f, fd, g, F, b⟩ := D.has
  exact ⟨f, fd, [], g, F.kp, h f fd F, b, .nil⟩
end
section
variable {X : Cx} {CX : CXT} {k : Nat} {ps : List Str} {sp : Sp} {dvs : List V} {E : XK} {x : Str} {p pos : Pos} {e : Expr} {es : List Expr} {t : TA}
theorem pe_own (F : Own X.prog X.w X.K X.mg X.base CX k x ps dvs sp) (hr : Room k X.A) (hx : Passes CX X E) (ha : PA X (e :: es) t) (hg : Gl X x := by rfl) (hdb : (x == ("__debug__" : Str)) = false := by decide)
    (he : starEach (e :: es) X.env = (false, eval e X.env) :: starEach es X.env := by rfl) (hpl : (backTo pos (starEach es X.env)).any (·.1) = false := by rfl) : PE X (.Call (.Name x p) (e :: es) [] pos) (tCall sp dvs E t) := by
  obtain ⟨f, fd, ds, hm, hk, G, b, v⟩ := F.has
  exact pe_call G hr hg hm hk b v hx ha hdb he hpl
theorem pe_ownG (F : OwnG X.prog X.w X.K X.mg X.base CX k x ps dvs sp) (gu : X.A.guards = some []) (hr : Room k X.A) (hx : Passes CX X E) (ha : PA X (e :: es) t) (hg : Gl X x := by rfl) (hdb : (x == ("__debug__" : Str)) = false := by decide)
    (he : starEach (e :: es) X.env = (false, eval e X.env) :: starEach es X.env := by rfl) (hpl : (backTo pos (starEach es X.env)).any (·.1) = false := by rfl) : PE X (.Call (.Name x p) (e :: es) [] pos) (tCall sp dvs E t) := by
  obtain ⟨f, fd, ds, hm, hk, G, b, v⟩ := F.has
  exact pe_callG G gu hr hg hm hk b v hx ha hdb he hpl
/-- such a call in a try's body: what is raised is wished for at the slots -/
def tOwnS (sp : Sp) (dvs : List V) (W : WX) (t : TA) : TE := fun σ H Q => t σ H fun vs H1 => sp (vs ++ dvs) H1 Q (fun cls d H' => W cls d σ H')
theorem pe_ownS {W : WX} (F : Own X.prog X.w X.K X.mg X.base CX k x ps dvs sp) (hr : Room k X.A) (hx : ∀ σ, PassesAt CX X σ (fun cls d H' => W cls d σ H')) (ha : PA X (e :: es) t) (hg : Gl X x := by rfl) (hdb : (x == ("__debug__" : Str)) = false := by decide)
    (he : starEach (e :: es) X.env = (false, eval e X.env) :: starEach es X.env := by rfl) (hpl : (backTo pos (starEach es X.env)).any (·.1) = false := by rfl) : PE X (.Call (.Name x p) (e :: es) [] pos) (tOwnS sp dvs W t) := by
  obtain ⟨f, fd, ds, hm, hk, G, b, v⟩ := F.has
  constructor
  intro pins s σ H Q I h
  refine wpAny_Call_Name_kw (ld_glob I hg hm ?_ hdb)
  refine PySem.W.callWith_K (h₀ := X.base) I.ok.mod.kin hk ?_ he hpl
  refine thn (PA.run ha pos pins s σ H _ I h) ?_
  intro us s1 hh
  obtain ⟨vs, H1, I1, r, q⟩ := hh
  refine ⟨I1.kIn, ?_⟩
  have r2 : Vals (vs ++ dvs) (us ++ ds) := Vals.append r v
  have cnt : (us ++ ds).length = ps.length := (r2.length).symm.trans (G.len _ _ _ _ q)
  refine wpAny_call (codeAny_mono (G.run X.A X.stack s1 H1 ⟨us, []⟩ (us ++ ds) (vs ++ dvs) Q _ hr I1.env0 (b s1 us I1.kIn cnt) r2 q) ?_)
  intro res s2 hq
  cases res with
  | error er => exact hx σ pins H1 s1 er s2 I1 hq
  | ok fl =>
    cases fl with
    | ret u => exact Inv.after I1 hq
    | next => exact hq.elim
    | brk => exact hq.elim
    | cont => exact hq.elim
end

/-! ### own errors: a class with __init__(self, value): self.value = value -/
/-- x names such a class, at C -/
structure Err (K : PySem.W.Frag) (mg : Str → Option Value) (x : Str) (C : Addr) : Prop where
  g : mg x = some (.ref C)
  ox : OexC K C
  xf : XfC K C
  no : PySem.W.findIn K (.ref C) "value" = some none
  ini : ∃ (f : Addr) (q : Str) (st : Stmt) (fd : FuncData), PySem.W.findIn K (.ref C) "__init__" = some (some (.ref f)) ∧ PySem.W.typeIn K (.ref f) = some (.type "function") ∧ Fun K "__init__" q st f fd ∧ Binds K fd ["self", "value"] [] ∧
    FnScope ["self", "value"] ["self", "value"] (defScope st) ∧
    (∀ X : Cx, X.N = (["self", "value"] : List Str) → X.env.scope = defScope st → ∃ t : TS, PSs X (defBody st) t ∧ (∀ D σ H, tOst X.K "value" (tVar 0) (tVar 1) D σ H → t D σ H))
/-- an error of the class at C with the value v is let out, all else as it was -/
def Thrown (C : Addr) (v : V) (H : Hp) (E : XK) : Prop := ∀ (d : Addr) (H' : Hp), Same H H' → H d = none → H' d = some (.xd [(("value" : Str), v)]) → E (.ref C) (some d) H'
def spIni (K : PySem.W.Frag) (C : Addr) : Sp := fun vs H Q _ => ∃ (a : Addr) (v : V), vs = [.ref a, v] ∧ H a = some (exo a C none) ∧ ∀ dx, H dx = none → dx ≠ a → Q .non (upd (upd H dx (exd dx [(("value" : Str), v)])) a (exo a C (some dx)))
section
variable {P : Program} {w : World} {K : PySem.W.Frag} {mg : Str → Option Value} {base : Heap}
theorem Err.init {x : Str} {C : Addr} (T : Err K mg x C) : ∃ (f : Addr) (fd : FuncData), PySem.W.findIn K (.ref C) "__init__" = some (some (.ref f)) ∧ PySem.W.typeIn K (.ref f) = some (.type "function") ∧ Binds K fd ["self", "value"] [] ∧
    FnOk P w K mg base CX0 1 f fd ["self", "value"] (spIni K C) := by
  obtain ⟨f, q, st, fd, h1, h2, F, b, S, dv⟩ := T.ini
  refine ⟨f, fd, h1, h2, b, F.ok S (fun vs H Q E h => ?_) (fun cdv A outer s H vs Q E hr h => ?_)⟩
  · obtain ⟨a, v, e, _⟩ := h
    rw [e]
    rfl
  · obtain ⟨a, v, e, ea, k⟩ := h
    subst e
    obtain ⟨t, d, go⟩ := dv (cxOf CX0 P w K mg base ["self", "value"] q (defScope st) f cdv A outer s H E).nox rfl rfl
    refine ⟨t, d, go _ _ _ ?_⟩
    exact ⟨v, rfl, .ref a, rfl, a, C, rfl, T.ox, T.no, Or.inl ⟨ea, k⟩⟩
end
section
variable {X : Cx} {x : Str} {C : Addr} {e : Expr} {te : TE} {p pos pos2 : Pos} {W : WX}
/-- raise x(e) -/
def tThrow (K : PySem.W.Frag) (C : Addr) (W : WX) (te : TE) : TS := fun _ σ H => tMkO C (spIni K C) [] (tCons te tNil) σ H fun cls d H' => W cls d σ H'
theorem ps_throw (T : Err X.K X.mg x C) (hc : X.calm = true) (hr : Room 2 X.A) (tk : Takes X W) (he : PE X e te) (hg : Gl X x := by rfl) (hdb : (x == ("__debug__" : Str)) = false := by decide)
    (hs : starEach (e :: []) X.env = (false, eval e X.env) :: starEach [] X.env := by rfl) (hpl : (backTo pos (starEach [] X.env)).any (·.1) = false := by rfl) :
    PS X (.Raise (some (.Call (.Name x p) [e] [] pos)) none pos2) (tThrow X.K C W te) := by
  obtain ⟨f, fd, h1, h2, b, F⟩ := T.init (P := X.prog) (w := X.w) (base := X.base)
  exact ps_raise (pos := pos2) hc tk (pmk_oex (x := x) (p := p) (pos := pos) (dvs := []) (ds := []) T.ox h1 h2 F hr b .nil pass0 hg T.g (pa_cons he pa_nil hs) hdb hs hpl)
/-- what the reading of a raise asks, from Thrown -/
theorem thrown_go {K : PySem.W.Frag} {H : Hp} {E : XK} {v : V} (h : Thrown C v H E) : [v].length ≤ 1000 ∧ ∀ a, H a = none → spIni K C (.ref a :: ([v] ++ [])) (upd H a (exo a C none))
    (fun u H2 => u = .non ∧ ∃ (d : Addr) (fs : List (Str × V)), H2 a = some (exo a C (some d)) ∧ H2 d = some (exd d fs) ∧ H d = none ∧ E (.ref C) (some d) (upd (del H2 a) d (.xd fs))) (fun _ _ _ => False) := by
  refine ⟨by show 1 ≤ 1000; decide, fun a ha => ⟨a, v, rfl, upd_same, fun dx hd ne => ⟨rfl, dx, _, upd_same, by rw [upd_ne ne, upd_same], ?_, ?_⟩⟩⟩
  · rw [upd_ne ne] at hd
    exact hd
  · rw [upd_ne ne] at hd
    refine h dx _ (fun b o e => ?_) hd upd_same
    rw [upd_ne (ne_of_none e hd), del_ne (ne_of_none e ha), upd_ne (ne_of_none e ha), upd_ne (ne_of_none e hd), upd_ne (ne_of_none e ha)]
    exact e
end
end Rw

set_option Elab.async false
set_option linter.all false
set_option maxRecDepth 100000
set_option maxHeartbeats 4000000
/-! TkF: the kinds of data, what data is kept over heaps, numbers among the primes. -/
namespace Rw
open PySem PySem.Spec PyProof.Rows L2

/-! ### kinds -/
def kindS : PyData → String
  | .none => "NoneType" | .bool _ => "bool" | .int _ => "int" | .str _ => "str" | .list _ => "list" | .tuple _ => "tuple" | .dict _ => "dict"
def intish : PyData → Bool
  | .int _ => true | .bool _ => true | _ => false
def boolish : PyData → Bool
  | .bool _ => true | _ => false
def isIntD : PyData → Bool
  | .int _ => true | _ => false
section
variable {K : PySem.W.Frag} {H H' : Hp} {v : V} {d : PyData}
theorem any_ty (h : Any H v d) : TyX K H v (.type (kindS d)) := by
  cases h with
  | non => exact .base .non
  | bl b => exact .base (.bl b)
  | int i => exact .base (.int i)
  | str x => exact .base (.str x)
  | lst e _ => exact .base (.lst e)
  | tup e _ => exact .base (.tup e)
  | dct e _ => exact .base (.dK e)
theorem kit_int (d : PyData) : PySem.W.kitOne K (.type (kindS d)) (.type "int") = some (intish d) := by
  cases d with
  | none => exact kit_ty (show kitB "NoneType" "int" = some false by decide +kernel)
  | bool b => exact kit_ty (show kitB "bool" "int" = some true by decide +kernel)
  | int i => exact kit_ty (show kitB "int" "int" = some true by decide +kernel)
  | str x => exact kit_ty (show kitB "str" "int" = some false by decide +kernel)
  | list xs => exact kit_ty (show kitB "list" "int" = some false by decide +kernel)
  | tuple xs => exact kit_ty (show kitB "tuple" "int" = some false by decide +kernel)
  | dict kvs => exact kit_ty (show kitB "dict" "int" = some false by decide +kernel)
theorem kit_bool (d : PyData) : PySem.W.kitOne K (.type (kindS d)) (.type "bool") = some (boolish d) := by
  cases d with
  | none => exact kit_ty (show kitB "NoneType" "bool" = some false by decide +kernel)
  | bool b => exact kit_ty (show kitB "bool" "bool" = some true by decide +kernel)
  | int i => exact kit_ty (show kitB "int" "bool" = some false by decide +kernel)
  | str x => exact kit_ty (show kitB "str" "bool" = some false by decide +kernel)
  | list xs => exact kit_ty (show kitB "list" "bool" = some false by decide +kernel)
  | tuple xs => exact kit_ty (show kitB "tuple" "bool" = some false by decide +kernel)
  | dict kvs => exact kit_ty (show kitB "dict" "bool" = some false by decide +kernel)
theorem int_of (h : Any H v d) (e : isIntD d = true) : ∃ n, d = .int n ∧ v = .int n := by
  cases h with
  | int i => exact ⟨i, rfl, rfl⟩
  | _ => cases e
mutual
theorem any_keep (k : Same H H') : ∀ (d : PyData) (v : V), Any H v d → Any H' v d
  | .none, _, h => by
    cases h
    exact .non
  | .bool b, _, h => by
    cases h
    exact .bl b
  | .int i, _, h => by
    cases h
    exact .int i
  | .str x, _, h => by
    cases h
    exact .str x
  | .list ds, _, h => by
    cases h with
    | lst e a => exact .lst (k _ _ e) (any_keepL k ds _ a)
  | .tuple ds, _, h => by
    cases h with
    | tup e a => exact .tup (k _ _ e) (any_keepL k ds _ a)
  | .dict ds, _, h => by
    cases h with
    | dct e a => exact .dct (k _ _ e) (any_keepK k ds _ a)
theorem any_keepL (k : Same H H') : ∀ (ds : List PyData) (vs : List V), AnyL H vs ds → AnyL H' vs ds
  | [], _, h => by
    cases h
    exact .nil
  | d :: ds, _, h => by
    cases h with
    | cons a b => exact .cons (any_keep k d _ a) (any_keepL k ds _ b)
theorem any_keepK (k : Same H H') : ∀ (ds : List (PyData × PyData)) (vs : List (Key × V)), AnyK H vs ds → AnyK H' vs ds
  | [], _, h => by
    cases h
    exact .nil
  | (_, d) :: ds, _, h => by
    cases h with
    | cons a b => exact .cons (any_keep k d _ a) (any_keepK k ds _ b)
end
theorem Any.keep (h : Any H v d) (k : Same H H') : Any H' v d := any_keep k d v h
end

/-! ### all but one object -/
/-- what was tracked but at p is as it was -/
def Grow (p : Addr) (H H' : Hp) : Prop := ∀ b o, b ≠ p → H b = some o → H' b = some o
theorem Grow.refl {p : Addr} {H : Hp} : Grow p H H := fun _ _ _ e => e
theorem Grow.trans {p : Addr} {H H1 H2 : Hp} (a : Grow p H H1) (b : Grow p H1 H2) : Grow p H H2 := fun c o n e => b c o n (a c o n e)
theorem Grow.of {p : Addr} {H H' : Hp} (a : Same H H') : Grow p H H' := fun c o _ e => a c o e
theorem Grow.put {p : Addr} {H : Hp} {o : HO} : Grow p H (upd H p o) := fun c u n e => by
  rw [upd_ne n]
  exact e
theorem Grow.del {p : Addr} {H H' : Hp} (a : Grow p H H') : Same (del H p) (del H' p) := fun c o e => by
  by_cases z : c = p
  · rw [z, del_same] at e
    cases e
  · rw [del_ne z] at e
    rw [del_ne z]
    exact a c o z e
theorem same_del {p : Addr} {H : Hp} : Same (del H p) H := fun c o e => by
  by_cases z : c = p
  · rw [z, del_same] at e
    cases e
  · rw [del_ne z] at e
    exact e
theorem same_new {p : Addr} {H : Hp} {o : HO} (h : H p = none) : Same H (upd H p o) := fun c u e => by
  rw [upd_ne (ne_of_none e h)]
  exact e
theorem del_new {p q : Addr} {H : Hp} {o : HO} (h : H q = none) : Same (del H p) (del (upd H q o) p) := Grow.del (Grow.of (same_new h))
theorem ne_new {H : Hp} {p q : Addr} {o : HO} (hp : H p = some o) (h : H q = none) : q ≠ p := (ne_of_none hp h).symm

/-! ### the primes -/
def primesL : List Int := [2, 3, 5, 7, 11, 13]
def isPr : PyData → Bool
  | .int n => decide (n ∈ primesL)
  | _ => false
theorem inV_ints (n : Int) : ∀ l : List Int, inV (.int n) (l.map V.int) = decide (n ∈ l)
  | [] => rfl
  | a :: l => by
    show (eqV (.int a) (.int n) || inV (.int n) (l.map V.int)) = _
    rw [inV_ints n l]
    show ((a == n) || decide (n ∈ l)) = _
    by_cases h : a = n
    · subst h
      simp
    · have h2 : ¬ n = a := fun z => h z.symm
      simp [h, h2]
theorem flat_ints : ∀ l : List Int, (l.map V.int).all flatV = true
  | [] => rfl
  | a :: l => by
    show (true && (l.map V.int).all flatV) = true
    rw [flat_ints l] <;> rfl
theorem prime_cases {p : Int} (h : p ∈ primesL) : p = 2 ∨ p = 3 ∨ p = 5 ∨ p = 7 ∨ p = 11 ∨ p = 13 := by
  simpa [primesL] using h
theorem prime_pos {p : Int} (h : p ∈ primesL) : 2 ≤ p ∧ p ≤ 13 := by
  rcases prime_cases h with e | e | e | e | e | e <;> omega
/-- a number that is no multiple of the prime has an inverse -/
theorem has_inverse {p n : Int} (h : p ∈ primesL) (hn : n % p ≠ 0) : ∃ j : Nat, ((j : Int) + 1) < p ∧ ((1 + (j : Int)) * n) % p = 1 := by
  have key : ∀ (p : Int) (r : Int), p ∈ primesL → 0 ≤ r → r < p → r ≠ 0 → ∃ j : Nat, ((j : Int) + 1) < p ∧ ((1 + (j : Int)) * r) % p = 1 := by
    intro p r hp h0 h1 h2
    have c : ∀ p ∈ [2, 3, 5, 7, 11, 13], ∀ r ∈ List.range p, r ≠ 0 → ∃ j ∈ List.range 12, j + 1 < p ∧ ((1 + j) * r) % p = 1 := by decide +kernel
    obtain ⟨j, _, a, b⟩ := c p.toNat (by rcases prime_cases hp with e | e | e | e | e | e <;> subst e <;> decide) r.toNat (List.mem_range.mpr (by omega)) (by omega)
    refine ⟨j, by omega, ?_⟩
    have e1 : ((p.toNat : Nat) : Int) = p := Int.toNat_of_nonneg (by omega)
    have e2 : ((r.toNat : Nat) : Int) = r := Int.toNat_of_nonneg h0
    have b2 : ((((1 + j) * r.toNat % p.toNat : Nat)) : Int) = ((1 : Nat) : Int) := by rw [b]
    rw [Int.natCast_emod, Int.natCast_mul, e1, e2, Int.natCast_add] at b2
    exact b2
  have hp := prime_pos h
  obtain ⟨j, a, b⟩ := key p (n % p) h (Int.emod_nonneg n (by omega)) (Int.emod_lt_of_pos n (by omega)) hn
  refine ⟨j, a, ?_⟩
  rw [Int.mul_emod, Int.emod_emod_of_dvd n (Int.dvd_refl p), ← Int.mul_emod] at b
  exact b
theorem fmod_pos {a b : Int} (h : 0 < b) : a.fmod b = a % b := Int.fmod_eq_emod_of_nonneg a (by omega)
end Rw

set_option Elab.async false
set_option linter.all false
set_option maxRecDepth 100000
set_option maxHeartbeats 4000000
/-! TkG: what stands behind the top, as facts that the kernel is asked. -/
namespace Rw
open PySem PySem.Spec PyProof.Rows L2
/-- a def of the text stands at f under the name x -/
def DefAt (K : PySem.W.Frag) (x qual : Str) (st : Stmt) (f : Addr) : Prop :=
  ∃ (oc : Value) (od : Option Addr) (kV dc pm : Value) (an : Option Addr) (cd ct : Value) (sl : Array (Option Value)), K.lookup f = some ⟨oc, od, .func (PySem.W.fnOf x qual (defArgs st) (defBody st) (defScope st) .none kV dc pm an cd ct), sl⟩ ∧
    PySem.W.codeIn K cd qual = true ∧ PySem.W.keepIn K (.ref f) = true
def DefHere (K : PySem.W.Frag) (x : Str) (st : Stmt) : Prop := ∃ f : Addr, PySem.W.nsIn K mainGlobals x = some (some (.ref f)) ∧ DefAt K x x st f
/-- a def with defaults -/
def DflHere (K : PySem.W.Frag) (x : Str) (st : Stmt) (ds : List Value) : Prop :=
  ∃ (f T : Addr) (oc : Value) (od : Option Addr) (kV dc pm : Value) (an : Option Addr) (cd ct : Value) (sl : Array (Option Value)) (tc : Value) (td : Option Addr) (n : Nat) (ts : Array (Option Value)), PySem.W.nsIn K mainGlobals x = some (some (.ref f)) ∧
    K.lookup f = some ⟨oc, od, .func (PySem.W.fnOf x x (defArgs st) (defBody st) (defScope st) (.ref T) kV dc pm an cd ct), sl⟩ ∧ PySem.W.codeIn K cd x = true ∧ PySem.W.keepIn K (.ref f) = true ∧
    K.lookup T = some ⟨tc, td, .seq ds.toArray n, ts⟩
/-- an own error class x below the class at R, its __init__ is st -/
def ErrHere (K : PySem.W.Frag) (x q : Str) (st : Stmt) (R C : Addr) : Prop :=
  ∃ (f N : Addr) (nm qn : Str) (bs : List Value) (sn : List Str) (sub : List Value) (ab : Bool) (col : Option Bool) (dd : Option Addr) (m0 m1 m2 m3 m5 : Option Value), PySem.W.nsIn K mainGlobals x = some (some (.ref C)) ∧
    K.lookup C = some (excClassObj nm qn C N bs [.ref R, .type "ValueError", .type "Exception", .type "BaseException", .type "object"] true sn sub ab col dd m0 m1 m2 m3 m5 "ValueError.__new__") ∧
    PySem.W.findIn K (.ref C) "__setattr__" = some (some (.builtin "object.__setattr__")) ∧ PySem.W.findIn K (.ref C) "__getattribute__" = some (some (.builtin "BaseException.__getattribute__")) ∧ PySem.W.findIn K (.ref C) "__getattr__" = some none ∧
    PySem.W.findIn K (.ref C) "value" = some none ∧ PySem.W.findIn K (.ref C) "__init__" = some (some (.ref f)) ∧ PySem.W.typeIn K (.ref f) = some (.type "function") ∧ DefAt K "__init__" q st f ∧
    PySem.W.keepIn K (.ref C) = true ∧ PySem.W.subIn K (.ref C) (.type "BaseException") = some true ∧ PySem.W.typeIn K (.ref C) = some (.type "type") ∧ PySem.W.hasDictIn K C = true
section
variable {K : PySem.W.Frag} {mg : Str → Option Value} {h : Heap}
theorem DefHere.df {x : Str} {st : Stmt} {ps : List Str} (D : DefHere K x st) (X : K.In h) (G : h.Ns mainGlobals mg)
    (b : ∀ (kV doc pm : Value) (an : Option Addr) (cdv ct : Value) (us : List Value), us.length = ps.length → bindArgs (PySem.W.fnOf x x (defArgs st) (defBody st) (defScope st) .none kV doc pm an cdv ct) ⟨us, []⟩ = pure (ps.zip us)) : Df K mg x st ps := by
  obtain ⟨f, g, oc, od, kV, dc, pm, an, cd, ct, sl, l, c, k⟩ := D
  have F := fun_mk (st := st) l c k
  exact ⟨f, _, PySem.W.mg_of X G g, F, F.binds b⟩
theorem exm_of {A C : Addr} {b : Bool} (h1 : PySem.W.subIn K (.ref C) (.type "BaseException") = some true) (h2 : PySem.W.isClsIn K C = true) (h3 : PySem.W.typeIn K (.ref C) = some (.type "type")) (h4 : PySem.W.subIn K (.ref A) (.ref C) = some b) :
    PySem.W.exmOne K (.ref A) (.ref C) = some b := by
  have e1 : (PySem.W.subIn K (.ref C) (.type "BaseException") == some true) = true := by
    rw [h1] <;> rfl
  have h2' : (PySem.W.clsIn K C).isSome = true := h2
  have e2 : ((PySem.W.clsIn K C).isSome && PySem.W.typeIn K (.ref C) == some (.type "type")) = true := by
    rw [h2', h3] <;> rfl
  unfold PySem.W.exmOne
  rw [if_pos e1]
  show (if ((PySem.W.clsIn K C).isSome && PySem.W.typeIn K (.ref C) == some (.type "type")) = true then PySem.W.subIn K (.ref A) (.ref C) else none) = some b
  rw [if_pos e2]
  exact h4
/-- the body of __init__(self, value): self.value = value -/
def IsIni (st : Stmt) : Prop := ∃ p1 p2 p3 p4 : Pos, defBody st = [.Assign [.Attribute (.Name "self" p1) "value" p2] (.Name "value" p3) p4] ∧ (defScope st).names.lookup ("self" : Str) = some NameKind.local ∧ (defScope st).names.lookup ("value" : Str) = some NameKind.local
theorem ini_walk {st : Stmt} (I : IsIni st) (X : Cx) (hN : X.N = (["self", "value"] : List Str)) (hS : X.env.scope = defScope st) : ∃ t : TS, PSs X (defBody st) t ∧ (∀ D σ H, tOst X.K "value" (tVar 0) (tVar 1) D σ H → t D σ H) := by
  obtain ⟨p1, p2, p3, p4, e, l1, l2⟩ := I
  rw [e]
  refine ⟨_, pss_one (ps_ost (pe_var (i := 0) (by rw [hN]; rfl) (.inl (by rw [hS]; exact l1))) (pe_var (i := 1) (by rw [hN]; rfl) (.inl (by rw [hS]; exact l2)))), fun D σ H z => z⟩
theorem ErrHere.err {x q : Str} {st : Stmt} {R C : Addr} (E : ErrHere K x q st R C) (X : K.In h) (G : h.Ns mainGlobals mg) (S : FnScope ["self", "value"] ["self", "value"] (defScope st)) (I : IsIni st)
    (b : ∀ (kV doc pm : Value) (an : Option Addr) (cdv ct : Value) (us : List Value), us.length = 2 → bindArgs (PySem.W.fnOf "__init__" q (defArgs st) (defBody st) (defScope st) .none kV doc pm an cdv ct) ⟨us, []⟩ = pure ((["self", "value"] : List Str).zip us)) : Err K mg x C := by
  obtain ⟨f, N, nm, qn, bs, sn, sub, ab, col, dd, m0, m1, m2, m3, m5, g, l, sa, ga, gg, no, ini, ty, ⟨oc, od, kV, dc, pm, an, cd, ct, sl, lf, cf, kf⟩, kc, ex, tc, hd⟩ := E
  have F := fun_mk (x := "__init__") (qual := q) (st := st) lf cf kf
  exact {
    g := PySem.W.mg_of X G g
    ox := ⟨⟨nm, qn, N, bs, _, sn, sub, ab, col, dd, m0, m1, m2, m3, m5, l, rfl⟩, sa, ex, tc, kc⟩
    xf := ⟨ga, gg, ex, hd⟩
    no := no
    ini := ⟨f, q, st, _, ini, ty, F, F.binds b, S, ini_walk I⟩ }
/-- a tuple of ints of the text -/
def IntsHere (K : PySem.W.Frag) (x : Str) (a : Addr) (us : List Value) : Prop := ∃ (dd : Option Addr) (n : Nat) (sl : Array (Option Value)), PySem.W.nsIn K mainGlobals x = some (some (.ref a)) ∧ K.lookup a = some ⟨.type "tuple", dd, .seq us.toArray n, sl⟩
theorem IntsHere.sq {x : Str} {a : Addr} {us : List Value} {xs : List V} (E : IntsHere K x a us) (r : Vals xs us) (z : us.length ≤ sizeLine) (H : Hp) : SqT K H a xs := by
  obtain ⟨dd, n, sl, _, l⟩ := E
  exact Or.inr ⟨_, us.toArray, n, l, rfl, rfl, by simpa using z, by simpa using r⟩
/-! the same from its facts, the rest found by the kernel -/
theorem DefHere.of {x : Str} {st : Stmt} {f : Addr} {oc : Value} {od : Option Addr} {kV dc pm : Value} {an : Option Addr} {cd ct : Value} {sl : Array (Option Value)} (g : PySem.W.nsIn K mainGlobals x = some (some (.ref f)))
    (l : K.lookup f = some ⟨oc, od, .func (PySem.W.fnOf x x (defArgs st) (defBody st) (defScope st) .none kV dc pm an cd ct), sl⟩) (c : PySem.W.codeIn K cd x = true) (k : PySem.W.keepIn K (.ref f) = true) : DefHere K x st :=
  ⟨f, g, oc, od, kV, dc, pm, an, cd, ct, sl, l, c, k⟩
theorem DflHere.of {x : Str} {st : Stmt} {ds : List Value} {f T : Addr} {oc : Value} {od : Option Addr} {kV dc pm : Value} {an : Option Addr} {cd ct : Value} {sl : Array (Option Value)} {tc : Value} {td : Option Addr} {n : Nat} {ts : Array (Option Value)}
    (g : PySem.W.nsIn K mainGlobals x = some (some (.ref f))) (l : K.lookup f = some ⟨oc, od, .func (PySem.W.fnOf x x (defArgs st) (defBody st) (defScope st) (.ref T) kV dc pm an cd ct), sl⟩) (c : PySem.W.codeIn K cd x = true) (k : PySem.W.keepIn K (.ref f) = true)
    (t : K.lookup T = some ⟨tc, td, .seq ds.toArray n, ts⟩) : DflHere K x st ds := ⟨f, T, oc, od, kV, dc, pm, an, cd, ct, sl, tc, td, n, ts, g, l, c, k, t⟩
theorem ErrHere.of {x q : Str} {st : Stmt} {R C f N : Addr} {nm qn : Str} {bs : List Value} {sn : List Str} {sub : List Value} {ab : Bool} {col : Option Bool} {dd : Option Addr} {m0 m1 m2 m3 m5 : Option Value}
    {oc : Value} {od : Option Addr} {kV dc pm : Value} {an : Option Addr} {cd ct : Value} {sl : Array (Option Value)} (g : PySem.W.nsIn K mainGlobals x = some (some (.ref C)))
    (xl : K.lookup C = some (excClassObj nm qn C N bs [.ref R, .type "ValueError", .type "Exception", .type "BaseException", .type "object"] true sn sub ab col dd m0 m1 m2 m3 m5 "ValueError.__new__"))
    (sa : PySem.W.findIn K (.ref C) "__setattr__" = some (some (.builtin "object.__setattr__"))) (ga : PySem.W.findIn K (.ref C) "__getattribute__" = some (some (.builtin "BaseException.__getattribute__"))) (gg : PySem.W.findIn K (.ref C) "__getattr__" = some none)
    (no : PySem.W.findIn K (.ref C) "value" = some none) (ini : PySem.W.findIn K (.ref C) "__init__" = some (some (.ref f))) (ty : PySem.W.typeIn K (.ref f) = some (.type "function"))
    (l : K.lookup f = some ⟨oc, od, .func (PySem.W.fnOf "__init__" q (defArgs st) (defBody st) (defScope st) .none kV dc pm an cd ct), sl⟩) (c : PySem.W.codeIn K cd q = true) (k : PySem.W.keepIn K (.ref f) = true)
    (kc : PySem.W.keepIn K (.ref C) = true) (ex : PySem.W.subIn K (.ref C) (.type "BaseException") = some true) (tc : PySem.W.typeIn K (.ref C) = some (.type "type")) (hd : PySem.W.hasDictIn K C = true) : ErrHere K x q st R C :=
  ⟨f, N, nm, qn, bs, sn, sub, ab, col, dd, m0, m1, m2, m3, m5, g, xl, sa, ga, gg, no, ini, ty, ⟨oc, od, kV, dc, pm, an, cd, ct, sl, l, c, k⟩, kc, ex, tc, hd⟩
theorem IntsHere.of {x : Str} {a : Addr} {us : List Value} {dd : Option Addr} {n : Nat} {sl : Array (Option Value)} (g : PySem.W.nsIn K mainGlobals x = some (some (.ref a))) (l : K.lookup a = some ⟨.type "tuple", dd, .seq us.toArray n, sl⟩) : IntsHere K x a us := ⟨dd, n, sl, g, l⟩
end
end Rw

set_option Elab.async false
set_option linter.all false
set_option maxRecDepth 100000
set_option maxHeartbeats 4000000
/-! TkZ: zip of lists and tuples, in any order. -/
namespace Rw
open PySem PySem.Spec PyProof.Rows L2

/-- a list (true) or a tuple (false) -/
def SqB (K : PySem.W.Frag) (H : Hp) : Bool → Addr → List V → Prop
  | true, a, xs => SqL K H a xs
  | false, a, xs => SqT K H a xs
def itB (h : Heap) : Bool → Addr → Addr → Nat → Prop
  | true, it, l, i => h.IsListIter it l i
  | false, it, l, i => h.IsTupleIter it l i
def sqB (h : Heap) : Bool → Addr → Array Value → Prop
  | true, l, xs => h.IsList l xs
  | false, l, xs => h.IsTuple l xs
def nmB : Bool → String
  | true => "list_iterator"
  | false => "tuple_iterator"
section
variable {X : Cx} {pins : List (Addr × Obj)} {σ : L2.St} {H : Hp} {s : Shared} {h h' : Heap} {k : Bool} {a it : Addr} {i : Nat} {xs ys : List V}
theorem sqB_inv (I : Inv X pins σ H s) (q : SqB X.K H k a xs) : ∃ its : List Value, Vals xs its ∧ sqB s.heap k a its.toArray ∧ a < s.heap.objs.size := by
  cases k with
  | true =>
    obtain ⟨its, r, p, _⟩ := I.list q
    exact ⟨its, r, p.isList, p.lt⟩
  | false =>
    obtain ⟨its, r, p, _⟩ := I.tuple q
    obtain ⟨o, ho, _⟩ := id p
    exact ⟨its, r, p, Heap.lt_size ho⟩
theorem sqB_inj (I : Inv X pins σ H s) (q : SqB X.K H k a xs) (q' : SqB X.K H k a ys) : xs = ys := by
  cases k with
  | true => exact I.list_inj q q'
  | false => exact I.tuple_inj q q'
theorem itB_obj (t : itB h k it a i) : ∃ o, h.get? it = some o ∧ ∀ v, o.data ≠ .cell v := by
  cases k with
  | true =>
    obtain ⟨o, e, _, d⟩ := t
    exact ⟨o, e, fun v q => by rw [d] at q; cases q⟩
  | false =>
    obtain ⟨o, e, _, d⟩ := t
    exact ⟨o, e, fun v q => by rw [d] at q; cases q⟩
theorem itB_at (t : itB h k it a i) (e : ∀ o, h.get? it = some o → h'.get? it = some o) : itB h' k it a i := by
  cases k with
  | true => exact Heap.IsListIter.at t e
  | false => exact Heap.IsTupleIter.at t e
theorem drawsB {prog : Program} {w : World} {A : Around} (hh : A.handled = none) (k : Bool) (it l : Addr) (hne : l ≠ it) (items : Array Value) :
    Draws prog w A it [it, l] items.size (fun i v => items[i]? = some v) (fun i h => itB h k it l i ∧ sqB h k l items) := by
  cases k with
  | true => exact Draws.list hh it l hne items
  | false => exact Draws.tuple hh it l hne items
theorem sepB {z TI TO i1 i2 a b : Addr} (D : ZipApart z TI TO i1 i2 a b) : ZipSep2 z TI TO i1 i2 [i1, a] [i2, b] where
  TIz := D.TIz
  TOz := D.TOz
  TITO := D.TITO
  TIi1 := D.TIi1
  mem1 := List.mem_cons_self
  zf1 := by simp; exact ⟨D.i1z.symm, D.l1z.symm⟩
  Tf1 := by simp; exact ⟨D.TOi1, D.l1TO.symm⟩
  TIi2 := D.TIi2
  mem2 := List.mem_cons_self
  zf2 := by simp; exact ⟨D.i2z.symm, D.l2z.symm⟩
  Tf2 := by simp; exact ⟨D.TOi2, D.l2TO.symm⟩
  sep1_2 := by simp; exact ⟨D.i12, D.l2i1.symm⟩
  sep2_1 := by simp; exact ⟨D.i12.symm, D.l1i2.symm⟩
end

/-- the lists or tuples at a and b as they stand at each turn, the items in new pairs -/
def ItB (K : PySem.W.Frag) (k1 k2 : Bool) (a b : Addr) : It :=
  ⟨fun i H => ∃ (xs ys : List V) (x y : V), SqB K H k1 a xs ∧ SqB K H k2 b ys ∧ xs[i]? = some x ∧ ys[i]? = some y,
    fun i H v H' => ∃ T x y, v = .ref T ∧ H T = none ∧ H' = upd H T (.tup [x, y]) ∧ (∀ xs, SqB K H k1 a xs → xs[i]? = some x) ∧ ∀ ys, SqB K H k2 b ys → ys[i]? = some y,
    fun i H => ∃ xs ys : List V, SqB K H k1 a xs ∧ SqB K H k2 b ys ∧ i ≤ xs.length ∧ i ≤ ys.length ∧ (xs.length = i ∨ ys.length = i)⟩
theorem turn_zipB {P : Program} {w : World} {K : PySem.W.Frag} {k1 k2 : Bool} {elts : List Expr} {kk : Nat} {tpos : Pos} {a b z TI TO i1 i2 : Addr} (D : ZipApart z TI TO i1 i2 a b) :
    Turn P w K (.Tuple elts kk tpos) (ItB K k1 k2 a b) [z, TI, TO, i1, i2] z (fun i h => IsZip h z TI TO .none ∧ IsPair h TI (.ref i1) (.ref i2) ∧ (∃ x y, IsPair h TO x y) ∧ itB h k1 i1 a i ∧ itB h k2 i2 b i) where
  mem := by simp
  obj := fun i h st c hc => by
    obtain ⟨hz, hTI, ⟨x, y, hTO⟩, h1, h2⟩ := st
    have e' : c = z ∨ c = TI ∨ c = TO ∨ c = i1 ∨ c = i2 := by simpa using hc
    rcases e' with q | q | q | q | q
    · rw [q]; exact ⟨_, hz, fun v q => nomatch q⟩
    · rw [q]; exact ⟨_, hTI, fun v q => nomatch q⟩
    · rw [q]; exact ⟨_, hTO, fun v q => nomatch q⟩
    · rw [q]; exact itB_obj h1
    · rw [q]; exact itB_obj h2
  keep := fun i h h' st k => by
    obtain ⟨hz, hTI, ⟨x, y, hTO⟩, h1, h2⟩ := st
    exact ⟨k z (by simp) _ hz, k TI (by simp) _ hTI, ⟨x, y, k TO (by simp) _ hTO⟩, itB_at h1 fun o q => k i1 (by simp) o q, itB_at h2 fun o q => k i2 (by simp) o q⟩
  item := by
    intro X hP hw hK hc i pins s σ H E I hf st hg
    subst hP hw hK
    obtain ⟨hz, hTI, ⟨x0, y0, hTO⟩, h1, h2⟩ := st
    obtain ⟨xs, ys, x, y, hqx, hqy, hx, hy⟩ := hg
    obtain ⟨its, rv, p, _⟩ := sqB_inv I hqx
    obtain ⟨its2, rv2, p2, _⟩ := sqB_inv I hqy
    obtain ⟨u, hu, ru⟩ := rv.get hx
    obtain ⟨u2, hu2, ru2⟩ := rv2.get hy
    have hzl : z < s.heap.objs.size := Heap.lt_size hz
    have hd : X.A.in1.handled = none := I.ok.hd hc
    have g1 : i < its.toArray.size := by
      have := (List.getElem?_eq_some_iff.mp hu).1
      simpa using this
    have g2 : i < its2.toArray.size := by
      have := (List.getElem?_eq_some_iff.mp hu2).1
      simpa using this
    refine wpAny_pyNext_zipD2_item (sepB D) (drawsB hd k1 i1 a D.l1i1 its.toArray) (drawsB hd k2 i2 b D.l2i2 its2.toArray) hz hTI hTO ⟨h1, p⟩ ⟨h2, p2⟩ g1 g2 fun x1 x2 h' tk e1 e2 z' TO' t1 t2 hT hsz hk => ?_
    have hx1 : x1 = u := by
      have q : its[i]? = some x1 := by simpa using e1
      rw [hu] at q
      exact (Option.some.inj q).symm
    have hx2 : x2 = u2 := by
      have q : its2[i]? = some x2 := by simpa using e2
      rw [hu2] at q
      exact (Option.some.inj q).symm
    subst hx1 hx2
    refine ⟨_, rfl, wpAny_letOwnedTupleGo_zip (s := { s with heap := h', toks := tk }) z' fun h'' z'' sb => ?_⟩
    have hT2 : h''.get? s.heap.objs.size = some { cls := .type "tuple", data := .seq #[x1, x2] } := (sb.2 _ (Nat.ne_of_gt hzl)).trans hT
    have new : ObjOk X.prog X.w (upd H s.heap.objs.size (.tup [x, y])) h'' s.heap.objs.size (.tup [x, y]) :=
      ⟨by show 2 ≤ sizeLine; decide, [x1, x2], .cons ru (.cons ru2 .nil), ⟨_, hT2, rfl, _, rfl⟩⟩
    have I1 : Inv X pins σ (upd H s.heap.objs.size (.tup [x, y])) { s with heap := h'', toks := tk } :=
      I.turnedNew (t' := tk) (ch := [z, TI, TO, i1, i2]) (fun c o hb q => (sb.2 c (fun q' => hb (by simp [q']))).trans (hk c o (fun q' => hb (by simp [q'])) (fun q' => hb (by simp [q'])) (fun q' => hb (by simp [q'])) (fun q' => hb (by simp [q'])) q)) hf (Nat.le_refl _) new
    refine ⟨.ref s.heap.objs.size, _, I1, rfl, ⟨_, x, y, rfl, I.hok.fresh (Nat.le_refl _), rfl, fun l hl => by rw [sqB_inj I hl hqx]; exact hx, fun l hl => by rw [sqB_inj I hl hqy]; exact hy⟩, ⟨z'', ?_, ⟨x1, x2, ?_⟩, ?_, ?_⟩, fun c hcm => ?_⟩
    · exact (sb.2 _ D.TIz).trans (hk _ _ D.TIz D.TITO D.TIi1 D.TIi2 hTI)
    · exact (sb.2 _ D.TOz).trans TO'
    · exact itB_at t1.1 fun o q => (sb.2 _ D.i1z).trans q
    · exact itB_at t2.1 fun o q => (sb.2 _ D.i2z).trans q
    · have hlt : c < s.heap.objs.size := by
        have e' : c = z ∨ c = TI ∨ c = TO ∨ c = i1 ∨ c = i2 := by simpa using hcm
        rcases e' with q | q | q | q | q
        · rw [q]; exact hzl
        · rw [q]; exact Heap.lt_size hTI
        · rw [q]; exact Heap.lt_size hTO
        · rw [q]; obtain ⟨_, e1, _⟩ := itB_obj h1; exact Heap.lt_size e1
        · rw [q]; obtain ⟨_, e2, _⟩ := itB_obj h2; exact Heap.lt_size e2
      rw [upd_ne (Nat.ne_of_lt hlt)]
      exact (hf c hcm).1
  done := by
    intro X hP hw hK hc i pins s σ H E I hf st hg
    subst hP hw hK
    obtain ⟨hz, hTI, ⟨x0, y0, hTO⟩, h1, h2⟩ := st
    obtain ⟨xs, ys, hqx, hqy, l1, l2, hend⟩ := hg
    obtain ⟨its, rv, p, _⟩ := sqB_inv I hqx
    obtain ⟨its2, rv2, p2, _⟩ := sqB_inv I hqy
    have m1 := rv.length
    have m2 := rv2.length
    have hd : X.A.in1.handled = none := I.ok.hd hc
    have z1 : its.toArray.size = its.length := by simp
    have z2 : its2.toArray.size = its2.length := by simp
    exact wpAny_pyNext_zipD2_end (sepB D) (drawsB hd k1 i1 a D.l1i1 its.toArray) (drawsB hd k2 i2 b D.l2i2 its2.toArray) hz hTI hTO ⟨h1, p⟩ ⟨h2, p2⟩ (by omega) (by omega) (by omega) fun h' tk hk => ⟨rfl, I.turnedL (t' := tk) (ch := [z, TI, TO, i1, i2]) (fun c o hb q =>
      hk c o (fun q' => hb (by simp [q'])) (fun q' => hb (by simp [q'])) (fun q' => hb (by simp [q'])) (fun q' => hb (by simp [q'])) q) hf⟩
  self := fun A i s Q E st h => wpAny_pyIter_zip st.1 h

abbrev zipBH1 (k1 : Bool) (h : Heap) (l1 : Addr) : Heap := h.push { cls := .type (nmB k1), data := .fields #[.ref l1, .int 0 0] }
abbrev zipBH2 (k1 k2 : Bool) (h : Heap) (l1 l2 : Addr) : Heap := (zipBH1 k1 h l1).push { cls := .type (nmB k2), data := .fields #[.ref l2, .int 0 0] }
abbrev zipBH3 (k1 k2 : Bool) (h : Heap) (l1 l2 : Addr) : Heap := (zipBH2 k1 k2 h l1 l2).push { cls := .type "tuple", data := .seq #[.ref h.objs.size, .ref (zipBH1 k1 h l1).objs.size] }
abbrev zipBH4 (k1 k2 : Bool) (h : Heap) (l1 l2 : Addr) : Heap := (zipBH3 k1 k2 h l1 l2).push { cls := .type "tuple", data := .seq #[.none, .none] }
abbrev zipBH5 (k1 k2 : Bool) (h : Heap) (l1 l2 : Addr) : Heap := (zipBH4 k1 k2 h l1 l2).push { cls := .type "zip", data := .fields #[.none, .bool false, .bool false, .ref (zipBH2 k1 k2 h l1 l2).objs.size, .ref (zipBH3 k1 k2 h l1 l2).objs.size] }
theorem meets_zipB_lt (l1 l2 : Addr) (xs ys : Array Value) :
    Meets (Builtin.«zip.__new__» ⟨[.type "zip", .ref l1, .ref l2], []⟩) (fun _ R s => s.heap.IsList l1 xs ∧ s.heap.IsTuple l2 ys ∧
      R (.ok (.ret (.ref (zipBH4 true false s.heap l1 l2).objs.size))) { s with heap := zipBH5 true false s.heap l1 l2 }) :=
  .of_wp fun prog w A R s h => by
    obtain ⟨hp, g, d, tk, os⟩ := s; obtain ⟨hl1, hl2, h⟩ := h
    have hsub := sub_zip
    have hL1 : Heap.IsList (Shared.heap ⟨hp, g, d, tk, os⟩) l1 xs := hl1
    have hL2 : Heap.IsTuple (Shared.heap ⟨hp.push { cls := .type "list_iterator", data := .fields #[.ref l1, .int 0 0] }, g, d, tk, os⟩) l2 ys := Heap.IsTuple.push hl2 _
    wp_walk using wpAny_pyIter_list hL1, wpAny_pyIter_tuple hL2
    exact ⟨_, rfl, h⟩
theorem meets_zipB_tl (l1 l2 : Addr) (xs ys : Array Value) :
    Meets (Builtin.«zip.__new__» ⟨[.type "zip", .ref l1, .ref l2], []⟩) (fun _ R s => s.heap.IsTuple l1 xs ∧ s.heap.IsList l2 ys ∧
      R (.ok (.ret (.ref (zipBH4 false true s.heap l1 l2).objs.size))) { s with heap := zipBH5 false true s.heap l1 l2 }) :=
  .of_wp fun prog w A R s h => by
    obtain ⟨hp, g, d, tk, os⟩ := s; obtain ⟨hl1, hl2, h⟩ := h
    have hsub := sub_zip
    have hL1 : Heap.IsTuple (Shared.heap ⟨hp, g, d, tk, os⟩) l1 xs := hl1
    have hL2 : Heap.IsList (Shared.heap ⟨hp.push { cls := .type "tuple_iterator", data := .fields #[.ref l1, .int 0 0] }, g, d, tk, os⟩) l2 ys := Heap.IsList.push hl2 _
    wp_walk using wpAny_pyIter_tuple hL1, wpAny_pyIter_list hL2
    exact ⟨_, rfl, h⟩
theorem meets_zipB (k1 k2 : Bool) (l1 l2 : Addr) (xs ys : Array Value) :
    Meets (Builtin.«zip.__new__» ⟨[.type "zip", .ref l1, .ref l2], []⟩) (fun _ R s => sqB s.heap k1 l1 xs ∧ sqB s.heap k2 l2 ys ∧
      R (.ok (.ret (.ref (zipBH4 k1 k2 s.heap l1 l2).objs.size))) { s with heap := zipBH5 k1 k2 s.heap l1 l2 }) := by
  cases k1 <;> cases k2
  · exact RZ.meets_zipT_new l1 l2 xs ys
  · exact meets_zipB_tl l1 l2 xs ys
  · exact meets_zipB_lt l1 l2 xs ys
  · exact meets_zip_new l1 l2 xs ys
theorem itB_new {h : Heap} {k : Bool} {it l : Addr} (e : h.get? it = some { cls := .type (nmB k), data := .fields #[.ref l, .int 0 0] }) : itB h k it l 0 := by
  cases k with
  | true => exact ⟨_, e, rfl, rfl⟩
  | false => exact ⟨_, e, rfl, rfl⟩
section
variable {prog : Program} {w : World} {A : Around} {E : Value → Shared → Prop} {s : Shared}
theorem call_zipB {k1 k2 : Bool} {l1 l2 : Addr} {xs ys : Array Value} {Q : Value → Shared → Prop} (hl1 : sqB s.heap k1 l1 xs) (hl2 : sqB s.heap k2 l2 ys)
    (h : ∀ h', IsZip h' (s.heap.objs.size + 4) (s.heap.objs.size + 2) (s.heap.objs.size + 3) .none → IsPair h' (s.heap.objs.size + 2) (.ref s.heap.objs.size) (.ref (s.heap.objs.size + 1)) →
      IsPair h' (s.heap.objs.size + 3) .none .none → itB h' k1 s.heap.objs.size l1 0 → itB h' k2 (s.heap.objs.size + 1) l2 0 → h'.objs.size = s.heap.objs.size + 5 →
      (∀ c o, s.heap.get? c = some o → h'.get? c = some o) → Q (.ref (s.heap.objs.size + 4)) { s with heap := h' }) :
    wpAny (model prog w) A (call (.type "zip") [.ref l1, .ref l2]) Q E s := by
  refine callType_new F.called_zip (by decide) (F.typeCall_zip_2 _ _) (F.newCall_zip_2 _ _) (fun obj => F.args_object_init_3 obj _ _) F.entry_zip_new
    (meets_zipB k1 k2 l1 l2 xs ys) ⟨hl1, hl2, ?_⟩
  have z1 : (zipBH1 k1 s.heap l1).objs.size = s.heap.objs.size + 1 := Heap.size_push ..
  have z2 : (zipBH2 k1 k2 s.heap l1 l2).objs.size = s.heap.objs.size + 2 := by rw [Heap.size_push, z1]
  have z3 : (zipBH3 k1 k2 s.heap l1 l2).objs.size = s.heap.objs.size + 3 := by rw [Heap.size_push, z2]
  have z4 : (zipBH4 k1 k2 s.heap l1 l2).objs.size = s.heap.objs.size + 4 := by rw [Heap.size_push, z3]
  have z5 : (zipBH5 k1 k2 s.heap l1 l2).objs.size = s.heap.objs.size + 5 := by rw [Heap.size_push, z4]
  have g5 : (zipBH5 k1 k2 s.heap l1 l2).get? (zipBH4 k1 k2 s.heap l1 l2).objs.size = some _ := Heap.get?_push_size _ rfl
  have g4 : (zipBH5 k1 k2 s.heap l1 l2).get? (zipBH3 k1 k2 s.heap l1 l2).objs.size = some _ := Heap.get?_push_of_some _ (Heap.get?_push_size _ rfl)
  have g3 : (zipBH5 k1 k2 s.heap l1 l2).get? (zipBH2 k1 k2 s.heap l1 l2).objs.size = some _ := Heap.get?_push_of_some _ (Heap.get?_push_of_some _ (Heap.get?_push_size _ rfl))
  have g2 : (zipBH5 k1 k2 s.heap l1 l2).get? (zipBH1 k1 s.heap l1).objs.size = some _ := Heap.get?_push_of_some _ (Heap.get?_push_of_some _ (Heap.get?_push_of_some _ (Heap.get?_push_size _ rfl)))
  have g1 : (zipBH5 k1 k2 s.heap l1 l2).get? s.heap.objs.size = some _ := Heap.get?_push_of_some _ (Heap.get?_push_of_some _ (Heap.get?_push_of_some _ (Heap.get?_push_of_some _ (Heap.get?_push_size _ rfl))))
  show _ ∧ _
  rw [z2, z3, z4] at g5
  rw [z1, z2] at g3
  rw [z3] at g4
  rw [z1] at g2
  rw [z4]
  exact ⟨⟨_, g5, rfl⟩, h _ g5 g3 g4 (itB_new g1) (itB_new g2) z5 fun c o x =>
    Heap.get?_push_of_some _ (Heap.get?_push_of_some _ (Heap.get?_push_of_some _ (Heap.get?_push_of_some _ (Heap.get?_push_of_some _ x))))⟩
end
def iZipB (K : PySem.W.Frag) (ta : TA) : TI := fun σ H R => ta σ H fun vs H1 => ∃ a b k1 k2 xs ys, vs = [.ref a, .ref b] ∧ SqB K H1 k1 a xs ∧ SqB K H1 k2 b ys ∧ R (ItB K k1 k2 a b) H1
theorem pi_zipB {X : Cx} {e e2 : Expr} {ta : TA} {p pos tpos : Pos} {elts : List Expr} {kk : Nat} (hg : Gl X "zip") (hm : X.mg "zip" = none) (ha : PA X [e, e2] ta)
    (hs : starEach [e, e2] X.env = (false, eval e X.env) :: starEach [e2] X.env := by rfl) (hpl : (backTo pos (starEach [e2] X.env)).any (·.1) = false := by rfl) :
    PI X (.Tuple elts kk tpos) (.Call (.Name "zip" p) [e, e2] [] pos) (iZipB X.K ta) := by
  refine ⟨fun pins s σ H R I h => ?_⟩
  refine Call_ (ld_blt I hg hm PyProof.Rows.boot_zip (PyProof.Rows.callWith_type1 (thn (ha.run pos pins s σ H _ I h) fun us s1 ⟨vs, H1, I1, r1, q1⟩ => ?_) hs hpl))
  obtain ⟨a, b, k1, k2, xs, ys, ex, hqx, hqy, q⟩ := q1
  subst ex
  cases r1 with
  | cons r rr =>
    cases rr with
    | cons r' rr =>
      cases rr
      cases r
      cases r'
      obtain ⟨its, rv, p1, la⟩ := sqB_inv I1 hqx
      obtain ⟨its2, rv2, p2, lb⟩ := sqB_inv I1 hqy
      refine call_zipB p1 p2 fun h' hz hTI hTO h1 h2 hsz hk => wpAny_pyIter_zip hz ?_
      have I2 : Inv X pins σ H1 { s1 with heap := h' } := I1.kept (t' := s1.toks) hk
      refine ⟨s1.heap.objs.size + 4, [s1.heap.objs.size + 4, s1.heap.objs.size + 2, s1.heap.objs.size + 3, s1.heap.objs.size, s1.heap.objs.size + 1], _, _, H1, rfl, I2, turn_zipB (PySem.W.ktu_apart s1.heap.objs.size a b la lb), ⟨hz, hTI, ⟨_, _, hTO⟩, h1, h2⟩, fun c hcm => ?_, q⟩
      have e' : c = s1.heap.objs.size + 4 ∨ c = s1.heap.objs.size + 2 ∨ c = s1.heap.objs.size + 3 ∨ c = s1.heap.objs.size ∨ c = s1.heap.objs.size + 1 := by simpa using hcm
      have hle : s1.heap.objs.size ≤ c := by
        rcases e' with z | z | z | z | z
        · rw [z]; exact Nat.le_add_right _ _
        · rw [z]; exact Nat.le_add_right _ _
        · rw [z]; exact Nat.le_add_right _ _
        · rw [z]; exact Nat.le_refl _
        · rw [z]; exact Nat.le_add_right _ _
      exact I1.fpOk hle (I1.hok.fresh hle)
end Rw

set_option Elab.async false
set_option linter.all false
set_option maxRecDepth 100000
set_option maxHeartbeats 4000000
/-! TkL: lists and tuples as data, comprehensions that make data of data. -/
namespace Rw
open PySem PySem.Spec PyProof.Rows L2

/-! ### lists and tuples as data -/
def isSeqD : PyData → Bool
  | .list _ => true | .tuple _ => true | _ => false
def itemsD : PyData → List PyData
  | .list ds => ds | .tuple ds => ds | _ => []
def isVecD (n : Int) (d : PyData) : Bool := isSeqD d && (decide (((itemsD d).length : Int) = n) && (itemsD d).all isIntD)
def isMatD (h w : Int) (d : PyData) : Bool := isSeqD d && (decide (((itemsD d).length : Int) = h) && (itemsD d).all (isVecD w))
/-- not too long, the ints not too great -/
structure Fit1 (d : PyData) : Prop where
  len : (itemsD d).length ≤ 1000
  sm : ∀ n, PyData.int n ∈ itemsD d → n.natAbs.log2 < 400
structure Fit (d : PyData) : Prop where
  top : Fit1 d
  sub : ∀ e, e ∈ itemsD d → Fit1 e
section
variable {K : PySem.W.Frag} {H H' : Hp} {v : V} {d : PyData} {xs : List V} {ds : List PyData}
theorem kit_seq (d : PyData) : PySem.W.kitAny K (.type (kindS d)) [.type "list", .type "tuple"] = some (isSeqD d) := by
  have z : PySem.W.kitAny K (.type (kindS d)) [] = some false := rfl
  have l0 : ∀ a, kitB a "list" = some false → kitB a "tuple" = some false → PySem.W.kitAny K (.type a) [.type "list", .type "tuple"] = some false := fun a p q =>
    kitAny_cons (b := false) (kit_ty p) (fun _ => kitAny_cons (b := false) (kit_ty q) (fun _ => z) (fun e => by cases e)) (fun e => by cases e)
  cases d with
  | none => exact l0 "NoneType" (by decide +kernel) (by decide +kernel)
  | bool b => exact l0 "bool" (by decide +kernel) (by decide +kernel)
  | int b => exact l0 "int" (by decide +kernel) (by decide +kernel)
  | str b => exact l0 "str" (by decide +kernel) (by decide +kernel)
  | dict b => exact l0 "dict" (by decide +kernel) (by decide +kernel)
  | list b => exact kitAny_cons (b := true) (kit_ty (show kitB "list" "list" = some true by decide +kernel)) (fun e => by cases e) (fun _ => rfl)
  | tuple b => exact kitAny_cons (b := false) (kit_ty (show kitB "tuple" "list" = some false by decide +kernel)) (fun _ => kitAny_cons (b := true) (kit_ty (show kitB "tuple" "tuple" = some true by decide +kernel)) (fun e => by cases e) (fun _ => rfl)) (fun e => by cases e)
theorem anyL_len : ∀ {xs : List V} {ds : List PyData}, AnyL H xs ds → xs.length = ds.length
  | _, _, .nil => rfl
  | _, _, .cons _ b => congrArg (· + 1) (anyL_len b)
theorem anyL_at : ∀ {xs : List V} {ds : List PyData} {i : Nat} {x : V}, AnyL H xs ds → xs[i]? = some x → ∃ d, ds[i]? = some d ∧ Any H x d
  | _, _, i, x, .nil, h => by simp at h
  | _, _, 0, x, .cons a _, h => by
    cases h
    exact ⟨_, rfl, a⟩
  | _, _, i + 1, x, .cons _ b, h => by
    obtain ⟨d, h1, h2⟩ := anyL_at (i := i) b (by simpa using h)
    exact ⟨d, by simpa using h1, h2⟩
theorem anyL_of : ∀ {xs : List V} {ds : List PyData} {i : Nat} {d : PyData}, AnyL H xs ds → ds[i]? = some d → ∃ x, xs[i]? = some x ∧ Any H x d
  | _, _, i, x, .nil, h => by simp at h
  | _, _, 0, x, .cons a _, h => by
    cases h
    exact ⟨_, rfl, a⟩
  | _, _, i + 1, x, .cons _ b, h => by
    obtain ⟨d, h1, h2⟩ := anyL_of (i := i) b (by simpa using h)
    exact ⟨d, by simpa using h1, h2⟩
theorem anyL_keep (k : Same H H') (h : AnyL H xs ds) : AnyL H' xs ds := any_keepL k ds xs h
theorem anyL_snoc : ∀ {xs : List V} {ds : List PyData} {x : V} {d : PyData}, AnyL H xs ds → Any H x d → AnyL H (xs ++ [x]) (ds ++ [d])
  | _, _, _, _, .nil, b => .cons b .nil
  | _, _, _, _, .cons a r, b => .cons a (anyL_snoc r b)
theorem anyL_ints : ∀ {ns : List Int} {xs : List V}, AnyL H xs (ns.map .int) → xs = ns.map V.int
  | [], _, h => by
    cases h
    rfl
  | n :: ns, _, h => by
    cases h with
    | cons a b =>
      cases a
      rw [anyL_ints b] <;> rfl
theorem anyL_bools : ∀ {ns : List Bool} {xs : List V}, AnyL H xs (ns.map .bool) → xs = ns.map V.bl
  | [], _, h => by
    cases h
    rfl
  | n :: ns, _, h => by
    cases h with
    | cons a b =>
      cases a
      rw [anyL_bools b] <;> rfl
theorem anyL_flags {g : PyData → Bool} {ds : List PyData} {xs : List V} (h : AnyL H xs (ds.map fun d => PyData.bool (g d))) : xs = (ds.map g).map V.bl := by
  refine anyL_bools (H := H) ?_
  rw [List.map_map]
  exact h
theorem ints_anyL : ∀ (ns : List Int), AnyL H (ns.map V.int) (ns.map .int)
  | [] => .nil
  | n :: ns => .cons (.int n) (ints_anyL ns)
/-- data that is a list or a tuple, with its items -/
theorem seq_of (h : Any H v d) (e : isSeqD d = true) : ∃ (k : Bool) (a : Addr) (xs : List V), v = .ref a ∧ (∀ {H' : Hp}, Same H H' → ∀ K, SqB K H' k a xs) ∧ AnyL H xs (itemsD d) := by
  cases h with
  | lst ea ha => exact ⟨true, _, _, rfl, fun k K => SqL.of (k _ _ ea), ha⟩
  | tup ea ha => exact ⟨false, _, _, rfl, fun k K => SqT.of (k _ _ ea), ha⟩
  | _ => cases e
theorem SqB.or {k : Bool} {a : Addr} (h : SqB K H k a xs) : SqL K H a xs ∨ SqT K H a xs := by
  cases k with
  | true => exact .inl h
  | false => exact .inr h
theorem vec_ints : ∀ {ds : List PyData}, ds.all isIntD = true → ∃ ns : List Int, ds = ns.map .int
  | [], _ => ⟨[], rfl⟩
  | d :: ds, h => by
    simp only [List.all_cons, Bool.and_eq_true] at h
    obtain ⟨ns, e⟩ := vec_ints h.2
    cases d with
    | int n => exact ⟨n :: ns, by rw [e] <;> rfl⟩
    | _ => cases h.1
end

/-! ### walks -/
def ItS (K : PySem.W.Frag) : Bool → Addr → It
  | true, a => Itl K a
  | false, a => Itt K a
def iSeq (K : PySem.W.Frag) (tl : TE) : TI := fun σ H R => tl σ H fun x H1 => ∃ a k xs, x = .ref a ∧ SqB K H1 k a xs ∧ R (ItS K k a) H1
theorem pi_seq {X : Cx} {tg l : Expr} {tl : TE} (hl : PE X l tl) : PI X tg l (iSeq X.K tl) := by
  refine ⟨fun pins s σ H R I h => ?_⟩
  refine thn (hl.run pins s σ H _ I h) fun v s1 ⟨x, H1, I1, r1, q1⟩ => ?_
  obtain ⟨a, k, xs, e, hq, q⟩ := q1
  subst e
  cases r1
  cases k with
  | true =>
    obtain ⟨its, rv, p, hz⟩ := I1.list hq
    refine wpAny_pyIter_list p.isList ?_
    refine ⟨s1.heap.objs.size, [s1.heap.objs.size], _, _, H1, rfl, I1.kept (t' := s1.toks) fun b o e => Heap.get?_push_of_some _ e, turn_list a _, ⟨_, Heap.get?_push_size _ rfl, rfl, rfl⟩, fun b hb => ?_, q⟩
    have e : b = s1.heap.objs.size := by simpa using hb
    subst e
    exact I1.fpOk (Nat.le_refl _) (I1.hok.fresh (Nat.le_refl _))
  | false =>
    obtain ⟨its, rv, p, hz⟩ := I1.tuple hq
    refine wpAny_pyIter_tuple (show s1.heap.IsTuple a its.toArray from p) ?_
    refine ⟨s1.heap.objs.size, [s1.heap.objs.size], _, _, H1, rfl, I1.kept (t' := s1.toks) fun b o e => Heap.get?_push_of_some _ e, turn_tuple a _, ⟨_, Heap.get?_push_size _ rfl, rfl, rfl⟩, fun b hb => ?_, q⟩
    have e : b = s1.heap.objs.size := by simpa using hb
    subst e
    exact I1.fpOk (Nat.le_refl _) (I1.hok.fresh (Nat.le_refl _))
section
variable {K : PySem.W.Frag} {k : Bool} {a : Addr} {xs : List V}
theorem walk_seq : Walk (ItS K k a) xs.length (fun H => SqB K H k a xs) (fun i H x H' => H' = H ∧ xs[i]? = some x) := by
  cases k with
  | true => exact walk_list
  | false => exact walk_tup
theorem walk_rng {n : Nat} : Walk (Itr 0 n) n (fun _ => True) (fun i H x H' => H' = H ∧ x = .int (i : Int)) :=
  walk_range.mono (fun _ z => z) fun i H x H' _ _ y => ⟨y.1, by
    have e := y.2
    simpa using e⟩
theorem walk_zipB {k1 k2 : Bool} {a b : Addr} {xs ys : List V} {n : Nat} (h1 : xs.length = n) (h2 : ys.length = n) : Walk (ItB K k1 k2 a b) n (fun H => SqB K H k1 a xs ∧ SqB K H k2 b ys) (YPair (fun i => xs[i]?) (fun i => ys[i]?)) := by
  refine ⟨fun i H hi q => ?_, fun H q => ⟨xs, ys, q.1, q.2, by omega, by omega, .inl h1⟩, fun i H v H' _ q y => ?_⟩
  · have g1 : i < xs.length := by omega
    have g2 : i < ys.length := by omega
    exact ⟨xs, ys, xs[i], ys[i], q.1, q.2, by simp [g1], by simp [g2]⟩
  · obtain ⟨T, x, z, h1, h2, h3, h4, h5⟩ := y
    exact ⟨T, x, z, h1, h2, h3, h4 xs q.1, h5 ys q.2⟩
end
theorem del_upd {H : Hp} {D : Addr} {o : HO} : del (upd H D o) D = del H D := by
  funext c
  by_cases e : c = D
  · rw [e, del_same, del_same]
  · rw [del_ne e, del_ne e, upd_ne e]
/-- new data of each turn, nothing else changed -/
theorem lc_same {J : It} {n : Nat} {G : Hp → Prop} {P : Nat → V → Prop} (w : Walk J n G (fun i H x H' => H' = H ∧ P i x)) {j : Nat} {σ : L2.St} {vs : List Nat} {te : TE} {H1 : Hp} {D : Addr} {Q : Hp → Prop} (hn : n ≤ 1000) (hD : H1 D = none) (hG : ∀ H, Same H1 H → G H) (f : Nat → PyData)
    (hs : ∀ i x H, i < n → P i x → Same H1 H → (∃ o, H D = some o) → wipe ((wipe σ vs).set j (some x)) vs = wipe σ vs ∧ ∀ k : VK, (∀ y H', Same H H' → Any (del H' D) y (f i) → k y H') → te ((wipe σ vs).set j (some x)) H k)
    (hq : ∀ H acc, Same H1 H → H D = some (.lst acc) → AnyL (del H D) acc ((List.range n).map f) → Q H) :
    ∃ W : Nat → Nat → Hp → Prop, (∃ m, W 0 m (upd H1 D (.lst []))) ∧ ∀ i m H, W i m H →
      (J.stop i H ∧ Q H) ∨ (J.go i H ∧ ∃ Nx : Hp → Prop, (∀ H', Nx H' → ∃ m', m' < m ∧ W (i + 1) m' H') ∧ ∀ x H', J.yld i H x H' → gName j x (wipe σ vs) H' fun σ2 H2 => wipe σ2 vs = wipe σ vs ∧ tYes σ2 H2 fun b H3 =>
        if b = true then te σ2 H3 fun y H4 => ∃ acc, H4 D = some (.lst acc) ∧ acc.length < sizeLine ∧ Nx (upd H4 D (.lst (acc ++ [y]))) else Nx H3) := by
  refine lc_it w (Qd := Q) (Pv := fun i H => Same H1 H ∧ ∃ acc, H D = some (.lst acc) ∧ acc.length = i ∧ AnyL (del H D) acc ((List.range i).map f)) ⟨same_new hD, [], upd_same, rfl, .nil⟩ (fun i H _ h => hG H h.1) ?_ ?_
  · rintro i x H H' hi ⟨s1, acc, ha, hl, an⟩ ⟨rfl, hp⟩
    obtain ⟨e1, e2⟩ := hs i x H' hi hp s1 ⟨_, ha⟩
    refine ⟨e1, ?_⟩
    show te _ _ _
    refine e2 _ fun y H4 s2 hy => ?_
    refine ⟨acc, s2 _ _ ha, Nat.lt_of_lt_of_le (by omega : acc.length < 1000) (by decide), ?_, acc ++ [y], upd_same, by rw [List.length_append, hl] <;> rfl, ?_⟩
    · intro b o e
      have ne : b ≠ D := ne_of_none e hD
      rw [upd_ne ne]
      exact s2 _ _ (s1 _ _ e)
    · rw [del_upd, List.range_succ, List.map_append]
      exact anyL_snoc (anyL_keep (Grow.del (Grow.of s2)) an) hy
  · rintro H ⟨s1, acc, ha, hl, an⟩
    exact hq H acc s1 ha an
theorem map_get {α β : Type} (g : α → β) (dd : α) : ∀ l : List α, (List.range l.length).map (fun i => g (l[i]?.getD dd)) = l.map g := by
  intro l
  apply List.ext_getElem
  · simp
  · intro i h1 h2
    simp at h1 h2
    simp [h1]
end Rw

set_option Elab.async false
set_option linter.all false
set_option maxRecDepth 100000
set_option maxHeartbeats 4000000
/-! TkQ: enumerate of a list or a tuple. -/
namespace Rw
open PySem PySem.Spec PyProof.Rows L2

set_option maxHeartbeats 1000000 in
theorem meets_enum_new1 {v : Value} {o : Obj} {H : Heap → Prop} (B : Begins v o H) :
    Meets (Builtin.«enumerate.__new__» ⟨[.type "enumerate", v], []⟩) (fun _ R s => H s.heap ∧
      R (.ok (.ret (.ref (s.heap.push o).objs.size))) { s with heap := (s.heap.push o).push { cls := .type "enumerate", data := .fields #[.none, .bool false, .ref s.heap.objs.size, rawInt 0, .none, .none] } }) :=
  .of_wp fun prog w A R s h => by
    obtain ⟨hp, g, d, tk, os⟩ := s; obtain ⟨h1, h⟩ := h
    have hsub := sub_enumerate
    have q1 : ∀ {A' : Around} {E : Value → Shared → Prop} {Q : Value → Shared → Prop}, Q (.ref hp.objs.size) ⟨hp.push o, g, d, tk, os⟩ → wpAny (model prog w) A' (pyIter v) Q E ⟨hp, g, d, tk, os⟩ :=
      fun q => B.iter prog w _ _ ⟨hp, g, d, tk, os⟩ _ h1 q
    wp_walk using q1
    refine wpAny_stack_any fun st => wpAny_pure ?_
    split
    · rename_i c _ _ _ _ _
      cases (c == Value.type "enumerate")
      · wp_walk using q1
        exact ⟨_, rfl, h⟩
      · wp_walk using q1
        exact ⟨_, rfl, h⟩
    · wp_walk using q1
      exact ⟨_, rfl, h⟩
section
variable {prog : Program} {w : World} {A : Around} {E : Value → Shared → Prop} {s : Shared}
theorem call_enum1 {v : Value} {o : Obj} {H : Heap → Prop} {Q : Value → Shared → Prop} (B : Begins v o H) (h1 : H s.heap)
    (h : ∀ h', IsEnum h' (s.heap.objs.size + 1) s.heap.objs.size 0 .none → h'.get? s.heap.objs.size = some o → h'.objs.size = s.heap.objs.size + 2 →
      (∀ b o, s.heap.get? b = some o → h'.get? b = some o) → Q (.ref (s.heap.objs.size + 1)) { s with heap := h' }) :
    wpAny (model prog w) A (call (.type "enumerate") [v]) Q E s := by
  refine callType_new F.called_enumerate (by decide) (F.typeCall_enumerate_1 _) (F.newCall_enumerate_1 _) (fun obj => F.args_object_init_2 obj _) F.entry_enumerate_new
    (meets_enum_new1 B) ⟨h1, ?_⟩
  have hz : (s.heap.push o).objs.size = s.heap.objs.size + 1 := Heap.size_push ..
  show _ ∧ _
  rw [hz]
  have he : IsEnum ((s.heap.push o).push { cls := .type "enumerate", data := .fields #[.none, .bool false, .ref s.heap.objs.size, rawInt 0, .none, .none] }) (s.heap.objs.size + 1) s.heap.objs.size 0 .none := by
    have := Heap.get?_push_size (s.heap.push o) (o := { cls := .type "enumerate", data := .fields #[.none, .bool false, .ref s.heap.objs.size, rawInt 0, .none, .none] }) rfl
    rw [hz] at this; exact this
  refine ⟨⟨_, he, rfl⟩, h _ he (Heap.get?_push_of_some _ (Heap.get?_push_size _ B.free)) (by rw [Heap.size_push, hz]) fun b o x => Heap.get?_push_of_some _ (Heap.get?_push_of_some _ x)⟩
end
def itObjB (k : Bool) (a : Addr) : Obj := { cls := .type (nmB k), data := .fields #[.ref a, .int 0 0] }
theorem begins_B (k : Bool) (a : Addr) (items : Array Value) : Begins (.ref a) (itObjB k a) fun h => sqB h k a items := by
  cases k with
  | true => exact begins_list a items
  | false => exact begins_tuple a items

/-- the list or tuple at a as it stands at each turn, each item in a new pair -/
def ItEB (K : PySem.W.Frag) (k : Bool) (a : Addr) : It :=
  ⟨fun i H => ∃ (xs : List V) (x : V), SqB K H k a xs ∧ xs[i]? = some x, fun i H v H' => ∃ T x, v = .ref T ∧ H T = none ∧ H' = upd H T (.tup [.int (i : Nat), x]) ∧ ∀ xs, SqB K H k a xs → xs[i]? = some x, fun i H => ∃ xs : List V, SqB K H k a xs ∧ xs.length = i⟩
theorem turn_enumB {P : Program} {w : World} {K : PySem.W.Frag} {k : Bool} {elts : List Expr} {kk : Nat} {tpos : Pos} (a e it : Addr) :
    Turn P w K (.Tuple elts kk tpos) (ItEB K k a) [e, it] e (fun i h => (∃ old, IsEnum h e it ((i : Nat) : Int) old) ∧ itB h k it a i ∧ e ≠ it ∧ a ≠ it ∧ e ≠ a) where
  mem := by simp
  obj := fun i h st b hb => by
    obtain ⟨⟨old, he⟩, hi, _⟩ := st
    have e' : b = e ∨ b = it := by simpa using hb
    rcases e' with z | z
    · rw [z]; exact ⟨_, he, fun v q => nomatch q⟩
    · rw [z]; exact itB_obj hi
  keep := fun i h h' st k => let ⟨⟨old, he⟩, hi, hne⟩ := st; ⟨⟨old, k e (by simp) _ he⟩, itB_at hi fun o q => k it (by simp) o q, hne⟩
  item := by
    intro X hP hw hK hc i pins s σ H E I hf st hg
    subst hP hw hK
    obtain ⟨⟨old, he⟩, hit, hne, hna, hea⟩ := st
    obtain ⟨xs, x, hq, hx⟩ := hg
    obtain ⟨its, rv, p, _⟩ := sqB_inv I hq
    obtain ⟨u, hu, ru⟩ := rv.get hx
    have hel : e < s.heap.objs.size := Heap.lt_size he
    have hil : it < s.heap.objs.size := by obtain ⟨_, q, _⟩ := itB_obj hit; exact Heap.lt_size q
    have hd : X.A.in1.handled = none := I.ok.hd hc
    have g1 : i < its.toArray.size := by
      have := (List.getElem?_eq_some_iff.mp hu).1
      simpa using this
    have hef : e ∉ [it, a] := by simp; exact ⟨hne, hea⟩
    refine wpAny_pyNext_enum_itemD (drawsB hd k it a hna its.toArray) he ⟨hit, p⟩ g1 hne hef fun x1 h' tk e1 ho hs' hT hsz hk => ?_
    have hx1 : x1 = u := by
      have q : its[i]? = some x1 := by simpa using e1
      rw [hu] at q
      exact (Option.some.inj q).symm
    subst hx1
    refine ⟨_, rfl, wpAny_letOwnedTupleGo_enum (s := { s with heap := h', toks := tk + 1 }) ho fun h'' he' sb => ?_⟩
    have hT2 : h''.get? s.heap.objs.size = some { cls := .type "tuple", data := .seq #[.int i tk, x1] } := (sb.2 _ (Nat.ne_of_gt hel)).trans hT
    have new : ObjOk X.prog X.w (upd H s.heap.objs.size (.tup [.int (i : Nat), x])) h'' s.heap.objs.size (.tup [.int (i : Nat), x]) :=
      ⟨by show 2 ≤ sizeLine; decide, [.int i tk, x1], .cons ⟨_, rfl⟩ (.cons ru .nil), ⟨_, hT2, rfl, _, rfl⟩⟩
    have I1 : Inv X pins σ (upd H s.heap.objs.size (.tup [.int (i : Nat), x])) { s with heap := h'', toks := tk + 1 } :=
      I.turnedNew (t' := tk + 1) (ch := [e, it]) (fun b ob hb q => (sb.2 b (fun z => hb (by simp [z]))).trans (hk b ob (fun z => hb (by simp [z])) (fun z => hb (by simp [z])) q)) hf (Nat.le_refl _) new
    refine ⟨.ref s.heap.objs.size, _, I1, rfl, ⟨_, x, rfl, I.hok.fresh (Nat.le_refl _), rfl, fun ys hy => by rw [sqB_inj I hy hq]; exact hx⟩, ⟨⟨x1, ?_⟩, itB_at hs'.1 fun o q => (sb.2 it (Ne.symm hne)).trans q, hne, hna, hea⟩, fun b hb => ?_⟩
    · have e1 : ((i + 1 : Nat) : Int) = (i : Int) + 1 := by omega
      rw [e1]; exact he'
    · have hb' : b < s.heap.objs.size := by
        have e' : b = e ∨ b = it := by simpa using hb
        rcases e' with z | z
        · rw [z]; exact hel
        · rw [z]; exact hil
      rw [upd_ne (Nat.ne_of_lt hb')]
      exact (hf b hb).1
  done := by
    intro X hP hw hK hc i pins s σ H E I hf st hg
    subst hP hw hK
    obtain ⟨⟨old, he⟩, hit, hne, hna, hea⟩ := st
    obtain ⟨xs, hq, hx⟩ := hg
    obtain ⟨its, rv, p, _⟩ := sqB_inv I hq
    obtain ⟨f0, f1, f2, f3, f4, f5⟩ := hf it (by simp)
    have hl := rv.length
    have hd : X.A.in1.handled = none := I.ok.hd hc
    have z1 : its.toArray.size = its.length := by simp
    have e1 : its.toArray.size = i := by omega
    refine wpAny_pyNext_enum_endD (drawsB hd k it a hna its.toArray) he (by rw [e1]; exact ⟨hit, p⟩) fun h' eb => ⟨rfl, I.turned (t' := s.toks) (fun b o hb q => eb b o hb q) f0 f1 f3 f4 f5⟩
  self := fun A i s Q E st h => let ⟨⟨_, he⟩, _⟩ := st; wpAny_pyIter_enum he h
def iEnumB (K : PySem.W.Frag) (ta : TA) : TI := fun σ H R => ta σ H fun vs H1 => ∃ a k xs, vs = [.ref a] ∧ SqB K H1 k a xs ∧ R (ItEB K k a) H1
theorem pi_enumB {X : Cx} {e : Expr} {ta : TA} {p pos tpos : Pos} {elts : List Expr} {kk : Nat} (hg : Gl X "enumerate") (hm : X.mg "enumerate" = none) (ha : PA X [e] ta) (hs : starEach [e] X.env = [(false, eval e X.env)] := by rfl) :
    PI X (.Tuple elts kk tpos) (.Call (.Name "enumerate" p) [e] [] pos) (iEnumB X.K ta) := by
  refine ⟨fun pins s σ H R I h => ?_⟩
  refine Call_ (ld_blt I hg hm boot_enumerate (PyProof.Rows.callWith_type1 (thn (ha.run pos pins s σ H _ I h) fun us s1 ⟨vs, H1, I1, r1, q1⟩ => ?_) hs rfl))
  obtain ⟨a, k, xs, ex, hq, q⟩ := q1
  subst ex
  cases r1 with
  | cons r rr =>
    cases rr
    cases r
    obtain ⟨its, rv, p', la⟩ := sqB_inv I1 hq
    refine call_enum1 (begins_B k a its.toArray) p' fun h' he hit hsz hk => wpAny_pyIter_enum he ?_
    have I2 : Inv X pins σ H1 { s1 with heap := h' } := I1.kept (t' := s1.toks) hk
    refine ⟨s1.heap.objs.size + 1, [s1.heap.objs.size + 1, s1.heap.objs.size], _, _, H1, rfl, I2, turn_enumB a (s1.heap.objs.size + 1) s1.heap.objs.size, ⟨⟨.none, he⟩, itB_new hit, Nat.succ_ne_self _, Nat.ne_of_lt la, fun z => Nat.lt_irrefl a (Nat.lt_of_lt_of_le la (Nat.le_trans (Nat.le_succ _) (Nat.le_of_eq z)))⟩, fun b hb => ?_, q⟩
    have e' : b = s1.heap.objs.size + 1 ∨ b = s1.heap.objs.size := by simpa using hb
    have hle : s1.heap.objs.size ≤ b := by
      rcases e' with z | z
      · rw [z]; exact Nat.le_add_right _ _
      · rw [z]; exact Nat.le_refl _
    exact I1.fpOk hle (I1.hok.fresh hle)
theorem walk_enumB {K : PySem.W.Frag} {k : Bool} {a : Addr} {xs : List V} : Walk (ItEB K k a) xs.length (fun H => SqB K H k a xs) (YPair (fun i => some (.int (i : Nat))) (fun i => xs[i]?)) := by
  refine ⟨fun i _ hi q => ⟨xs, xs[i], q, by simp [hi]⟩, fun _ q => ⟨xs, q, rfl⟩, fun i H v H' _ q y => ?_⟩
  obtain ⟨T, x, h1, h2, h3, h4⟩ := y
  exact ⟨T, .int (i : Nat), x, h1, h2, h3, rfl, h4 xs q⟩
end Rw

set_option Elab.async false
set_option linter.all false
set_option maxRecDepth 100000
set_option maxHeartbeats 4000000
/-! TkS: written dicts with int keys and with text keys: `in`, `d[k]`. -/
namespace Rw
open PySem PySem.Spec PyProof.Rows L2

inductive IntTab : List DictEntry → List (Int × Value) → Prop
  | nil : IntTab [] []
  | cons {e : DictEntry} {es : List DictEntry} {i : Int} {t : Tok} {v : Value} {kvs : List (Int × Value)} : e.key = .int i t → e.hash = hashInt i → e.val = v → IntTab es kvs → IntTab (e :: es) ((i, v) :: kvs)
inductive TxtTab (P : Params) : List DictEntry → List (Str × Value) → Prop
  | nil : TxtTab P [] []
  | cons {e : DictEntry} {es : List DictEntry} {x : Str} {t : Tok} {v : Value} {kvs : List (Str × Value)} : e.key = .str x t → e.hash = PyData.keyHash P x → e.val = v → TxtTab P es kvs → TxtTab P (e :: es) ((x, v) :: kvs)
def lookI (kvs : List (Int × Value)) (i : Int) : Option Value := (kvs.find? fun q => q.1 == i).map (·.2)
def lookS (kvs : List (Str × Value)) (x : Str) : Option Value := (kvs.find? fun q => q.1 == x).map (·.2)
theorem IntTab.find {es : List DictEntry} {kvs : List (Int × Value)} (T : IntTab es kvs) (i : Int) : findBy Value.isInt es.toArray i = lookI kvs i := by
  unfold findBy lookI
  rw [List.find?_toArray]
  induction T with
  | nil => rfl
  | cons k h v r ih =>
    rename_i e es j t u kvs
    rw [List.find?_cons, List.find?_cons]
    have e1 : Value.isInt i e.key = (j == i) := by rw [k] <;> rfl
    rw [e1]
    cases j == i with
    | true => simp [v]
    | false => exact ih
theorem TxtTab.find {P : Params} {es : List DictEntry} {kvs : List (Str × Value)} (T : TxtTab P es kvs) (x : Str) : findBy Value.isStrOf es.toArray x = lookS kvs x := by
  unfold findBy lookS
  rw [List.find?_toArray]
  induction T with
  | nil => rfl
  | cons k h v r ih =>
    rename_i e es y t u kvs
    rw [List.find?_cons, List.find?_cons]
    have e1 : Value.isStrOf x e.key = (y == x) := by rw [k] <;> rfl
    rw [e1]
    cases y == x with
    | true => simp [v]
    | false => exact ih
theorem IntTab.keys {es : List DictEntry} {kvs : List (Int × Value)} (T : IntTab es kvs) : ∀ e ∈ es, ∃ i t, e.key = .int i t ∧ e.hash = hashInt i := by
  induction T with
  | nil => intro e h; cases h
  | cons k h v r ih =>
    intro e he
    rcases List.mem_cons.mp he with z | z
    · rw [z]; exact ⟨_, _, k, h⟩
    · exact ih e z
theorem TxtTab.keys {P : Params} {es : List DictEntry} {kvs : List (Str × Value)} (T : TxtTab P es kvs) : ∀ e ∈ es, ∃ x t, e.key = .str x t ∧ e.hash = PyData.keyHash P x := by
  induction T with
  | nil => intro e h; cases h
  | cons k h v r ih =>
    intro e he
    rcases List.mem_cons.mp he with z | z
    · rw [z]; exact ⟨_, _, k, h⟩
    · exact ih e z
/-- at d: a written dict with int keys -/
structure TabI (K : PySem.W.Frag) (d : Addr) (kvs : List (Int × Value)) : Prop where
  at_ : ∃ (l : List DictEntry) (n : Nat), K.lookup d = some ⟨.type "dict", none, .dict l.toArray n, #[]⟩ ∧ IntTab l kvs
  low : (d == sysModules) = false
structure TabS (K : PySem.W.Frag) (w : World) (d : Addr) (kvs : List (Str × Value)) : Prop where
  at_ : ∃ (l : List DictEntry) (n : Nat), K.lookup d = some ⟨.type "dict", none, .dict l.toArray n, #[]⟩ ∧ TxtTab w.params l kvs
  low : (d == sysModules) = false
section
variable {X : Cx} {d : Addr} {pins : List (Addr × Obj)} {σ : L2.St} {H : Hp} {s : Shared}
theorem tabI_map {kvs : List (Int × Value)} (T : TabI X.K d kvs) (I : Inv X pins σ H s) : s.heap.MapOf (PySem.intKind X.prog X.w) d (lookI kvs) := by
  obtain ⟨l, n, hl, t⟩ := T.at_
  refine ⟨_, l.toArray, n, I.kIn _ _ hl, ⟨rfl, rfl, rfl⟩, rfl, fun e he => ?_, fun k => t.find k⟩
  obtain ⟨i, tk, e1, e2⟩ := t.keys e (by simpa using he)
  exact ⟨i, by rw [e1]; exact PySem.intKind_is X.prog X.w i tk, e2⟩
theorem tabS_map {kvs : List (Str × Value)} (T : TabS X.K X.w d kvs) (I : Inv X pins σ H s) : s.heap.MapOf (PySem.strKind X.prog X.w) d (lookS kvs) := by
  obtain ⟨l, n, hl, t⟩ := T.at_
  refine ⟨_, l.toArray, n, I.kIn _ _ hl, ⟨rfl, rfl, rfl⟩, rfl, fun e he => ?_, fun k => t.find k⟩
  obtain ⟨i, tk, e1, e2⟩ := t.keys e (by simpa using he)
  exact ⟨i, by rw [e1]; exact PySem.strKind_is X.prog X.w i tk, e2⟩
theorem op_in_ti {kvs : List (Int × Value)} (T : TabI X.K d kvs) : OpR X (compareOp .In) (fun x y H Q => ∃ i, x = .int i ∧ y = .ref d ∧ Q (.bl (lookI kvs i).isSome) H) := by
  intro pins s σ H x y v u Q I rx ry h
  obtain ⟨i, rfl, rfl, q⟩ := h
  obtain ⟨t, rfl⟩ := rx
  cases ry
  exact wpAny_in_of (PySem.intKind_is X.prog X.w i t) T.low (tabI_map T I) ⟨.bl _, H, I.tok _, rfl, q⟩
theorem op_in_ts {kvs : List (Str × Value)} (T : TabS X.K X.w d kvs) : OpR X (compareOp .In) (fun x y H Q => ∃ z, x = .str z ∧ y = .ref d ∧ Q (.bl (lookS kvs z).isSome) H) := by
  intro pins s σ H x y v u Q I rx ry h
  obtain ⟨z, rfl, rfl, q⟩ := h
  obtain ⟨t, rfl⟩ := rx
  cases ry
  exact wpAny_in_of (PySem.strKind_is X.prog X.w z t) T.low (tabS_map T I) ⟨.bl _, H, I.tok _, rfl, q⟩
theorem ix_ti {kvs : List (Int × Value)} (T : TabI X.K d kvs) : IxR X (fun x y H Q => ∃ i u v, x = .ref d ∧ y = .int i ∧ lookI kvs i = some u ∧ RelV v u ∧ Q v H) := by
  intro value slice pins s σ H x y v u Q I rx ry h hs
  obtain ⟨i, u0, r, rfl, rfl, e, ru, q⟩ := h
  obtain rfl : v = Value.ref d := rx
  obtain ⟨t, rfl⟩ := ry
  have hm := tabI_map T I
  exact tail_any hm.typeIs slot_dict_getitem.lookup (wpAny_getItem_of (PySem.intKind_is X.prog X.w i t) hm e ⟨r, H, I.tok _, ru, q⟩) hs
theorem ix_ts {kvs : List (Str × Value)} (T : TabS X.K X.w d kvs) : IxR X (fun x y H Q => ∃ z u v, x = .ref d ∧ y = .str z ∧ lookS kvs z = some u ∧ RelV v u ∧ Q v H) := by
  intro value slice pins s σ H x y v u Q I rx ry h hs
  obtain ⟨z, u0, r, rfl, rfl, e, ru, q⟩ := h
  obtain rfl : v = Value.ref d := rx
  obtain ⟨t, rfl⟩ := ry
  have hm := tabS_map T I
  exact tail_any hm.typeIs slot_dict_getitem.lookup (wpAny_getItem_of (PySem.strKind_is X.prog X.w z t) hm e ⟨r, H, I.tok _, ru, q⟩) hs
end
/-! the tables of this program -/
theorem prime_tab {us : List Value} {v1 v2 v3 v4 v5 v6 : Value} (i : Int) : (lookI [(2, v1), (3, v2), (5, v3), (7, v4), (11, v5), (13, v6)] i).isSome = decide (i ∈ primesL) := by
  unfold lookI primesL
  by_cases h : i ∈ ([2, 3, 5, 7, 11, 13] : List Int)
  · rw [decide_eq_true h]
    simp only [List.mem_cons, List.not_mem_nil, or_false] at h
    rcases h with e | e | e | e | e | e <;> subst e <;> rfl
  · rw [decide_eq_false h]
    simp only [List.mem_cons, List.not_mem_nil, or_false, not_or] at h
    obtain ⟨a, b, c, d, e, f⟩ := h
    have z : ∀ j : Int, ¬ i = j → (j == i) = false := fun j q => by simp; exact fun y => q y.symm
    simp [List.find?, z 2 a, z 3 b, z 5 c, z 7 d, z 11 e, z 13 f]
def isArr (c : Nat) : Bool := c == 62 || c == 60
theorem arr_tab {v1 v2 : Value} (c : Nat) : (lookS [(">", v1), ("<", v2)] ⟨#[c]⟩).isSome = isArr c := by
  unfold lookS isArr
  by_cases h1 : c = 62
  · subst h1; rfl
  · by_cases h2 : c = 60
    · subst h2; rfl
    · have z1 : ((">" : Str) == (⟨#[c]⟩ : Str)) = false := by
        refine beq_eq_false_iff_ne.mpr fun e => h1 ?_
        have := congrArg (fun x : Str => x.cps[0]?) e
        exact (Option.some.inj this).symm
      have z2 : (("<" : Str) == (⟨#[c]⟩ : Str)) = false := by
        refine beq_eq_false_iff_ne.mpr fun e => h2 ?_
        have := congrArg (fun x : Str => x.cps[0]?) e
        exact (Option.some.inj this).symm
      simp [List.find?, z1, z2, h1, h2]
end Rw

set_option Elab.async false
set_option linter.all false
set_option maxRecDepth 100000
set_option maxHeartbeats 4000000
/-! TkM: boxes, new data, what a law looks at. -/
namespace Rw
open PySem PySem.Spec PyProof.Rows L2
/-- any int of the script, or a number of the law's own -/
def spCellR (K : PySem.W.Frag) : Sp := fun vs H Q _ => ∃ (a : Addr) (ns : List Int) (j : Nat), vs = [.ref a, .int (j : Int)] ∧ SqL K H a (ns.map V.int) ∧ j < 1000 ∧ ∀ z : Int, Q (.int z) H
/-- at p a box that was drawn from at most n times -/
def Bx (H : Hp) (p : Addr) (n : Nat) : Prop := ∃ a b c : Int, H p = some (.lst [.int a, .int b, .int c]) ∧ 0 ≤ a ∧ 0 ≤ b ∧ b < 2147483629 ∧ 0 ≤ c ∧ c ≤ (n : Int)
theorem Bx.more {H : Hp} {p : Addr} {n m : Nat} (h : Bx H p n) (l : n ≤ m) : Bx H p m := by
  obtain ⟨a, b, c, h1, h2, h3, h4, h5, h6⟩ := h
  exact ⟨a, b, c, h1, h2, h3, h4, h5, by omega⟩
theorem Bx.keep {H H' : Hp} {p : Addr} {n : Nat} (h : Bx H p n) (k : Same H H') : Bx H' p n := by
  obtain ⟨a, b, c, h1, r⟩ := h
  exact ⟨a, b, c, k _ _ h1, r⟩
theorem Bx.ne {H : Hp} {p q : Addr} {n : Nat} (h : Bx H p n) (hq : H q = none) : p ≠ q := by
  obtain ⟨a, b, c, h1, _⟩ := h
  exact ne_of_none h1 hq
def spBoxR : Sp := fun vs H Q _ => ∃ z : Int, vs = [.int z] ∧ ∀ p H', H p = none → Same H H' → Bx H' p 0 → Q (.ref p) H'
def spTakeR : Sp := fun vs H Q _ => ∃ (p : Addr) (m : Int) (n : Nat), vs = [.ref p, .int m] ∧ 0 < m ∧ m < 2 ^ 200 ∧ Bx H p n ∧ n ≤ 1000000 ∧ ∀ r H', 0 ≤ r → r < m → Grow p H H' → Bx H' p (n + 1) → Q (.int r) H'
theorem fdiv_nonneg' {a m : Int} (h : 0 ≤ a) (hm : 0 < m) : 0 ≤ a / m := Int.ediv_nonneg h (by omega)
/-- the odd things, as data -/
def oddL : List PyData := [.none, .bool true, .bool false, .str "1", .str "", .tuple [], .list [], .tuple [.int 1], .list [.int 0], .dict [], .dict [(.str "a", .int 1)], .int (-1), .int (10 ^ Int.toNat 29), .int (-(10 ^ Int.toNat 29)), .tuple [.tuple [.int 1]], .str "><"]
theorem AnyL.get {H : Hp} : ∀ {vs : List V} {ds : List PyData}, AnyL H vs ds → ∀ i, i < ds.length → ∃ v d, vs[i]? = some v ∧ d ∈ ds ∧ Any H v d
  | _, _, .nil, i, h => absurd h (Nat.not_lt_zero i)
  | _, _, .cons a _, 0, _ => ⟨_, _, rfl, List.mem_cons_self, a⟩
  | _, _, .cons _ b, i + 1, h => by
    obtain ⟨v, d, h1, h2, h3⟩ := AnyL.get b i (Nat.lt_of_succ_lt_succ h)
    exact ⟨v, d, h1, List.mem_cons_of_mem _ h2, h3⟩
/-- what is new in H' -/
def nw (H H' : Hp) : Hp := fun a => if H a = none then H' a else none
theorem nw_put {H H' : Hp} {q : Addr} {o : HO} (h : H q = none) : nw H (upd H' q o) q = some o := by
  show (if H q = none then (upd H' q o) q else none) = _
  rw [if_pos h, upd_same]
theorem nw_same {H H1 H2 : Hp} (k : Same H1 H2) : Same (nw H H1) (nw H H2) := fun b o e => by
  have e' : (if H b = none then H1 b else none) = some o := e
  show (if H b = none then H2 b else none) = some o
  by_cases z : H b = none
  · rw [if_pos z] at e' ⊢
    exact k _ _ e'
  · rw [if_neg z] at e'
    cases e'
theorem nw_grow {H H1 H2 : Hp} {p : Addr} {o : HO} (hp : H p = some o) (k : Grow p H1 H2) : Same (nw H H1) (nw H H2) := fun b u e => by
  have e' : (if H b = none then H1 b else none) = some u := e
  show (if H b = none then H2 b else none) = some u
  by_cases z : H b = none
  · rw [if_pos z] at e' ⊢
    exact k _ _ (fun y => by rw [y, hp] at z; cases z) e'
  · rw [if_neg z] at e'
    cases e'
theorem nw_sub {H H' : Hp} : Same (nw H H') H' := fun b o e => by
  have e' : (if H b = none then H' b else none) = some o := e
  by_cases z : H b = none
  · rw [if_pos z] at e'
    exact e'
  · rw [if_neg z] at e'
    cases e'
theorem nw_del {H H' : Hp} {p : Addr} {o : HO} (hp : H p = some o) : Same (nw H H') (del H' p) := fun b u e => by
  have e' : (if H b = none then H' b else none) = some u := e
  by_cases z : H b = none
  · rw [if_pos z] at e'
    have ne : b ≠ p := fun y => by rw [y, hp] at z; cases z
    rw [del_ne ne]
    exact e'
  · rw [if_neg z] at e'
    cases e'
/-- some odd thing, all new -/
def spOddN : Sp := fun vs H Q _ => ∃ (p : Addr) (n : Nat), vs = [.ref p] ∧ Bx H p n ∧ n ≤ 1000000 ∧ ∀ v d H', d ∈ oddL → Any (nw H H') v d → Grow p H H' → Bx H' p (n + 1) → Q v H'
def spWholeR : Sp := fun vs H Q _ => ∃ v d, vs = [v] ∧ Any H v d ∧ Q (.bl (isIntD d)) H
/-! ### a list held against [] -/
def rNilE : R2 := fun x y H Q => ∃ a b xs, x = .ref a ∧ y = .ref b ∧ H a = some (.lst xs) ∧ H b = some (.lst []) ∧ Q (.bl xs.isEmpty) H
theorem op_eq_nil {X : Cx} (hu : X.A.units < cLine) : OpR X (compareOp .Eq) rNilE := by
  intro pins s σ H x y v u Q I rx ry h
  obtain ⟨a, b, xs, rfl, rfl, ea, eb, q⟩ := h
  obtain rfl : v = Value.ref a := rx
  obtain rfl : u = Value.ref b := ry
  obtain ⟨its, ra, pa, _⟩ := I.list (SqL.of ea)
  obtain ⟨its2, rb, pb, _⟩ := I.list (SqL.of eb)
  cases rb
  have ln := ra.length
  cases xs with
  | nil =>
    cases ra
    exact SeqAt.eq_listAt (e := fun _ => true) pa.isList pb.isList rfl hu (fun j h1 h2 => absurd h1 (Nat.not_lt_zero j)) ⟨.bl true, H, I, rfl, q⟩
  | cons z zs =>
    refine SeqAt.eq_list_lengthsAt pa.isList pb.isList ?_ hu ⟨.bl false, H, I, rfl, q⟩
    simp
    intro e
    rw [e] at ln
    cases ln
/-- some of the items, by a test of each; what is asked is whether there are any -/
theorem lc_filter {J : It} {n : Nat} {G : Hp → Prop} {P : Nat → V → Prop} (w : Walk J n G (fun i H x H' => H' = H ∧ P i x)) {j : Nat} {σ : L2.St} {vs : List Nat} {tt : TT} {te : TE} {H1 : Hp} {D : Addr} {Q : Hp → Prop} (hn : n ≤ 1000) (hD : H1 D = none) (hG : ∀ H, Same H1 H → G H) (f : Nat → Bool)
    (hs : ∀ i x H, i < n → P i x → Same H1 H → wipe ((wipe σ vs).set j (some x)) vs = wipe σ vs ∧ (∀ k : Bool → Hp → Prop, (∀ H', Same H H' → k (f i) H') → tt ((wipe σ vs).set j (some x)) H k) ∧ ∀ (k : VK) (H' : Hp), k x H' → te ((wipe σ vs).set j (some x)) H' k)
    (hq : ∀ H acc, Same H1 H → H D = some (.lst acc) → acc.isEmpty = (List.range n).all (fun i => !f i) → Q H) :
    ∃ W : Nat → Nat → Hp → Prop, (∃ m, W 0 m (upd H1 D (.lst []))) ∧ ∀ i m H, W i m H →
      (J.stop i H ∧ Q H) ∨ (J.go i H ∧ ∃ Nx : Hp → Prop, (∀ H', Nx H' → ∃ m', m' < m ∧ W (i + 1) m' H') ∧ ∀ x H', J.yld i H x H' → gName j x (wipe σ vs) H' fun σ2 H2 => wipe σ2 vs = wipe σ vs ∧ tt σ2 H2 fun b H3 =>
        if b = true then te σ2 H3 fun y H4 => ∃ acc, H4 D = some (.lst acc) ∧ acc.length < sizeLine ∧ Nx (upd H4 D (.lst (acc ++ [y]))) else Nx H3) := by
  refine lc_it w (Qd := Q) (Pv := fun i H => Same H1 H ∧ ∃ acc, H D = some (.lst acc) ∧ acc.length ≤ i ∧ acc.isEmpty = (List.range i).all (fun i => !f i)) ⟨same_new hD, [], upd_same, Nat.le_refl _, rfl⟩ (fun i H _ h => hG H h.1) ?_ ?_
  · rintro i x H H' hi ⟨s1, acc, ha, hl, ea⟩ ⟨rfl, hp⟩
    obtain ⟨e1, e2, e3⟩ := hs i x H' hi hp s1
    refine ⟨e1, e2 _ fun H4 s2 => ?_⟩
    cases fi : f i with
    | true =>
      refine iteT (e3 _ _ ⟨acc, s2 _ _ ha, Nat.lt_of_lt_of_le (by omega : acc.length < 1000) (by decide), ?_, acc ++ [x], upd_same, by rw [List.length_append]; exact Nat.succ_le_succ hl, ?_⟩)
      · intro b o e
        have ne : b ≠ D := ne_of_none e hD
        rw [upd_ne ne]
        exact s2 _ _ (s1 _ _ e)
      · rw [List.range_succ, List.all_append]
        simp [fi]
    | false =>
      refine iteF ⟨s1.trans s2, acc, s2 _ _ ha, by omega, ?_⟩
      rw [ea, List.range_succ, List.all_append]
      simp [fi]
  · rintro H ⟨s1, acc, ha, hl, ea⟩
    exact hq H acc s1 ha ea
theorem all_get {α : Type} (g : α → Bool) (dd : α) (l : List α) : (List.range l.length).all (fun i => g (l[i]?.getD dd)) = l.all g := by
  have e := congrArg (fun z : List Bool => z.all id) (map_get g dd l)
  simpa [List.all_map, Function.comp_def] using e
/-- None or an int -/
def oV : Option Int → V
  | none => .non | some n => .int n
def spRowR : Sp := fun vs H Q _ => ∃ v d wo, vs = [v, oV wo] ∧ Any H v d ∧ (itemsD d).length ≤ 1000 ∧ ∀ H', Same H H' → Q (.bl (isVecD (wo.getD (itemsD d).length) d)) H'
def spSheetR : Sp := fun vs H Q _ => ∃ v d ho w, vs = [v, oV ho, .int w] ∧ Any H v d ∧ Fit d ∧ ∀ H', Same H H' → Q (.bl (isMatD (ho.getD (itemsD d).length) w d)) H'
end Rw

set_option Elab.async false
set_option linter.all false
set_option maxRecDepth 100000
set_option maxHeartbeats 4000000
/-! TkT: rows as data: patterns, sizes, matrices; the promises of the program's defs about them. -/
namespace Rw
open PySem PySem.Spec PyProof.Rows L2

def intN : PyData → Int
  | .int n => n | _ => 0
def isPatD : PyData → Bool
  | .str x => decide (x.length ≤ 6) && x.cps.toList.all isArr
  | _ => false
def aboveD (n : Int) : PyData → Bool
  | .int l => decide (l ≤ n)
  | _ => true
def belowD (n : Int) : PyData → Bool
  | .int l => decide (n ≤ l)
  | _ => true
def inB : PyData → PyData → PyData → Bool
  | .int n, l, h => aboveD n l && belowD n h
  | _, _, _ => false
def isSzD (d : PyData) : Bool := inB d (.int 0) (.int 6)
def sizesOk (k : Nat) (d : PyData) : Bool := isSeqD d && (decide ((itemsD d).length = k + 1) && (itemsD d).all isSzD)
def mapsOk (k : Nat) (d : PyData) : Bool := isSeqD d && decide ((itemsD d).length = k)
def atD (d : PyData) (i : Nat) : PyData := (itemsD d)[i]?.getD .none
def isR (x : Str) (i : Nat) : Bool := x.cps.toList[i]? == some 62
def stA (x : Str) (i : Nat) : Nat := if isR x i then i else i + 1
def goA (x : Str) (i : Nat) : Nat := if isR x i then i + 1 else i
def szL (d : PyData) (i : Nat) : Int := intN (atD d i)
def matOk (x : Str) (ds dm : PyData) (i : Nat) : Bool := isMatD (szL ds (stA x i)) (szL ds (goA x i)) (atD dm i)
def badAt (x : Str) (ds dm : PyData) : Option Nat := (List.range x.length).find? fun i => !matOk x ds dm i
/-- the items modulo p -/
def modD (p : Int) : PyData → PyData
  | .int n => .int (n.fmod p) | d => d
def rowsM (p : Int) (m : PyData) : List PyData := (itemsD m).map fun r => .tuple ((itemsD r).map (modD p))
structure FitM (d : PyData) : Prop where
  len : (itemsD d).length ≤ 1000
  sub : ∀ e, e ∈ itemsD d → Fit e
theorem atD_fit {d : PyData} (f : FitM d) {i : Nat} (h : i < (itemsD d).length) : Fit (atD d i) := by
  unfold atD
  rw [List.getElem?_eq_getElem h]
  exact f.sub _ (List.getElem_mem h)
/-- a row: an instance of the class at C -/
def RowAt (C : Addr) (H : Hp) (a : Addr) (x : Str) (p : Int) (ss : List PyData) (mm : List (List PyData)) : Prop :=
  ∃ dx ts tm, H a = some (.ins C dx [("_pattern", .str x), ("_prime", .int p), ("_sizes", .ref ts), ("_maps", .ref tm)]) ∧ Any H (.ref ts) (.tuple ss) ∧ Any H (.ref tm) (.tuple (mm.map .tuple))
theorem RowAt.keep {C a : Addr} {H H' : Hp} {x : Str} {p : Int} {ss : List PyData} {mm : List (List PyData)} (r : RowAt C H a x p ss mm) (k : Same H H') : RowAt C H' a x p ss mm := by
  obtain ⟨dx, ts, tm, h1, h2, h3⟩ := r
  exact ⟨dx, ts, tm, k _ _ h1, h2.keep k, h3.keep k⟩

/-! ### the promises -/
def spNum : Sp := fun vs H Q _ => ∃ v d, vs = [v] ∧ Any H v d ∧ Q (.bl (isIntD d)) H
def spInt : Sp := fun vs H Q _ => ∃ v l h d dl dh, vs = [v, l, h] ∧ Any H v d ∧ Any H l dl ∧ Any H h dh ∧ Q (.bl (inB d dl dh)) H
def spPrime : Sp := fun vs H Q _ => ∃ v d, vs = [v] ∧ Any H v d ∧ Q (.bl (isPr d)) H
def spCheck (CP : Addr) : Sp := fun vs H Q E => ∃ v d, vs = [v] ∧ Any H v d ∧ (isPr d = true → Q .non H) ∧ (isPr d = false → Thrown CP v H E)
def spList : Sp := fun vs H Q _ => ∃ v d, vs = [v] ∧ Any H v d ∧ ∀ H', Same H H' → Q (.bl (isSeqD d)) H'
def spVec : Sp := fun vs H Q _ => ∃ v d n, vs = [v, .int n] ∧ Any H v d ∧ (itemsD d).length ≤ 1000 ∧ ∀ H', Same H H' → Q (.bl (isVecD n d)) H'
def spMat : Sp := fun vs H Q _ => ∃ v d h w, vs = [v, .int h, .int w] ∧ Any H v d ∧ Fit d ∧ ∀ H', Same H H' → Q (.bl (isMatD h w d)) H'
theorem seq_flag {v : V} {H : Hp} {d : PyData} (h : Any H v d) : (isSeqD d = true ∧ ∃ (k : Bool) (a : Addr) (xs : List V), v = .ref a ∧ (∀ {H' : Hp}, Same H H' → ∀ K, SqB K H' k a xs) ∧ AnyL H xs (itemsD d)) ∨ isSeqD d = false := by
  cases e : isSeqD d with
  | true => exact .inl ⟨rfl, seq_of h e⟩
  | false => exact .inr rfl
theorem Thrown.mono {C : Addr} {v : V} {H H1 : Hp} {E : XK} (h : Thrown C v H E) (k : Same H H1) : Thrown C v H1 E := fun d H' s hd hx => h d H' (k.trans s) (k.free hd) hx
/-- texts that are asked are no longer than a line -/
def Short (d : PyData) : Prop := ∀ x, d = .str x → x.length ≤ 1000
def spPat : Sp := fun vs H Q _ => ∃ v d, vs = [v] ∧ Any H v d ∧ Short d ∧ ∀ H', Same H H' → Q (.bl (isPatD d)) H'
def spCPat (CT : Addr) : Sp := fun vs H Q E => ∃ v d, vs = [v] ∧ Any H v d ∧ Short d ∧ (isPatD d = true → ∀ H', Same H H' → Q .non H') ∧ (isPatD d = false → Thrown CT v H E)
def spCSz (CZ : Addr) : Sp := fun vs H Q E => ∃ x v d, vs = [.str x, v] ∧ x.length ≤ 6 ∧ Any H v d ∧ (itemsD d).length ≤ 1000 ∧ (sizesOk x.length d = true → ∀ H', Same H H' → Q .non H') ∧ (sizesOk x.length d = false → Thrown CZ v H E)
def spWay : Sp := fun vs H Q _ => ∃ (x : Str) (i : Nat), vs = [.str x, .int (i : Int)] ∧ i < x.length ∧ x.length ≤ 6 ∧ ∀ t H', H t = none → Same H H' → H' t = some (.tup [.int (stA x i : Nat), .int (goA x i : Nat)]) → Q (.ref t) H'
def spCMaps (CA CM : Addr) : Sp := fun vs H Q E => ∃ x va vm ds dm, vs = [.str x, va, vm] ∧ x.length ≤ 6 ∧ Any H va ds ∧ sizesOk x.length ds = true ∧ Any H vm dm ∧ FitM dm ∧
  (mapsOk x.length dm = false → Thrown CA vm H E) ∧ (mapsOk x.length dm = true → (∀ i v H1, badAt x ds dm = some i → Same H H1 → Any H1 v (atD dm i) → Thrown CM v H1 E) ∧ (badAt x ds dm = none → ∀ H', Same H H' → Q .non H'))
/-- what Row(pattern, prime, sizes, maps) asks and tells -/
structure RowIn (H : Hp) (vp vq va vm : V) (dp dq ds dm : PyData) : Prop where
  ap : Any H vp dp
  aq : Any H vq dq
  as : Any H va ds
  am : Any H vm dm
  sp : Short dp
  ls : (itemsD ds).length ≤ 1000
  fm : FitM dm
structure RowErr (CT CP CZ CA CM : Addr) (H : Hp) (E : XK) (vp vq va vm : V) (dp dq ds dm : PyData) : Prop where
  pat : isPatD dp = false → Thrown CT vp H E
  pri : isPatD dp = true → isPr dq = false → Thrown CP vq H E
  siz : ∀ x, dp = .str x → isPatD dp = true → isPr dq = true → sizesOk x.length ds = false → Thrown CZ va H E
  map : ∀ x, dp = .str x → isPatD dp = true → isPr dq = true → sizesOk x.length ds = true → mapsOk x.length dm = false → Thrown CA vm H E
  mat : ∀ x i v H1, dp = .str x → isPatD dp = true → isPr dq = true → sizesOk x.length ds = true → mapsOk x.length dm = true → badAt x ds dm = some i → Same H H1 → Any H1 v (atD dm i) → Thrown CM v H1 E
def rowGood (x : Str) (p : Int) (ds dm : PyData) : Bool := isPatD (.str x) && (isPr (.int p) && (sizesOk x.length ds && (mapsOk x.length dm && (badAt x ds dm).isNone)))
def spIniR (C CT CP CZ CA CM : Addr) : Sp := fun vs H Q E => ∃ a dx vp vq va vm dp dq ds dm, vs = [.ref a, vp, vq, va, vm] ∧ H a = some (.ins C dx []) ∧ RowIn H vp vq va vm dp dq ds dm ∧ RowErr CT CP CZ CA CM H E vp vq va vm dp dq ds dm ∧
  ∀ x p H', dp = .str x → dq = .int p → rowGood x p ds dm = true → Grow a H H' → RowAt C H' a x p (itemsD ds) ((itemsD dm).map (rowsM p)) → Q .non H'
/-- the same of the call Row(..) -/
def tRowMk (C CT CP CZ CA CM : Addr) (H : Hp) (vs : List V) (Q : VK) (E : XK) : Prop := ∃ vp vq va vm dp dq ds dm, vs = [vp, vq, va, vm] ∧ RowIn H vp vq va vm dp dq ds dm ∧ RowErr CT CP CZ CA CM H E vp vq va vm dp dq ds dm ∧
  ∀ x p a H', dp = .str x → dq = .int p → rowGood x p ds dm = true → H a = none → Same H H' → RowAt C H' a x p (itemsD ds) ((itemsD dm).map (rowsM p)) → Q (.ref a) H'
theorem row_make {C CT CP CZ CA CM : Addr} {H : Hp} {vs : List V} {Q : VK} {E : XK} (h : tRowMk C CT CP CZ CA CM H vs Q E) : ∀ x dx, H x = none → H dx = none → dx ≠ x →
    spIniR C CT CP CZ CA CM (.ref x :: (vs ++ [])) (upd (upd H dx (.own x)) x (.ins C dx [])) (fun v H2 => v = .non ∧ Q (.ref x) H2) E := by
  obtain ⟨vp, vq, va, vm, dp, dq, ds, dm, rfl, i, e, q⟩ := h
  intro x dx hx hd ne
  have k1 : Same H (upd H dx (.own x)) := same_new hd
  have h2 : (upd H dx (.own x)) x = none := by rw [upd_ne ne.symm]; exact hx
  have k : Same H (upd (upd H dx (.own x)) x (.ins C dx [])) := k1.trans (same_new h2)
  refine ⟨x, dx, vp, vq, va, vm, dp, dq, ds, dm, rfl, upd_same, ⟨i.ap.keep k, i.aq.keep k, i.as.keep k, i.am.keep k, i.sp, i.ls, i.fm⟩, ⟨fun z => (e.pat z).mono k, fun z y => (e.pri z y).mono k, fun a b c d f => (e.siz a b c d f).mono k, fun a b c d f g => (e.map a b c d f g).mono k, fun y j v H1 h1 h2 h3 h4 h5 h6 h7 h8 => e.mat y j v H1 h1 h2 h3 h4 h5 h6 (k.trans h7) h8⟩, ?_⟩
  · intro y p H' e1 e2 g gr ra
    refine ⟨rfl, q y p x H' e1 e2 g hx (fun b o eb => ?_) ra⟩
    have nb : b ≠ x := ne_of_none eb hx
    exact gr b o nb (k _ _ eb)
end Rw

set_option Elab.async false
set_option linter.all false
set_option maxRecDepth 100000
set_option maxHeartbeats 4000000
/-! TkBA: what stands behind the top: methods of a class, written tables, ints, defs with two defaults. -/
namespace Rw
open PySem PySem.Spec PyProof.Rows L2
def MethHere (K : PySem.W.Frag) (C : Addr) (x q : Str) (st : Stmt) : Prop := ∃ f : Addr, PySem.W.findIn K (.ref C) x = some (some (.ref f)) ∧ PySem.W.isFn K (.ref f) = true ∧ DefAt K x q st f
def TabIHere (K : PySem.W.Frag) (x : Str) (d : Addr) (kvs : List (Int × Value)) : Prop := PySem.W.nsIn K mainGlobals x = some (some (.ref d)) ∧ TabI K d kvs
def TabSHere (K : PySem.W.Frag) (w : World) (x : Str) (d : Addr) (kvs : List (Str × Value)) : Prop := PySem.W.nsIn K mainGlobals x = some (some (.ref d)) ∧ TabS K w d kvs
/-- a property of a class -/
def PropHere (K : PySem.W.Frag) (C : Addr) (x q : Str) (st : Stmt) : Prop := ∃ p g : Addr, PropOf K C x p g ∧ DefAt K x q st g
section
variable {K : PySem.W.Frag} {mg : Str → Option Value} {h : Heap}
theorem PropHere.of {C : Addr} {x q : Str} {st : Stmt} {p g : Addr} {rest : List Value} {oc : Value} {od : Option Addr} {kV dc pm : Value} {an : Option Addr} {cd ct : Value} {sl : Array (Option Value)} (a : PySem.W.findIn K (.ref C) x = some (some (.ref p)))
    (ge : PySem.W.specialIn K (.ref p) "__get__" = some (some (.builtin "property.__get__"))) (ta : PySem.W.takesIn K (.ref p) = some true) (re : PySem.W.recIn K p "property" = some (.ref g :: rest))
    (l : K.lookup g = some ⟨oc, od, .func (PySem.W.fnOf x q (defArgs st) (defBody st) (defScope st) .none kV dc pm an cd ct), sl⟩) (c : PySem.W.codeIn K cd q = true) (k : PySem.W.keepIn K (.ref g) = true) : PropHere K C x q st :=
  ⟨p, g, ⟨a, ge, ta, ⟨rest, re⟩⟩, oc, od, kV, dc, pm, an, cd, ct, sl, l, c, k⟩
theorem PropHere.pr {C : Addr} {x q : Str} {st : Stmt} {ps : List Str} (D : PropHere K C x q st)
    (b : ∀ (kV doc pm : Value) (an : Option Addr) (cdv ct : Value) (us : List Value), us.length = ps.length → bindArgs (PySem.W.fnOf x q (defArgs st) (defBody st) (defScope st) .none kV doc pm an cdv ct) ⟨us, []⟩ = pure (ps.zip us)) :
    ∃ (p g : Addr) (fd : FuncData), PropOf K C x p g ∧ Fun K x q st g fd ∧ Binds K fd ps [] := by
  obtain ⟨p, g, hp, oc, od, kV, dc, pm, an, cd, ct, sl, l, c, k⟩ := D
  have F := fun_mk (x := x) (qual := q) (st := st) l c k
  exact ⟨p, g, _, hp, F, F.binds b⟩
theorem MethHere.of {C : Addr} {x q : Str} {st : Stmt} {f : Addr} {oc : Value} {od : Option Addr} {kV dc pm : Value} {an : Option Addr} {cd ct : Value} {sl : Array (Option Value)} (g : PySem.W.findIn K (.ref C) x = some (some (.ref f))) (fn : PySem.W.isFn K (.ref f) = true)
    (l : K.lookup f = some ⟨oc, od, .func (PySem.W.fnOf x q (defArgs st) (defBody st) (defScope st) .none kV dc pm an cd ct), sl⟩) (c : PySem.W.codeIn K cd q = true) (k : PySem.W.keepIn K (.ref f) = true) : MethHere K C x q st :=
  ⟨f, g, fn, oc, od, kV, dc, pm, an, cd, ct, sl, l, c, k⟩
theorem TabIHere.of {x : Str} {d : Addr} {kvs : List (Int × Value)} {l : List DictEntry} {n : Nat} (g : PySem.W.nsIn K mainGlobals x = some (some (.ref d))) (k : K.lookup d = some ⟨.type "dict", none, .dict l.toArray n, #[]⟩) (t : IntTab l kvs) (z : (d == sysModules) = false) : TabIHere K x d kvs :=
  ⟨g, ⟨⟨l, n, k, t⟩, z⟩⟩
theorem TabSHere.of {w : World} {x : Str} {d : Addr} {kvs : List (Str × Value)} {l : List DictEntry} {n : Nat} (g : PySem.W.nsIn K mainGlobals x = some (some (.ref d))) (k : K.lookup d = some ⟨.type "dict", none, .dict l.toArray n, #[]⟩) (t : TxtTab w.params l kvs) (z : (d == sysModules) = false) : TabSHere K w x d kvs :=
  ⟨g, ⟨⟨l, n, k, t⟩, z⟩⟩
theorem MethHere.mt {C : Addr} {x q : Str} {st : Stmt} {ps : List Str} (D : MethHere K C x q st)
    (b : ∀ (kV doc pm : Value) (an : Option Addr) (cdv ct : Value) (us : List Value), us.length = ps.length → bindArgs (PySem.W.fnOf x q (defArgs st) (defBody st) (defScope st) .none kV doc pm an cdv ct) ⟨us, []⟩ = pure (ps.zip us)) :
    ∃ (f : Addr) (fd : FuncData), PySem.W.findIn K (.ref C) x = some (some (.ref f)) ∧ PySem.W.isFn K (.ref f) = true ∧ PySem.W.keepIn K (.ref f) = true ∧ Fun K x q st f fd ∧ Binds K fd ps [] := by
  obtain ⟨f, g, fn, oc, od, kV, dc, pm, an, cd, ct, sl, l, c, k⟩ := D
  have F := fun_mk (x := x) (qual := q) (st := st) l c k
  exact ⟨f, _, g, fn, k, F, F.binds b⟩
end
/-- a def with two defaults None, called with all three -/
theorem DflHere.own3 {l : PySem.Program} {w : World} {K : PySem.W.Frag} {mg : Str → Option Value} {base h : Heap} {x p1 p2 p3 : Str} {st : Stmt} {CX : CXT} {k : Nat} {sp : Sp} (D : DflHere K x st [.none, .none]) (X : K.In h) (G : h.Ns mainGlobals mg)
    (b : ∀ (T : Addr) (kV doc pm : Value) (an : Option Addr) (cdv ct : Value) (us its : List Value), us.length = 3 → its.length = 2 →
      ∃ g, bindArgs (PySem.W.fnOf x x (defArgs st) (defBody st) (defScope st) (.ref T) kV doc pm an cdv ct) ⟨us, []⟩ = seqItems? (.ref T) >>= g ∧ g (some its.toArray) = pure (([p1, p2, p3] : List Str).zip (us ++ its.drop 2)))
    (ok : ∀ (f : Addr) (fd : FuncData), FunD K x x (defArgs st) (defBody st) (defScope st) [.non, .non] [] f fd → FnOk l w K mg base CX k f fd [p1, p2, p3] sp) : Own l w K mg base CX k x [p1, p2, p3] [] sp := by
  obtain ⟨f, T', oc, od, kV, dc, pm, an, cd, ct, sl, tc, td, n, ts, g, l', c', k', lT⟩ := D
  have F : FunD K x x (defArgs st) (defBody st) (defScope st) [.non, .non] [] f _ := ⟨⟨oc, od, _, kV, dc, pm, an, cd, ct, sl, rfl, l', c', .inr ⟨by simp, T', _, [.none, .none], n, rfl, lT, rfl, .cons rfl (.cons rfl .nil)⟩, .inl rfl⟩, k'⟩
  obtain ⟨ds, v, bb⟩ := F.binds1 (ps := [p1, p2, p3]) 3 2 (by simp) rfl b
  exact ⟨f, _, ds, PySem.W.mg_of X G g, k', ok f _ F, bb, v⟩
end Rw

set_option Elab.async false
set_option linter.all false
set_option maxRecDepth 100000
set_option maxHeartbeats 4000000
/-! TkBB: the written table of inverses. -/
namespace Rw
open PySem PySem.Spec PyProof.Rows L2
def invL (p : Int) : List Int :=
  if p = 2 then [0, 1] else if p = 3 then [0, 1, 2] else if p = 5 then [0, 1, 3, 2, 4] else if p = 7 then [0, 1, 4, 5, 2, 3, 6]
  else if p = 11 then [0, 1, 6, 4, 3, 9, 2, 8, 7, 5, 10] else [0, 1, 7, 9, 10, 8, 11, 2, 5, 3, 4, 6, 12]
/-- for each prime the tuple of the inverses stands in the table -/
structure TabInv (K : PySem.W.Frag) (kI : List (Int × Value)) : Prop where
  at_ : ∀ p, p ∈ primesL → ∃ a, lookI kI p = some (.ref a) ∧ ∀ H : Hp, SqT K H a ((invL p).map V.int)
theorem invL_ok : ∀ p, p ∈ primesL → ∀ j : Nat, j < p.toNat → 0 < j → ∃ r : Int, (invL p)[j]? = some r ∧ 0 < r ∧ r < p ∧ (r * j) % p = 1 := by
  intro p hp
  have h : ∀ p, p ∈ primesL → ∀ j : Nat, j < p.toNat → 0 < j → (match (invL p)[j]? with | some r => decide (0 < r) && decide (r < p) && decide ((r * j) % p = 1) | none => false) = true := by decide +kernel
  intro j h1 h2
  have := h p hp j h1 h2
  cases e : (invL p)[j]? with
  | none => rw [e] at this; cases this
  | some r =>
    rw [e] at this
    simp only [Bool.and_eq_true, decide_eq_true_iff] at this
    exact ⟨r, rfl, this.1.1, this.1.2, this.2⟩
def TupHere (K : PySem.W.Frag) (a : Addr) (us : List Value) : Prop := ∃ (dd : Option Addr) (n : Nat) (sl : Array (Option Value)), K.lookup a = some ⟨.type "tuple", dd, .seq us.toArray n, sl⟩
section
variable {K : PySem.W.Frag}
theorem TupHere.of {a : Addr} {us : List Value} {dd : Option Addr} {n : Nat} {sl : Array (Option Value)} (l : K.lookup a = some ⟨.type "tuple", dd, .seq us.toArray n, sl⟩) : TupHere K a us := ⟨dd, n, sl, l⟩
theorem TupHere.sq {a : Addr} {us : List Value} {xs : List V} (E : TupHere K a us) (r : Vals xs us) (z : xs.length ≤ sizeLine) (H : Hp) : SqT K H a xs := by
  obtain ⟨dd, n, sl, l⟩ := E
  exact Or.inr ⟨_, us.toArray, n, l, rfl, rfl, by rw [r.length] at z; simpa using z, by simpa using r⟩
/-- the written table with its tuples -/
structure InvHere (K : PySem.W.Frag) (x : Str) (aI a2 a3 a5 a7 a11 a13 : Addr) (u2 u3 u5 u7 u11 u13 : List Value) : Prop where
  t : TabIHere K x aI [(2, .ref a2), (3, .ref a3), (5, .ref a5), (7, .ref a7), (11, .ref a11), (13, .ref a13)]
  k2 : TupHere K a2 u2
  k3 : TupHere K a3 u3
  k5 : TupHere K a5 u5
  k7 : TupHere K a7 u7
  k11 : TupHere K a11 u11
  k13 : TupHere K a13 u13
  v2 : Vals ((invL 2).map V.int) u2
  v3 : Vals ((invL 3).map V.int) u3
  v5 : Vals ((invL 5).map V.int) u5
  v7 : Vals ((invL 7).map V.int) u7
  v11 : Vals ((invL 11).map V.int) u11
  v13 : Vals ((invL 13).map V.int) u13
theorem InvHere.tab {x : Str} {aI a2 a3 a5 a7 a11 a13 : Addr} {u2 u3 u5 u7 u11 u13 : List Value} (E : InvHere K x aI a2 a3 a5 a7 a11 a13 u2 u3 u5 u7 u11 u13) : TabInv K [(2, .ref a2), (3, .ref a3), (5, .ref a5), (7, .ref a7), (11, .ref a11), (13, .ref a13)] := by
  refine ⟨fun p hp => ?_⟩
  simp only [primesL, List.mem_cons, List.not_mem_nil, or_false] at hp
  rcases hp with z | z | z | z | z | z <;> subst z
  · exact ⟨a2, rfl, E.k2.sq E.v2 (by decide)⟩
  · exact ⟨a3, rfl, E.k3.sq E.v3 (by decide)⟩
  · exact ⟨a5, rfl, E.k5.sq E.v5 (by decide)⟩
  · exact ⟨a7, rfl, E.k7.sq E.v7 (by decide)⟩
  · exact ⟨a11, rfl, E.k11.sq E.v11 (by decide)⟩
  · exact ⟨a13, rfl, E.k13.sq E.v13 (by decide)⟩
end
end Rw

set_option Elab.async false
set_option linter.all false
set_option maxRecDepth 100000
set_option maxHeartbeats 4000000
/-! TkU: data over heaps in which an object that is no data changes; data without lists; tuples and lists made of data. -/
namespace Rw
open PySem PySem.Spec PyProof.Rows L2
/-- what is data stays -/
structure Keeps (H H' : Hp) : Prop where
  l : ∀ b xs, H b = some (.lst xs) → H' b = some (.lst xs)
  t : ∀ b xs, H b = some (.tup xs) → H' b = some (.tup xs)
  d : ∀ b kvs, H b = some (.dK kvs) → H' b = some (.dK kvs)
mutual
theorem any_keeps {H H' : Hp} (k : Keeps H H') : ∀ (d : PyData) (v : V), Any H v d → Any H' v d
  | .none, _, h => by cases h; exact .non
  | .bool b, _, h => by cases h; exact .bl b
  | .int i, _, h => by cases h; exact .int i
  | .str x, _, h => by cases h; exact .str x
  | .list ds, _, h => by
    cases h with
    | lst e a => exact .lst (k.l _ _ e) (anyL_keeps k ds _ a)
  | .tuple ds, _, h => by
    cases h with
    | tup e a => exact .tup (k.t _ _ e) (anyL_keeps k ds _ a)
  | .dict ds, _, h => by
    cases h with
    | dct e a => exact .dct (k.d _ _ e) (anyK_keeps k ds _ a)
theorem anyL_keeps {H H' : Hp} (k : Keeps H H') : ∀ (ds : List PyData) (vs : List V), AnyL H vs ds → AnyL H' vs ds
  | [], _, h => by cases h; exact .nil
  | d :: ds, _, h => by
    cases h with
    | cons a b => exact .cons (any_keeps k d _ a) (anyL_keeps k ds _ b)
theorem anyK_keeps {H H' : Hp} (k : Keeps H H') : ∀ (ds : List (PyData × PyData)) (vs : List (Key × V)), AnyK H vs ds → AnyK H' vs ds
  | [], _, h => by cases h; exact .nil
  | (_, d) :: ds, _, h => by
    cases h with
    | cons a b => exact .cons (any_keeps k d _ a) (anyK_keeps k ds _ b)
end
theorem Keeps.refl {H : Hp} : Keeps H H := ⟨fun _ _ z => z, fun _ _ z => z, fun _ _ z => z⟩
theorem Keeps.trans {H H1 H2 : Hp} (a : Keeps H H1) (b : Keeps H1 H2) : Keeps H H2 := ⟨fun c xs z => b.l c xs (a.l c xs z), fun c xs z => b.t c xs (a.t c xs z), fun c xs z => b.d c xs (a.d c xs z)⟩
theorem Keeps.of {H H' : Hp} (k : Same H H') : Keeps H H' := ⟨fun b _ e => k b _ e, fun b _ e => k b _ e, fun b _ e => k b _ e⟩
theorem keeps_ins {H H' : Hp} {a C dx : Addr} {fs : List (Str × V)} (e : H a = some (.ins C dx fs)) (g : Grow a H H') : Keeps H H' := by
  have ne : ∀ b o, H b = some o → (∀ fs', o ≠ .ins C dx fs') → b ≠ a := fun b o h n z => by
    rw [z, e] at h
    exact n fs (Option.some.inj h).symm
  exact ⟨fun b xs h => g b _ (ne b _ h fun _ z => nomatch z) h, fun b xs h => g b _ (ne b _ h fun _ z => nomatch z) h, fun b xs h => g b _ (ne b _ h fun _ z => nomatch z) h⟩
theorem Any.keeps {H H' : Hp} {v : V} {d : PyData} (h : Any H v d) (k : Keeps H H') : Any H' v d := any_keeps k d v h
mutual
/-- no list and no dict in it -/
def noL : PyData → Bool
  | .list _ => false
  | .dict _ => false
  | .tuple ds => noLs ds
  | _ => true
def noLs : List PyData → Bool
  | [] => true
  | d :: ds => noL d && noLs ds
end
theorem noLs_of : ∀ {ds : List PyData}, (∀ d, d ∈ ds → noL d = true) → noLs ds = true
  | [], _ => rfl
  | d :: ds, h => by
    show (noL d && noLs ds) = true
    rw [h d List.mem_cons_self, noLs_of fun e he => h e (List.mem_cons_of_mem _ he)] <;> rfl
mutual
theorem any_noL {H : Hp} {D : Addr} {xs : List V} (h : H D = some (.lst xs)) : ∀ (d : PyData) (v : V), Any H v d → noL d = true → Any (del H D) v d
  | .none, _, a, _ => by cases a; exact .non
  | .bool b, _, a, _ => by cases a; exact .bl b
  | .int i, _, a, _ => by cases a; exact .int i
  | .str x, _, a, _ => by cases a; exact .str x
  | .list ds, _, _, z => by cases z
  | .dict ds, _, _, z => by cases z
  | .tuple ds, _, a, z => by
    cases a with
    | tup e b =>
      rename_i q ys
      have ne : q ≠ D := fun y => by
        rw [y, h] at e
        cases e
      exact .tup (by rw [del_ne ne]; exact e) (anyL_noL h ds _ b z)
theorem anyL_noL {H : Hp} {D : Addr} {xs : List V} (h : H D = some (.lst xs)) : ∀ (ds : List PyData) (vs : List V), AnyL H vs ds → noLs ds = true → AnyL (del H D) vs ds
  | [], _, a, _ => by cases a; exact .nil
  | d :: ds, _, a, z => by
    have z2 : (noL d && noLs ds) = true := z
    rw [Bool.and_eq_true] at z2
    cases a with
    | cons a b => exact .cons (any_noL h d _ a z2.1) (anyL_noL h ds _ b z2.2)
end
/-- a comprehension that makes data without lists -/
theorem lc_tup {J : It} {n : Nat} {G : Hp → Prop} {P : Nat → V → Prop} (w : Walk J n G (fun i H x H' => H' = H ∧ P i x)) {j : Nat} {σ : L2.St} {vs : List Nat} {te : TE} {H1 : Hp} {D : Addr} {Q : Hp → Prop} (hn : n ≤ 1000) (hD : H1 D = none) (hG : ∀ H, Same H1 H → G H) (f : Nat → PyData)
    (nf : ∀ i, i < n → noL (f i) = true)
    (hs : ∀ i x H, i < n → P i x → Same H1 H → (∃ o, H D = some o) → wipe ((wipe σ vs).set j (some x)) vs = wipe σ vs ∧ ∀ k : VK, (∀ y H', Same H H' → Any H' y (f i) → k y H') → te ((wipe σ vs).set j (some x)) H k)
    (hq : ∀ H acc, Same H1 H → H D = some (.lst acc) → AnyL (del H D) acc ((List.range n).map f) → Q H) :
    ∃ W : Nat → Nat → Hp → Prop, (∃ m, W 0 m (upd H1 D (.lst []))) ∧ ∀ i m H, W i m H →
      (J.stop i H ∧ Q H) ∨ (J.go i H ∧ ∃ Nx : Hp → Prop, (∀ H', Nx H' → ∃ m', m' < m ∧ W (i + 1) m' H') ∧ ∀ x H', J.yld i H x H' → gName j x (wipe σ vs) H' fun σ2 H2 => wipe σ2 vs = wipe σ vs ∧ tYes σ2 H2 fun b H3 =>
        if b = true then te σ2 H3 fun y H4 => ∃ acc, H4 D = some (.lst acc) ∧ acc.length < sizeLine ∧ Nx (upd H4 D (.lst (acc ++ [y]))) else Nx H3) := by
  refine lc_it w (Qd := Q) (Pv := fun i H => Same H1 H ∧ ∃ acc, H D = some (.lst acc) ∧ acc.length = i ∧ AnyL (del H D) acc ((List.range i).map f)) ⟨same_new hD, [], upd_same, rfl, .nil⟩ (fun i H _ h => hG H h.1) ?_ ?_
  · rintro i x H H' hi ⟨s1, acc, ha, hl, an⟩ ⟨rfl, hp⟩
    obtain ⟨e1, e2⟩ := hs i x H' hi hp s1 ⟨_, ha⟩
    refine ⟨e1, ?_⟩
    show te _ _ _
    refine e2 _ fun y H4 s2 hy => ?_
    have h4 := s2 _ _ ha
    refine ⟨acc, h4, Nat.lt_of_lt_of_le (by omega : acc.length < 1000) (by decide), ?_, acc ++ [y], upd_same, by rw [List.length_append, hl] <;> rfl, ?_⟩
    · intro b o e
      have ne : b ≠ D := ne_of_none e hD
      rw [upd_ne ne]
      exact s2 _ _ (s1 _ _ e)
    · rw [del_upd, List.range_succ, List.map_append]
      exact anyL_snoc (anyL_keep (Grow.del (Grow.of s2)) an) (any_noL h4 _ _ hy (nf i hi))
  · rintro H ⟨s1, acc, ha, hl, an⟩
    exact hq H acc s1 ha an
abbrev rTupOf (K : PySem.W.Frag) : List V → Hp → VK → Prop := fun xs H Q => ∃ p ys, xs = [.ref p] ∧ ((SqL K H p ys ∧ ∀ l, H l = none → Q (.ref l) (upd H l (.tup ys))) ∨ (SqT K H p ys ∧ Q (.ref p) H))
abbrev rLstOf (K : PySem.W.Frag) : List V → Hp → VK → Prop := fun xs H Q => ∃ p ys, xs = [.ref p] ∧ (SqL K H p ys ∨ SqT K H p ys) ∧ ∀ l, H l = none → Q (.ref l) (upd H l (.lst ys))
section
variable {K : PySem.W.Frag} {H : Hp} {v : V} {d : PyData} {Q : VK}
/-- tuple(x) -/
theorem tup_of_any (an : Any H v d) (e : isSeqD d = true) (q : ∀ ts H', Same H H' → Any H' (.ref ts) (.tuple (itemsD d)) → Q (.ref ts) H') : rTupOf K [v] H Q := by
  cases an with
  | lst ea al => exact ⟨_, _, rfl, .inl ⟨SqL.of ea, fun l hl => q l _ (same_new hl) (.tup upd_same (anyL_keep (same_new hl) al))⟩⟩
  | tup ea al => exact ⟨_, _, rfl, .inr ⟨SqT.of ea, q _ _ (fun _ _ z => z) (.tup ea al)⟩⟩
  | _ => cases e
/-- list(x) -/
theorem list_of_any (an : Any H v d) (e : isSeqD d = true) (q : ∀ l ys, H l = none → AnyL H ys (itemsD d) → Q (.ref l) (upd H l (.lst ys))) : rLstOf K [v] H Q := by
  cases an with
  | lst ea al => exact ⟨_, _, rfl, .inl (SqL.of ea), fun l hl => q l _ hl al⟩
  | tup ea al => exact ⟨_, _, rfl, .inr (SqT.of ea), fun l hl => q l _ hl al⟩
  | _ => cases e
end
/-- tuple(x), list(x) of data -/
def rTupA : List V → Hp → VK → Prop := fun xs H Q => ∃ v d, xs = [v] ∧ Any H v d ∧ isSeqD d = true ∧ ∀ ts H', Same H H' → Any H' (.ref ts) (.tuple (itemsD d)) → Q (.ref ts) H'
def rLstA : List V → Hp → VK → Prop := fun xs H Q => ∃ v d, xs = [v] ∧ Any H v d ∧ isSeqD d = true ∧ ∀ l ys, H l = none → AnyL H ys (itemsD d) → Q (.ref l) (upd H l (.lst ys))
theorem call_tupA {X : Cx} : CallR X (.type "tuple") rTupA := by
  intro pins s σ H xs us Q I r h
  obtain ⟨v, d, rfl, an, e, q⟩ := h
  exact call_tuple_of pins s σ H _ us Q I r (tup_of_any an e q)
theorem call_lstA {X : Cx} : CallR X (.type "list") rLstA := by
  intro pins s σ H xs us Q I r h
  obtain ⟨v, d, rfl, an, e, q⟩ := h
  exact call_list_of pins s σ H _ us Q I r (list_of_any an e q)
theorem noL_mods {p : Int} {ds : List PyData} (h : ds.all isIntD = true) : noLs (ds.map (modD p)) = true := by
  refine noLs_of fun d hd => ?_
  obtain ⟨e, he, rfl⟩ := List.mem_map.mp hd
  have := List.all_eq_true.mp h e he
  cases e with
  | int n => rfl
  | _ => cases this
theorem vec_parts {n : Int} {d : PyData} (e : isVecD n d = true) : isSeqD d = true ∧ (((itemsD d).length : Nat) : Int) = n ∧ (itemsD d).all isIntD = true := by
  unfold isVecD at e
  simp only [Bool.and_eq_true, decide_eq_true_eq] at e
  exact e
theorem mat_parts {n m : Int} {d : PyData} (e : isMatD n m d = true) : isSeqD d = true ∧ (((itemsD d).length : Nat) : Int) = n ∧ ∀ x, x ∈ itemsD d → isVecD m x = true := by
  unfold isMatD at e
  simp only [Bool.and_eq_true, decide_eq_true_eq, List.all_eq_true] at e
  exact e
theorem noL_rows {p h w : Int} {m : PyData} (e : isMatD h w m = true) : noLs (rowsM p m) = true := by
  refine noLs_of fun d hd => ?_
  obtain ⟨r, hr, rfl⟩ := List.mem_map.mp hd
  exact noL_mods (vec_parts ((mat_parts e).2.2 r hr)).2.2
theorem bad_none_all {x : Str} {ds dm : PyData} (h : badAt x ds dm = none) : ∀ j, j < x.length → matOk x ds dm j = true := by
  intro j hj
  unfold badAt at h
  rw [List.find?_eq_none] at h
  have := h j (List.mem_range.mpr hj)
  simpa using this
end Rw

set_option Elab.async false
set_option linter.all false
set_option maxRecDepth 100000
set_option maxHeartbeats 4000000
/-! TkY: ranges as values, walked; methods called in a try's body; bars as data. -/
namespace Rw
open PySem PySem.Spec PyProof.Rows L2
section
variable {X : Cx}
theorem cr_range1 : CallR X (.type "range") (fun vs H Q => ∃ j, vs = [V.int j] ∧ ∀ p, H p = none → Q (.ref p) (upd H p (.rng 0 j))) := by
  intro pins s σ H vs us Q I r h
  obtain ⟨j, rfl, q⟩ := h
  obtain ⟨u1, rfl, rj⟩ := vals1 r
  obtain ⟨t, rfl⟩ := rj
  refine call_range_1 ⟨.ref s.heap.objs.size, upd H s.heap.objs.size (.rng 0 j), I.laid (t' := s.toks + 1 + 1) (fun b o e => Heap.get?_push_of_some _ e) (Nat.le_refl _) ?_, rfl, q _ (I.hok.fresh (Nat.le_refl _))⟩
  exact ⟨s.toks, t, s.toks + 1, Heap.get?_push_size _ rfl⟩
def iRngV (te : TE) : TI := fun σ H R => te σ H fun x H1 => ∃ a lo hi, x = .ref a ∧ H1 a = some (.rng lo hi) ∧ (-(2 ^ 62) ≤ lo ∧ lo < 2 ^ 62 ∧ -(2 ^ 62) ≤ hi ∧ hi < 2 ^ 62) ∧ R (Itr lo (hi - lo).toNat) H1
theorem pi_rngV {tg e : Expr} {te : TE} (he : PE X e te) : PI X tg e (iRngV te) := by
  refine ⟨fun pins s σ H R I h => ?_⟩
  refine thn (he.run pins s σ H _ I h) fun v s1 ⟨x, H1, I1, r1, q1⟩ => ?_
  obtain ⟨a, lo, hi, e, ea, ⟨h1, h2, h3, h4⟩, q⟩ := q1
  subst e
  cases r1
  obtain ⟨t, u, v, hg⟩ := (show ObjOk X.prog X.w H1 s1.heap a (.rng lo hi) from I1.hok a _ ea)
  refine wpAny_pyIter_range (show IsRange s1.heap a lo hi 1 t u v from hg) (small_one h1 h2 h3 h4) ?_
  refine ⟨s1.heap.objs.size, [s1.heap.objs.size], _, _, H1, rfl, I1.kept (t' := s1.toks) fun b o e => Heap.get?_push_of_some _ e, turn_range _ lo (hi - lo).toNat, ?_, fun b hb => ?_, q⟩
  · have e1 : lo + ((0 : Nat) : Int) * 1 = lo := by simp
    have e2 : (((hi - lo).toNat : Nat) : Int) - ((0 : Nat) : Int) = Builtin.Range.rangeSize lo hi 1 := by rw [rangeSize_one]; split <;> omega
    show IsRangeIter _ _ (lo + ((0 : Nat) : Int) * 1) ((((hi - lo).toNat : Nat) : Int) - ((0 : Nat) : Int)) 1
    rw [e1, e2]
    exact Heap.get?_push_size _ rfl
  · have e : b = s1.heap.objs.size := by simpa using hb
    subst e
    exact I1.fpOk (Nat.le_refl _) (I1.hok.fresh (Nat.le_refl _))
end
section
variable {X : Cx} {CX : CXT} {k : Nat} {f C : Addr} {fd : FuncData} {ps : List Str} {sp : Sp} {dvs : List V} {ds : List Value} {m : Str} {p pos apos : Pos} {e o : Expr} {es : List Expr} {ta : TE} {t : TA}
/-- o.m(e, ..) in a try's body: what is raised is wished for at the slots -/
def tMethS (C : Addr) (m : Str) (sp : Sp) (dvs : List V) (W : WX) (ta : TE) (t : TA) : TE := fun σ H Q => ta σ H fun x H1 => ∃ a dx fs, x = .ref a ∧ H1 a = some (.ins C dx fs) ∧ fs.lookup m = none ∧ t σ H1 fun vs H2 => sp (x :: (vs ++ dvs)) H2 Q (fun cls d H' => W cls d σ H')
theorem run_ownS {W : WX} {pins : List (Addr × Obj)} {σ : L2.St} {H : Hp} {s : Shared} {Q : VK} {us : List Value} {vs : List V} (F : FnOk X.prog X.w X.K X.mg X.base CX k f fd ps sp) (hr : Room k X.A) (hb : Binds X.K fd ps ds) (hd : Vals dvs ds) (hx : PassesAt CX X σ (fun cls d H' => W cls d σ H'))
    (I : Inv X pins σ H s) (r : Vals vs us) (h : sp (vs ++ dvs) H Q (fun cls d H' => W cls d σ H')) : wpAny (model X.prog X.w) X.A (call (.ref f) us) (EP X pins σ Q) X.xe s := by
  have r2 : Vals (vs ++ dvs) (us ++ ds) := Vals.append r hd
  have cnt : (us ++ ds).length = ps.length := (r2.length).symm.trans (F.len _ _ _ _ h)
  refine wpAny_call (codeAny_mono (F.run X.A X.stack s H ⟨us, []⟩ (us ++ ds) (vs ++ dvs) Q _ hr I.env0 (hb s us I.kIn cnt) r2 h) ?_)
  intro res s2 hq
  cases res with
  | error er => exact hx pins H s er s2 I hq
  | ok fl =>
    cases fl with
    | ret u => exact Inv.after I hq
    | next => exact hq.elim
    | brk => exact hq.elim
    | cont => exact hq.elim
theorem pe_methS {W : WX} {pl : Sem Bool} (he : PE X o ta) (c : Cls X.K C) (hm : Meth X.K C m f) (F : FnOk X.prog X.w X.K X.mg X.base CX k f fd ps sp) (hr : Room k X.A) (hb : Binds X.K fd ps ds) (hd : Vals dvs ds) (hx : ∀ σ, PassesAt CX X σ (fun cls d H' => W cls d σ H')) (ha : PA X (e :: es) t)
    (hst : starEach (e :: es) X.env = (false, eval e X.env) :: starEach es X.env := by rfl) (hpl : (backTo pos (starEach es X.env)).any (·.1) = false := by rfl)
    (ht : eval (.Call (.Attribute o m apos) (e :: es) [] pos) X.env = (do
      let ov ← eval o X.env
      standAt apos.atName
      let (f, first) ← holding [ov] (getMethod ov m pl)
      callWith pos f first (backTo pos (starEach (e :: es) X.env)) (backToKw pos (keywordEach [] X.env))) := by rfl) :
    PE X (.Call (.Attribute o m apos) (e :: es) [] pos) (tMethS C m sp dvs W ta t) := by
  refine ⟨fun pins s σ H Q I h => ?_⟩
  refine PySem.W.methodCall_KW (pl := pl) (thn (he.run pins s σ H _ I h) fun u s1 ⟨x, H1, I1, rx, a, dx, fs, ex, ea, l, q⟩ => ?_) ht
  subst ex
  obtain rfl : u = Value.ref a := rx
  refine getmeth_ok I1 ea c hm l ?_
  refine PySem.W.callWith_K (first := [.ref a]) (h₀ := X.base) I.ok.mod.kin hm.kp (thn (ha.run pos pins s1 σ H1 _ I1 q) fun us s2 ⟨vs, H2, I2, r, q2⟩ => ⟨I2.kIn, ?_⟩) hst hpl
  exact run_ownS (us := .ref a :: us) (vs := .ref a :: vs) F hr hb hd (hx σ) I2 (.cons rfl r) q2
theorem run_makeS {W : WX} {pins : List (Addr × Obj)} {σ : L2.St} {H : Hp} {s : Shared} {Q : VK} {us : List Value} {vs : List V} (M : Mk X.K C f) (F : FnOk X.prog X.w X.K X.mg X.base CX k f fd ps sp) (hr : Room (k + 1) X.A) (hb : Binds X.K fd ps ds) (hd : Vals dvs ds)
    (hx : ∀ σ, PassesAt CX X σ (fun cls d H' => W cls d σ H')) (I : Inv X pins σ H s) (r : Vals vs us)
    (h : ∀ x dx, H x = none → H dx = none → dx ≠ x → sp (.ref x :: (vs ++ dvs)) (upd (upd H dx (.own x)) x (.ins C dx [])) (fun v H2 => v = .non ∧ Q (.ref x) H2) (fun cls d H' => W cls d σ H')) :
    wpAny (model X.prog X.w) X.A (call (.ref C) us) (EP X pins σ Q) X.xe s := by
  have hq := h (s.heap.objs.size + 1) s.heap.objs.size (I.hok.fresh (Nat.le_succ _)) (I.hok.fresh (Nat.le_refl _)) (Nat.ne_of_lt (Nat.lt_succ_self _))
  have I2 := Inv.made (C := C) I
  have r2 : Vals (V.ref (s.heap.objs.size + 1) :: (vs ++ dvs)) (Value.ref (s.heap.objs.size + 1) :: (us ++ ds)) := .cons rfl (r.append hd)
  have hl : (Value.ref (s.heap.objs.size + 1) :: us ++ ds).length = ps.length := by
    have e := r2.length
    rw [F.len _ _ _ _ hq] at e
    exact e.symm
  refine wpAny_call (make_map (f := f) I.kIn M.makes M.init (beq_iff_eq.mp M.fn) (codeAny_mono (F.run _ X.stack _ _ ⟨Value.ref (s.heap.objs.size + 1) :: us, []⟩ (Value.ref (s.heap.objs.size + 1) :: (us ++ ds)) _ _ _ (hr.make C us [])
    (I2.env0.make C us []) (hb _ (Value.ref (s.heap.objs.size + 1) :: us) I2.kIn hl) r2 hq) fun r s' hq' => ?_))
  cases r with
  | error e => exact hx σ pins _ _ e s' I2 hq'
  | ok fl =>
    cases fl with
    | ret u =>
      obtain ⟨v, H', I3, rv, ev, q3⟩ := I2.after hq'
      subst ev
      exact ⟨rv, ⟨V.ref (s.heap.objs.size + 1), H', I3, rfl, q3⟩⟩
    | next => exact False.elim hq'
    | brk => exact False.elim hq'
    | cont => exact False.elim hq'
/-- C(e, ..) in a try's body -/
def tMakeS (C : Addr) (sp : Sp) (dvs : List V) (W : WX) (t : TA) : TE := fun σ H Q => t σ H fun vs H1 => ∀ x dx, H1 x = none → H1 dx = none → dx ≠ x → sp (.ref x :: (vs ++ dvs)) (upd (upd H1 dx (.own x)) x (.ins C dx [])) (fun v H2 => v = .non ∧ Q (.ref x) H2) (fun cls d H' => W cls d σ H')
theorem pe_makeS {x : Str} {W : WX} (M : Mk X.K C f) (F : FnOk X.prog X.w X.K X.mg X.base CX k f fd ps sp) (hr : Room (k + 1) X.A) (hg : Gl X x) (hm : X.mg x = some (.ref C)) (hb : Binds X.K fd ps ds) (hd : Vals dvs ds) (hx : ∀ σ, PassesAt CX X σ (fun cls d H' => W cls d σ H'))
    (ha : PA X (e :: es) t) (hdb : (x == ("__debug__" : Str)) = false := by decide) (he : starEach (e :: es) X.env = (false, eval e X.env) :: starEach es X.env := by rfl) (hpl : (backTo pos (starEach es X.env)).any (·.1) = false := by rfl) :
    PE X (.Call (.Name x p) (e :: es) [] pos) (tMakeS C sp dvs W t) := by
  refine ⟨fun pins s σ H Q I h => ?_⟩
  refine wpAny_Call_Name_kw (ld_glob I hg hm ?_ hdb)
  refine PySem.W.callWith_K (h₀ := X.base) I.ok.mod.kin M.kp (thn (ha.run pos pins s σ H _ I h) fun us s1 ⟨vs, H1, I1, r, q⟩ => ⟨I1.kIn, ?_⟩) he hpl
  exact run_makeS M F hr hb hd hx I1 r q
end
/-! ### bars -/
def barD (q : Nat × Nat) : PyData := .tuple [.int (q.1 : Nat), .int (q.2 : Nat)]
def partL (a j : Nat) : List (Nat × Nat) := ((List.range j).filter fun b => decide (a ≤ b)).map fun b => (a, b)
def preL (n i : Nat) : List (Nat × Nat) := (List.range i).flatMap fun a => partL a n
def barsL (n : Nat) : List (Nat × Nat) := preL n n
theorem part_len (a j : Nat) : (partL a j).length ≤ j := by
  unfold partL
  rw [List.length_map]
  exact Nat.le_trans (List.length_filter_le _ _) (by simp)
theorem pre_len (n : Nat) : ∀ i, (preL n i).length ≤ i * n
  | 0 => by simp [preL]
  | i + 1 => by
    unfold preL
    rw [List.range_succ, List.flatMap_append, List.length_append, Nat.succ_mul]
    have h1 := pre_len n i
    have h2 := part_len i n
    unfold preL at h1
    simp only [List.flatMap_cons, List.flatMap_nil, List.append_nil]
    omega
theorem pre_succ (n i : Nat) : preL n (i + 1) = preL n i ++ partL i n := by
  unfold preL
  rw [List.range_succ, List.flatMap_append]
  simp
theorem part_succ (a j : Nat) : partL a (j + 1) = if a ≤ j then partL a j ++ [(a, j)] else partL a j := by
  unfold partL
  rw [List.range_succ, List.filter_append, List.map_append]
  by_cases h : a ≤ j
  · rw [if_pos h]
    simp [h]
  · rw [if_neg h]
    simp [h]
def spBars (CT : Addr) : Sp := fun vs H Q E => ∃ v d, vs = [v] ∧ Any H v d ∧ Short d ∧ (isPatD d = false → Thrown CT v H E) ∧
  ∀ x, d = .str x → isPatD d = true → ∀ l acc H', H l = none → Same H H' → H' l = some (.lst acc) → AnyL (del H' l) acc ((barsL (x.length + 1)).map barD) → Q (.ref l) H'
def spLenR (C : Addr) : Sp := fun vs H Q _ => ∃ a x p ss mm, vs = [.ref a] ∧ RowAt C H a x p ss mm ∧ Q (.int (ss.length : Nat)) H
def spMatx (C CL : Addr) : Sp := fun vs H Q E => ∃ a v d x p ss mm, vs = [.ref a, v] ∧ RowAt C H a x p ss mm ∧ Any H v d ∧ mm.length ≤ 1000 ∧ (inB d (.int 0) (.int ((mm.length : Nat) - 1 : Int)) = false → ∀ H1, Same H H1 → Thrown CL v H1 E) ∧
  (∀ i : Nat, d = .int i → i < mm.length → ∀ l ys H', H l = none → Same H H' → H' l = some (.lst ys) → AnyL (del H' l) ys (mm[i]?.getD []) → Q (.ref l) H')
def spMaps (C : Addr) : Sp := fun vs H Q _ => ∃ a x p ss mm, vs = [.ref a] ∧ RowAt C H a x p ss mm ∧ mm.length ≤ 1000 ∧ ∀ l acc H', H l = none → Same H H' → H' l = some (.lst acc) → AnyL (del H' l) acc (mm.map .list) → Q (.ref l) H'
end Rw

set_option Elab.async false
set_option linter.all false
set_option maxRecDepth 100000
set_option maxHeartbeats 4000000
/-! TkBD: own errors without a field: their __init__ calls that of the root. -/
namespace Rw
open PySem PySem.Spec PyProof.Rows L2
/-- what is asked of the root, over ValueError, without an own __init__ -/
structure RootC (K : PySem.W.Frag) (CR : Addr) : Prop where
  sp : PySem.W.specialIn K (.ref CR) "__getattribute__" = some (some (.builtin "type.__getattribute__"))
  ty : PySem.W.typeIn K (.ref CR) = some (.type "type")
  rd : PySem.W.readsIn K CR (.type "type") = true
  ini : PySem.W.findCls K (.ref CR) (.type "type") "__init__" = some (.val (.builtin "ValueError.__init__"))
section
variable {X : Cx} {e : Expr} {es : List Expr} {ta : TA} {p1 p2 p pos pos2 : Pos} {x : Str} {CR : Addr}
theorem pe_rootini {pl : Sem Bool} (R : RootC X.K CR) (hg : Gl X x) (hm : X.mg x = some (.ref CR)) (ha : PA X (e :: es) ta) (hdb : (x == ("__debug__" : Str)) = false := by decide)
    (hc : eval (.Call (.Attribute (.Name x p1) "__init__" p2) (e :: es) [] pos) X.env = (do
      let ov ← eval (.Name x p1) X.env
      standAt p2.atName
      let (f, first) ← holding [ov] (getMethod ov "__init__" pl)
      callWith pos f first (backTo pos (starEach (e :: es) X.env)) (backToKw pos (keywordEach [] X.env))) := by rfl)
    (he : starEach (e :: es) X.env = (false, eval e X.env) :: starEach es X.env := by rfl) (hpl : (backTo pos (starEach es X.env)).any (·.1) = false := by rfl) :
    PE X (.Call (.Attribute (.Name x p1) "__init__" p2) (e :: es) [] pos) (tVeI X.K ta) := by
  refine ⟨fun pins s σ H Q I h => ?_⟩
  refine PySem.W.methodCall_KW (ld_glob I hg hm ?_ hdb) hc
  obtain ⟨m, fr⟩ := I.fr
  refine PySem.W.method_of_cls fr I.ok.mod.kin R.sp ?_
  refine PySem.W.cls_val fr I.ok.mod.kin R.ty R.rd R.ini (by decide +kernel) ?_
  show wpAny _ _ (callWith pos (Value.builtin "ValueError.__init__") [] (backTo pos (starEach (e :: es) X.env)) []) _ _ _
  refine PyProof.Rows.callWith_method1 (thn (ha.run pos pins _ σ H _ (I.tok _) h) fun us s1 ⟨vs, H1, I1, r1, a, C, ws, ev, hl, T, ea, q⟩ => ?_) he hpl
  subst ev
  cases r1 with
  | @cons _ u0 _ ur ra rw' =>
    obtain rfl : u0 = Value.ref a := ra
    have hlen : ur.length ≤ sizeLine := by
      rw [← Paired.length rw', sizeLine_eq]
      omega
    exact oinit_ok T I1 ea hlen fun s' J => ⟨.non, H1, J, rfl, q⟩
end
section
variable {X : Cx}
theorem mk_endN {pins : List (Addr × Obj)} {σ : L2.St} {H1 H2 : Hp} {Q : XK} {hp hp2 h2 : Heap} {g1 g2 : Array GenState} {d1 d2 : Drawn} {t1 t2 : Nat} {os1 os2 : OsState} {a C : Addr} (T : Raises X (.ref C)) (I1 : Inv X pins σ H1 ⟨hp, g1, d1, t1, os1⟩)
    (ha : hp.objs.size ≤ a) (k : ∀ b o, hp.get? b = some o → hp2.get? b = some o) (un : Un (frs X.stack) [] (upd H1 a (exo a C none)) H2 hp2 h2) (hok : HOk X.prog X.w H2 h2) (ho : os2 = os1) (hb : AllBare g2)
    (ea : H2 a = some (exo a C none)) (q : Q (.ref C) none (del H2 a)) : MkP X pins σ Q (.ref a) ⟨h2, g2, d2, t2, os2⟩ := by
  obtain ⟨t0, hoe⟩ := exo_at hok ea
  have hn : H1 a = none := I1.hok.fresh ha
  obtain ⟨G, g1', g2'⟩ := restrict h2 fun b => decide (b ≠ a)
  have gk : ∀ b, b ≠ a → G.get? b = h2.get? b := fun b hb => g1' b (decide_eq_true hb)
  have ge : G.get? a = none := g2' a (by simp)
  have nha : ∀ {b : Addr} {o : Obj}, hp.get? b = some o → b ≠ a := fun {b o} z => Nat.ne_of_lt (Nat.lt_of_lt_of_le (Heap.lt_size z) ha)
  have up : ∀ {b : Addr}, b ≠ a → H1 b = none → upd H1 a (exo a C none) b = none := fun {b} hb n => by rw [upd_ne hb]; exact n
  have U : Un (frs X.stack) [] H1 (del H2 a) hp G := {
    keep := fun b o z n hf hx => by
      rw [gk b (nha z)]
      exact un.keep b o (k b o z) (up (nha z) n) hf hx
    slot := fun b o z n hf hx => by
      rw [gk b (nha z)]
      exact un.slot b o (k b o z) (up (nha z) n) hf hx
    free := fun b o z n hx => by
      rw [del_ne (nha z)]
      exact un.free b o (k b o z) (up (nha z) n) hx
    there := fun b o z hx => by
      rw [gk b (nha z)]
      exact un.there b o (k b o z) hx
    tups := fun b xs z => by
      rw [del_ne (ne_of_none z hn)]
      exact un.tups b xs (by rw [upd_ne (ne_of_none z hn)]; exact z)
    frzs := fun b o v z => by
      rw [del_ne (ne_of_none z hn)]
      exact un.frzs b o v (by rw [upd_ne (ne_of_none z hn)]; exact z)
    tbls := fun b ps z => by
      rw [del_ne (ne_of_none z hn)]
      exact un.tbls b ps (by rw [upd_ne (ne_of_none z hn)]; exact z) }
  have hok3 : HOk X.prog X.w (del H2 a) G := fun b o z => by
    have hba : b ≠ a := fun e => by
      rw [e, del_same] at z
      cases z
    rw [del_ne hba] at z
    have noa : ∀ {c : Addr}, H2 c = some (.own b) → c ≠ a := fun {c} hc => at_ne ea hc exo_own
    exact (hok b o z).stay (fun c v hc y => by
        have hca : c ≠ a := by
          rcases hc with hc | hc
          · rw [hc]
            exact hba
          · exact noa hc
        rw [gk c hca]
        exact y)
      (fun c hc => by rw [del_ne (noa hc)]; exact hc) (fun c xs hc => by rw [del_ne (at_ne ea hc exo_tup)]; exact hc)
  have J : Inv X pins σ (del H2 a) ⟨G, g2, d2, t2, os2⟩ := I1.call' (ch := []) ho U hok3 hb (fun b z => absurd z (by simp))
  exact ⟨a, _, _, ⟨G, g2, d2, t2, os2⟩, _, .ref C, none, rfl, J, fun b o z => by
    by_cases hba : b = a
    · rw [hba, ge] at z
      cases z
    · exact (gk b hba).symm.trans z, ge, hoe, ⟨rfl, rfl⟩, rfl, rfl, del_same, rfl, hb, T, q⟩
/-- C(): an error without a field -/
def tMkN (C : Addr) (sp : Sp) : L2.St → Hp → XK → Prop := fun _ H Q => ∀ a, H a = none → sp [.ref a] (upd H a (exo a C none)) (fun v H2 => v = .non ∧ H2 a = some (exo a C none) ∧ Q (.ref C) none (del H2 a)) (fun _ _ _ => False)
theorem pmk_oexN {CX : CXT} {x : Str} {C fI : Addr} {k : Nat} {fd : FuncData} {ps : List Str} {sp : Sp} {p pos : Pos} (T : OexC X.K C) (iC : PySem.W.findIn X.K (.ref C) "__init__" = some (some (.ref fI))) (tI : PySem.W.typeIn X.K (.ref fI) = some (.type "function"))
    (F1 : FnOk X.prog X.w X.K X.mg X.base CX k fI fd ps sp) (hr : Room (k + 1) X.A) (hb : Binds X.K fd ps []) (hx : Passes CX X (fun _ _ _ => False)) (hg : Gl X x) (hm : X.mg x = some (.ref C)) (hdb : (x == ("__debug__" : Str)) = false := by decide) :
    PMk X (.Call (.Name x p) [] [] pos) (tMkN C sp) := by
  intro pins s σ H Q I h
  obtain ⟨nm, q, N, bs, bm, sn, sub, ab, col, dd, k0, k1, k2, k3, k5, hC, hbm⟩ := T.cls
  refine wpAny_Call_Name_kw (ld_glob I hg hm ?_ hdb)
  refine PySem.W.callWith_K0 I.kIn T.kC ?_
  show wpAny _ _ (call (.ref C) []) _ _ _
  obtain ⟨hp, g, dr, tk, os⟩ := s
  have hsz : hp.objs.size ≤ hp.objs.size + 1 := Nat.le_succ _
  have hn : H (hp.objs.size + 1) = none := I.hok.fresh hsz
  have hq := h (hp.objs.size + 1) hn
  have kk : ∀ b o, hp.get? b = some o → ((hp.push (PySem.W.kdv_tup [])).push (PySem.HandSPX.excO C hp.objs.size)).get? b = some o := fun b o e => Heap.get?_push_of_some _ (Heap.get?_push_of_some _ e)
  have hget : ((hp.push (PySem.W.kdv_tup [])).push (PySem.HandSPX.excO C hp.objs.size)).get? (hp.objs.size + 1) = some (PySem.HandSPX.excO C hp.objs.size) := by heap_get
  have I2 : Inv X pins σ (upd H (hp.objs.size + 1) (exo (hp.objs.size + 1) C none)) ⟨(hp.push (PySem.W.kdv_tup [])).push (PySem.HandSPX.excO C hp.objs.size), g, dr, tk, os⟩ :=
    I.laid (t' := tk) (a := hp.objs.size + 1) (o := exo (hp.objs.size + 1) C none) (h' := (hp.push (PySem.W.kdv_tup [])).push (PySem.HandSPX.excO C hp.objs.size)) kk hsz (exo_ok hget)
  have r2 : Vals [V.ref (hp.objs.size + 1)] [Value.ref (hp.objs.size + 1)] := .cons rfl .nil
  have hl : [Value.ref (hp.objs.size + 1)].length = ps.length := (F1.len _ _ _ _ hq).symm ▸ rfl
  refine wpAny_call (PySem.HandSPX.call_own F.excBase_ValueError (fun Y => PySem.HandSPX.refsVE_contains Y bm hbm) (I.kIn _ _ hC) (PySem.W.looks_findIn I.kIn iC) (fun self => PySem.W.bind_fn I.kIn self tI) (by show 0 ≤ _; exact Nat.zero_le _)
    (codeAny_mono (F1.run _ X.stack _ _ ⟨[Value.ref (hp.objs.size + 1)], []⟩ [Value.ref (hp.objs.size + 1)] _ _ (fun _ _ _ => False) (hr.make C [] []) (I2.env0.make C [] []) (by
      have := hb _ [Value.ref (hp.objs.size + 1)] I2.kIn (by simpa using hl)
      simpa using this) r2 hq) fun r s' hq' => ?_))
  cases r with
  | error er => exact hx pins σ _ _ er s' I2 hq'
  | ok fl =>
    cases fl with
    | ret u =>
      obtain ⟨v, H2, os2, bare2, un2, hok2, rv, ev, ea, q2⟩ := hq'
      subst ev
      obtain ⟨h2, g2, d2, t2, os'⟩ := s'
      exact ⟨rv, mk_endN (raises_own T.exC T.tyC) I hsz kk un2 hok2 os2 bare2 ea q2⟩
    | next => exact False.elim hq'
    | brk => exact False.elim hq'
    | cont => exact False.elim hq'
end

/-- the body of __init__(self): RowError.__init__(self) -/
def IsIniN (K : PySem.W.Frag) (mg : Str → Option Value) (st : Stmt) : Prop := ∀ (P : Program) (w : World) (base : Heap) (q : Str) (f : Addr) (cdv : Value) (A : Around) (outer : List Env) (s : Shared) (H : Hp) (E : XK),
  ∃ t : TS, PSs (cxOf CX0 P w K mg base ["self"] q (defScope st) f cdv A outer s H E).nox (defBody st) t ∧ ∀ D σ H, tDrop (tVeI K (tCons (tVar 0) tNil)) D σ H → t D σ H
def spIniN (K : PySem.W.Frag) (C : Addr) : Sp := fun vs H Q _ => ∃ a : Addr, vs = [.ref a] ∧ H a = some (exo a C none) ∧ Q .non H
/-- x names an error class without a field, at C -/
structure ErrN (K : PySem.W.Frag) (mg : Str → Option Value) (x : Str) (C : Addr) : Prop where
  g : mg x = some (.ref C)
  ox : OexC K C
  ini : ∃ (f : Addr) (q : Str) (st : Stmt) (fd : FuncData), PySem.W.findIn K (.ref C) "__init__" = some (some (.ref f)) ∧ PySem.W.typeIn K (.ref f) = some (.type "function") ∧ Fun K "__init__" q st f fd ∧ Binds K fd ["self"] [] ∧ FnScope ["self"] ["self"] (defScope st) ∧ IsIniN K mg st
/-- an error of the class at C is let out, all else as it was -/
def ThrownN (C : Addr) (H : Hp) (E : XK) : Prop := ∀ H' : Hp, Same H H' → E (.ref C) none H'
theorem ThrownN.mono {C : Addr} {H H1 : Hp} {E : XK} (h : ThrownN C H E) (k : Same H H1) : ThrownN C H1 E := fun H' s => h H' (k.trans s)
section
variable {P : Program} {w : World} {K : PySem.W.Frag} {mg : Str → Option Value} {base : Heap}
theorem ErrN.init {x : Str} {C : Addr} (T : ErrN K mg x C) : ∃ (f : Addr) (fd : FuncData), PySem.W.findIn K (.ref C) "__init__" = some (some (.ref f)) ∧ PySem.W.typeIn K (.ref f) = some (.type "function") ∧ Binds K fd ["self"] [] ∧
    FnOk P w K mg base CX0 1 f fd ["self"] (spIniN K C) := by
  obtain ⟨f, q, st, fd, h1, h2, F, b, S, dv⟩ := T.ini
  refine ⟨f, fd, h1, h2, b, F.ok S (fun vs H Q E h => ?_) (fun cdv A outer s H vs Q E hr h => ?_)⟩
  · obtain ⟨a, e, _⟩ := h
    rw [e]
    rfl
  · obtain ⟨a, e, ea, k⟩ := h
    subst e
    obtain ⟨t, d, go⟩ := dv P w base q f cdv A outer s H E
    refine ⟨t, d, go _ _ _ ?_⟩
    exact ⟨_, rfl, a, C, [], rfl, by decide, T.ox, ea, k⟩
end
section
variable {X : Cx} {x : Str} {C : Addr} {p pos pos2 : Pos} {W : WX}
/-- raise x() -/
def tThrowN (K : PySem.W.Frag) (C : Addr) (W : WX) : TS := fun _ σ H => tMkN C (spIniN K C) σ H fun cls d H' => W cls d σ H'
theorem ps_throwN (T : ErrN X.K X.mg x C) (hc : X.calm = true) (hr : Room 2 X.A) (tk : Takes X W) (hg : Gl X x := by rfl) (hdb : (x == ("__debug__" : Str)) = false := by decide) :
    PS X (.Raise (some (.Call (.Name x p) [] [] pos)) none pos2) (tThrowN X.K C W) := by
  obtain ⟨f, fd, h1, h2, b, F⟩ := T.init (P := X.prog) (w := X.w) (base := X.base)
  exact ps_raise (pos := pos2) hc tk (pmk_oexN (x := x) (p := p) (pos := pos) T.ox h1 h2 F hr b pass0 hg T.g hdb)
theorem thrownN_go {K : PySem.W.Frag} {H : Hp} {E : XK} (h : ThrownN C H E) : ∀ a, H a = none → spIniN K C [.ref a] (upd H a (exo a C none)) (fun v H2 => v = .non ∧ H2 a = some (exo a C none) ∧ E (.ref C) none (del H2 a)) (fun _ _ _ => False) := by
  intro a ha
  refine ⟨a, rfl, upd_same, rfl, upd_same, h _ fun b o e => ?_⟩
  rw [del_ne (ne_of_none e ha), upd_ne (ne_of_none e ha)]
  exact e
end
/-- such a class of the text -/
def ErrNHere (K : PySem.W.Frag) (x q : Str) (st : Stmt) (R C : Addr) : Prop :=
  ∃ (f N : Addr) (nm qn : Str) (bs : List Value) (sn : List Str) (sub : List Value) (ab : Bool) (col : Option Bool) (dd : Option Addr) (m0 m1 m2 m3 m5 : Option Value), PySem.W.nsIn K mainGlobals x = some (some (.ref C)) ∧
    K.lookup C = some (excClassObj nm qn C N bs [.ref R, .type "ValueError", .type "Exception", .type "BaseException", .type "object"] true sn sub ab col dd m0 m1 m2 m3 m5 "ValueError.__new__") ∧
    PySem.W.findIn K (.ref C) "__setattr__" = some (some (.builtin "object.__setattr__")) ∧ PySem.W.findIn K (.ref C) "__init__" = some (some (.ref f)) ∧ PySem.W.typeIn K (.ref f) = some (.type "function") ∧ DefAt K "__init__" q st f ∧
    PySem.W.keepIn K (.ref C) = true ∧ PySem.W.subIn K (.ref C) (.type "BaseException") = some true ∧ PySem.W.typeIn K (.ref C) = some (.type "type")
section
variable {K : PySem.W.Frag} {mg : Str → Option Value} {h : Heap}
theorem ErrNHere.err {x q : Str} {st : Stmt} {R C : Addr} (E : ErrNHere K x q st R C) (X : K.In h) (G : h.Ns mainGlobals mg) (S : FnScope ["self"] ["self"] (defScope st)) (I : IsIniN K mg st)
    (b : ∀ (kV doc pm : Value) (an : Option Addr) (cdv ct : Value) (us : List Value), us.length = 1 → bindArgs (PySem.W.fnOf "__init__" q (defArgs st) (defBody st) (defScope st) .none kV doc pm an cdv ct) ⟨us, []⟩ = pure ((["self"] : List Str).zip us)) : ErrN K mg x C := by
  obtain ⟨f, N, nm, qn, bs, sn, sub, ab, col, dd, m0, m1, m2, m3, m5, g, l, sa, ini, ty, ⟨oc, od, kV, dc, pm, an, cd, ct, sl, lf, cf, kf⟩, kc, ex, tc⟩ := E
  have F := fun_mk (x := "__init__") (qual := q) (st := st) lf cf kf
  exact {
    g := PySem.W.mg_of X G g
    ox := ⟨⟨nm, qn, N, bs, _, sn, sub, ab, col, dd, m0, m1, m2, m3, m5, l, rfl⟩, sa, ex, tc, kc⟩
    ini := ⟨f, q, st, _, ini, ty, F, F.binds b, S, I⟩ }
theorem ErrNHere.of {x q : Str} {st : Stmt} {R C f N : Addr} {nm qn : Str} {bs : List Value} {sn : List Str} {sub : List Value} {ab : Bool} {col : Option Bool} {dd : Option Addr} {m0 m1 m2 m3 m5 : Option Value}
    {oc : Value} {od : Option Addr} {kV dc pm : Value} {an : Option Addr} {cd ct : Value} {sl : Array (Option Value)} (g : PySem.W.nsIn K mainGlobals x = some (some (.ref C)))
    (xl : K.lookup C = some (excClassObj nm qn C N bs [.ref R, .type "ValueError", .type "Exception", .type "BaseException", .type "object"] true sn sub ab col dd m0 m1 m2 m3 m5 "ValueError.__new__"))
    (sa : PySem.W.findIn K (.ref C) "__setattr__" = some (some (.builtin "object.__setattr__"))) (ini : PySem.W.findIn K (.ref C) "__init__" = some (some (.ref f))) (ty : PySem.W.typeIn K (.ref f) = some (.type "function"))
    (l : K.lookup f = some ⟨oc, od, .func (PySem.W.fnOf "__init__" q (defArgs st) (defBody st) (defScope st) .none kV dc pm an cd ct), sl⟩) (c : PySem.W.codeIn K cd q = true) (k : PySem.W.keepIn K (.ref f) = true)
    (kc : PySem.W.keepIn K (.ref C) = true) (ex : PySem.W.subIn K (.ref C) (.type "BaseException") = some true) (tc : PySem.W.typeIn K (.ref C) = some (.type "type")) : ErrNHere K x q st R C :=
  ⟨f, N, nm, qn, bs, sn, sub, ab, col, dd, m0, m1, m2, m3, m5, g, xl, sa, ini, ty, ⟨oc, od, kV, dc, pm, an, cd, ct, sl, l, c, k⟩, kc, ex, tc⟩
end
end Rw

set_option Elab.async false
set_option linter.all false
set_option maxRecDepth 100000
set_option maxHeartbeats 4000000
/-! K6A: the program's looks at numbers and vectors. -/
namespace K6
open PySem PySem.Spec PyProof.Rows L2 Rw
def top (i : Nat) : Stmt := PySem.Challenge.pw_maprows_k06_members_and_rests.main.body.getD i (.Pass ⟨0, 0, 0, 0⟩)
abbrev sNum : Stmt := top 9
abbrev sInt : Stmt := top 10
abbrev sPrime : Stmt := top 11
abbrev sCheck : Stmt := top 12
abbrev sList : Stmt := top 13
abbrev sVec : Stmt := top 14
theorem scNum : FnScope ["value"] ["value"] (defScope sNum) := ⟨rfl, rfl, rfl, by decide +kernel, rfl, by decide +kernel, by decide +kernel⟩
theorem scInt : FnScope ["value", "low", "high"] ["value", "low", "high"] (defScope sInt) := ⟨rfl, rfl, rfl, by decide +kernel, rfl, by decide +kernel, by decide +kernel⟩
theorem scPrime : FnScope ["value"] ["value"] (defScope sPrime) := ⟨rfl, rfl, rfl, by decide +kernel, rfl, by decide +kernel, by decide +kernel⟩
theorem scCheck : FnScope ["prime"] ["prime"] (defScope sCheck) := ⟨rfl, rfl, rfl, by decide +kernel, rfl, by decide +kernel, by decide +kernel⟩
theorem scList : FnScope ["value"] ["value"] (defScope sList) := ⟨rfl, rfl, rfl, by decide +kernel, rfl, by decide +kernel, by decide +kernel⟩
theorem scVec : FnScope ["value", "length", "item"] ["value", "length"] (defScope sVec) := ⟨rfl, rfl, rfl, by decide +kernel, rfl, by decide +kernel, by decide +kernel⟩
/-- what the top has left for the program's defs -/
structure Txt (K : PySem.W.Frag) (mg : Str → Option Value) (aI CP CS CV CU : Addr) (kI : List (Int × Value)) : Prop where
  isi : mg "isinstance" = none
  int : mg "int" = none
  bool : mg "bool" = none
  list : mg "list" = none
  tuple : mg "tuple" = none
  len : mg "len" = none
  all : mg "all" = none
  range : mg "range" = none
  enum : mg "enumerate" = none
  zip : mg "zip" = none
  sorted : mg "sorted" = none
  gI : mg "INVERSES" = some (.ref aI)
  tI : TabI K aI kI
  hI : ∀ i, (lookI kI i).isSome = decide (i ∈ primesL)
  tV : TabInv K kI
  gM : ∃ t, mg "MOST" = some (.int 12 t)
  eP : Err K mg "InvalidPrime" CP
  eS : Err K mg "InvalidSize" CS
  eV : Err K mg "InvalidVector" CV
  eU : ErrN K mg "UnlikeSpaces" CU
section
variable {P : Program} {w : World} {K : PySem.W.Frag} {mg : Str → Option Value} {base : Heap} {aI CP CS CV CU : Addr} {kI : List (Int × Value)}
theorem okNum {f : Addr} {fd : FuncData} (F : Fun K "is_number" "is_number" sNum f fd) (T : Txt K mg aI CP CS CV CU kI) : FnOk P w K mg base CX0 1 f fd ["value"] spNum := by
  refine F.ok scNum (fun vs H Q E h => ?_) (fun cdv A outer s H vs Q E hr h => ?_)
  · obtain ⟨v, d, rfl, _⟩ := h
    rfl
  · obtain ⟨v, d, rfl, an, q⟩ := h
    refine ⟨_, (pss_one (ps_ret (pe_and (pe_callB call_isi (by rfl) T.isi (by decide +kernel) (pa_cons (pv 0) (pa_cons (pe_bltn (v := .ty "int") rfl T.int boot_int rfl) pa_nil))) (pe_one (pe_not (pe_callB call_isi (by rfl) T.isi (by decide +kernel) (pa_cons (pv 0) (pa_cons (pe_bltn (v := .ty "bool") rfl T.bool (by decide +kernel) rfl) pa_nil)))))))), ?_⟩
    refine ⟨v, rfl, v, .ty "int", _, _, _, rfl, .ty _, any_ty an, kit_int d, _, rfl, ?_⟩
    cases an with
    | bl b => exact iteT ⟨_, rfl, _, .ty "bool", _, _, _, rfl, .ty _, any_ty (.bl b), kit_bool (.bool b), _, rfl, q⟩
    | int i => exact iteT ⟨_, rfl, _, .ty "bool", _, _, _, rfl, .ty _, any_ty (.int i), kit_bool (.int i), _, rfl, q⟩
    | _ => exact iteF q
theorem okInt {f : Addr} {fd : FuncData} (F : FunD K "is_integer" "is_integer" (defArgs sInt) (defBody sInt) (defScope sInt) [.non, .non] [] f fd) (GN : Own P w K mg base CX0 1 "is_number" ["value"] [] spNum) :
    FnOk P w K mg base CX0 2 f fd ["value", "low", "high"] spInt := by
  refine F.ok scInt (fun vs H Q E h => ?_) (fun cdv A outer s H vs Q E hr h => ?_)
  · obtain ⟨v, l, h, d, dl, dh, rfl, _⟩ := h
    rfl
  · obtain ⟨v, l, h, d, dl, dh, rfl, an, al, ah, q⟩ := h
    refine ⟨_, (pss_cons (ps_if (pt_not (pt_val (pe_own GN hr pass0 (pa_cons (pv 0) pa_nil)))) (pss_one (ps_ret pe_bl)) pss_nil)
      (pss_cons (ps_if (PW.pt (pw_and (pt_val (pe_own GN hr pass0 (pa_cons (pv 1) pa_nil))) (pw_and1 (pt_cmpR op_lt (pv 0) (pv 1) (nomark _))))) (pss_one (ps_ret pe_bl)) pss_nil)
      (pss_one (ps_ret (pe_not (pe_and (pe_own GN hr pass0 (pa_cons (pv 2) pa_nil)) (pe_one (pe_cmpR op_gt (pv 0) (pv 2) (nomark _))))))))), ?_⟩
    refine ⟨_, rfl, _, d, rfl, an, _, rfl, ?_⟩
    cases ed : isIntD d with
    | false =>
      refine iteT ?_
      have e : inB d dl dh = false := by cases d <;> first | rfl | cases ed
      rw [e] at q
      exact q
    | true =>
      obtain ⟨n, rfl, rfl⟩ := int_of an ed
      refine iteF ⟨_, rfl, _, dl, rfl, al, _, rfl, ?_⟩
      have last : aboveD n dl = true → tRet (tNotV (tAndV (tCall spNum [] E0 (tCons (tVar 2) tNil)) (tOp (rI0 fun i j => .bl (decide (j < i))) (tVar 0) (tVar 2)))) { nx := fun _ H' => Q .non H', rt := Q } (start ["value", "low", "high"] [.int n, l, h]) H := by
        intro ea
        refine ⟨_, rfl, _, dh, rfl, ah, _, rfl, ?_⟩
        cases eh : isIntD dh with
        | false =>
          refine iteF ⟨_, rfl, ?_⟩
          have e : inB (.int n) dl dh = true := by
            show (aboveD n dl && belowD n dh) = true
            rw [ea]
            cases dh <;> first | rfl | cases eh
          rw [e] at q
          exact q
        | true =>
          obtain ⟨m, rfl, rfl⟩ := int_of ah eh
          refine iteT ⟨_, rfl, _, rfl, _, _, rfl, rfl, _, rfl, ?_⟩
          have e : inB (.int n) dl (.int m) = !decide (m < n) := by
            show (aboveD n dl && decide (n ≤ m)) = _
            rw [ea]
            by_cases z : m < n
            · rw [decide_eq_true z, decide_eq_false (by omega)] <;> rfl
            · rw [decide_eq_false z, decide_eq_true (by omega)] <;> rfl
          rw [e] at q
          exact q
      cases el : isIntD dl with
      | false =>
        refine iteF (iteF (last ?_))
        cases dl <;> first | rfl | cases el
      | true =>
        obtain ⟨m, rfl, rfl⟩ := int_of al el
        refine iteT ⟨_, rfl, _, rfl, _, _, rfl, rfl, _, rfl, ?_⟩
        refine ite2 (fun z => ?_) (fun z => last ?_)
        · have e : inB (.int n) (.int m) dh = false := by
            show (decide (m ≤ n) && belowD n dh) = false
            have z2 := of_decide_eq_true z
            rw [decide_eq_false (by omega)] <;> rfl
          rw [e] at q
          exact q
        · have z2 : ¬ n < m := fun y => z (decide_eq_true y)
          exact decide_eq_true (by omega)
theorem okPrime {f : Addr} {fd : FuncData} (F : Fun K "is_prime" "is_prime" sPrime f fd) (T : Txt K mg aI CP CS CV CU kI) (GN : Own P w K mg base CX0 1 "is_number" ["value"] [] spNum) : FnOk P w K mg base CX0 2 f fd ["value"] spPrime := by
  refine F.ok scPrime (fun vs H Q E h => ?_) (fun cdv A outer s H vs Q E hr h => ?_)
  · obtain ⟨v, d, rfl, _⟩ := h
    rfl
  · obtain ⟨v, d, rfl, an, q⟩ := h
    refine ⟨_, (pss_one (ps_ret (pe_and (pe_own GN hr pass0 (pa_cons (pv 0) pa_nil)) (pe_one (pe_cmpR (op_in_ti T.tI) (pv 0) (pe_glob (v := .ref aI) rfl T.gI rfl) (by rfl)))))), ?_⟩
    refine ⟨_, rfl, _, d, rfl, an, _, rfl, ?_⟩
    cases ed : isIntD d with
    | false =>
      refine iteF ?_
      have e : isPr d = false := by cases d <;> first | rfl | cases ed
      rw [e] at q
      exact q
    | true =>
      obtain ⟨n, rfl, rfl⟩ := int_of an ed
      refine iteT ⟨_, rfl, n, rfl, rfl, ?_⟩
      rw [T.hI]
      exact q
theorem okCheck {f : Addr} {fd : FuncData} (F : Fun K "check_prime" "check_prime" sCheck f fd) (T : Txt K mg aI CP CS CV CU kI) (GP : Own P w K mg base CX0 2 "is_prime" ["value"] [] spPrime) : FnOk P w K mg base (L2.CX P w) 4 f fd ["prime"] (spCheck CP) := by
  refine F.okX scCheck (fun vs H Q E h => ?_) (fun cdv A outer s H vs Q E hr h => ?_)
  · obtain ⟨v, d, rfl, _⟩ := h
    rfl
  · obtain ⟨v, d, rfl, an, qt, qf⟩ := h
    refine ⟨_, (pss_one (ps_if (pt_not (pt_val (pe_own GP (hr.mono (by decide)) pass0 (pa_cons (pv 0) pa_nil)))) (pss_one (ps_throw T.eP rfl (hr.mono (by decide)) (takes_of rfl rfl rfl rfl) (pv 0))) pss_nil)), ?_⟩
    refine ⟨_, rfl, _, d, rfl, an, _, rfl, ?_⟩
    cases e : isPr d with
    | true => exact iteF (qt e)
    | false => exact iteT ⟨_, rfl, thrown_go (qf e)⟩
theorem okList {f : Addr} {fd : FuncData} (F : Fun K "is_list" "is_list" sList f fd) (T : Txt K mg aI CP CS CV CU kI) : FnOk P w K mg base CX0 1 f fd ["value"] spList := by
  refine F.ok scList (fun vs H Q E h => ?_) (fun cdv A outer s H vs Q E hr h => ?_)
  · obtain ⟨v, d, rfl, _⟩ := h
    rfl
  · obtain ⟨v, d, rfl, an, q⟩ := h
    refine ⟨_, (pss_one (ps_ret (pe_callB call_isiT (by rfl) T.isi (by decide +kernel) (pa_cons (pv 0) (pa_cons (pe_tup (pa_cons (pe_bltn (v := .ty "list") rfl T.list (by decide +kernel) rfl) (pa_cons (pe_bltn (v := .ty "tuple") rfl T.tuple (by decide +kernel) rfl) pa_nil))) pa_nil))))), ?_⟩
    refine ⟨v, rfl, (by show 2 ≤ sizeLine; decide), fun tp htp => ?_⟩
    exact ⟨v, tp, _, _, _, _, rfl, upd_same, .cons (.ty _) (.cons (.ty _) .nil), any_ty (an.keep (same_new htp)), kit_seq d, q _ (same_new htp)⟩
abbrev tIsi (K : PySem.W.Frag) : TE := tAndV (tCB (rIsi K) (tCons (tVar 2) (tCons (tC (V.ty "int")) tNil))) (tNotV (tCB (rIsi K) (tCons (tVar 2) (tCons (tC (V.ty "bool")) tNil))))
theorem okVec {f : Addr} {fd : FuncData} (F : Fun K "is_vector" "is_vector" sVec f fd) (T : Txt K mg aI CP CS CV CU kI) (GL : Own P w K mg base CX0 1 "is_list" ["value"] [] spList) : FnOk P w K mg base CX0 2 f fd ["value", "length"] spVec := by
  refine F.ok scVec (fun vs H Q E h => ?_) (fun cdv A outer s H vs Q E hr h => ?_)
  · obtain ⟨v, d, n, rfl, _⟩ := h
    rfl
  · obtain ⟨v, d, n, rfl, an, sz, q⟩ := h
    refine ⟨_, (pss_one (ps_ret (pe_and (pe_own GL hr pass0 (pa_cons (pv 0) pa_nil)) (pe_and (pe_cmpR op_eq (pe_callB call_len_seq (by rfl) T.len (by decide +kernel) (pa_cons (pv 0) pa_nil)) (pv 1) (nomark _)) (pe_one (pe_callB (cr_all rfl) (by rfl) T.all (by decide +kernel) (pa_cons (pe_lc (own := [("item", 2)]) (g := gName 2) (tt := tYes) (te := tIsi K) rfl scVec.nd (pi_seq (pv 0)) (blkOk_by (N := ["value", "length", "item"]) (sc := defScope sVec) (by decide +kernel)) (fun _ _ _ _ _ => (pg_name (i := 2) scVec.nd rfl (Or.inl rfl))) (fun _ _ _ _ _ => pts_nil)
      (fun _ _ _ _ _ => (pe_and (pe_callB call_isi (by rfl) T.isi (by decide +kernel) (pa_cons (pv 2) (pa_cons (pe_bltn (v := .ty "int") rfl T.int boot_int rfl) pa_nil))) (pe_one (pe_not (pe_callB call_isi (by rfl) T.isi (by decide +kernel) (pa_cons (pv 2) (pa_cons (pe_bltn (v := .ty "bool") rfl T.bool (by decide +kernel) rfl) pa_nil)))))))) pa_nil))))))), ?_⟩
    refine ⟨v, rfl, v, d, rfl, an, fun H1 k1 => ⟨_, rfl, ?_⟩⟩
    rcases seq_flag an with ⟨e, k, a, xs, rfl, hs, al⟩ | e
    · rw [e]
      have ln := anyL_len al
      refine iteT ⟨_, rfl, a, xs, rfl, (hs k1 K).or, _, rfl, rfl, _, rfl, ?_⟩
      have hv : isVecD n d = (decide (((itemsD d).length : Int) = n) && (itemsD d).all isIntD) := by
        unfold isVecD
        rw [e] <;> rfl
      rw [hv] at q
      refine ite2 (fun z => ?_) (fun z => ?_)
      · have z1 : V.int (xs.length : Int) = V.int n := of_decide_eq_true z
        have z2 : (((itemsD d).length : Nat) : Int) = n := by
          injection z1 with z3
          rw [← ln]
          exact z3
        rw [decide_eq_true z2] at q
        refine ⟨.ref a, rfl, a, k, xs, rfl, hs k1 K, fun D hD => ?_⟩
        refine lc_same walk_seq (by omega) hD (fun H' s' => hs (k1.trans s') K) (fun i => .bool (isIntD ((itemsD d)[i]?.getD .none))) ?_ ?_
        · refine fun i x H' hi hx s1 hd => ⟨rfl, fun k' hk => ?_⟩
          obtain ⟨dx, hdx, anx⟩ := anyL_at al hx
          have ax := anx.keep (k1.trans s1)
          have fin : ∀ b, b = isIntD dx → k' (.bl b) H' := fun b eb => by
            refine hk _ _ (fun _ _ z => z) ?_
            rw [hdx, eb]
            exact .bl _
          refine ⟨x, rfl, x, .ty "int", _, _, _, rfl, .ty _, any_ty ax, kit_int dx, _, rfl, ?_⟩
          cases ax with
          | bl b => exact iteT ⟨_, rfl, _, .ty "bool", _, _, _, rfl, .ty _, any_ty (.bl b), kit_bool (.bool b), _, rfl, fin _ rfl⟩
          | int i => exact iteT ⟨_, rfl, _, .ty "bool", _, _, _, rfl, .ty _, any_ty (.int i), kit_bool (.int i), _, rfl, fin _ rfl⟩
          | _ => exact iteF (fin _ rfl)
        · refine fun H' acc s1 ha hal => ?_
          rw [ln, map_get (fun d => PyData.bool (isIntD d)) .none] at hal
          have e2 := anyL_flags hal
          refine ⟨D, _, rfl, .inl (.inl (by rw [← e2]; exact ha)), ?_⟩
          have e3 : ((itemsD d).map isIntD).all id = (itemsD d).all isIntD := by simp
          rw [e3]
          exact q _ (k1.trans s1)
      · have z2 : ¬ (((itemsD d).length : Nat) : Int) = n := fun y => z (decide_eq_true (by rw [ln, y]))
        rw [decide_eq_false z2] at q
        exact q _ k1
    · rw [e]
      have hv : isVecD n d = false := by
        unfold isVecD
        rw [e] <;> rfl
      rw [hv] at q
      exact iteF (q _ k1)
end
end K6

set_option Elab.async false
set_option linter.all false
set_option maxRecDepth 100000
set_option maxHeartbeats 4000000
/-! TkJA: sorted of pairs of an int and an object, the ints all different. -/
namespace Rw
open PySem PySem.Spec PyProof.Rows L2
/-- a pair of an int and an object in the memory -/
def IrAt (h : Heap) (v : Value) (x : Int) (r : Addr) : Prop := ∃ b ob tk m, v = .ref b ∧ h.get? b = some ob ∧ ob.cls = .type "tuple" ∧ ob.data = .seq #[.int x tk, .ref r] m
theorem IrAt.over {h h2 : Heap} {v : Value} {x : Int} {r : Addr} (g : IrAt h v x r) (k : ∀ b ob, h.get? b = some ob → ob.cls = .type "tuple" → h2.get? b = some ob) : IrAt h2 v x r := by
  obtain ⟨b, ob, tk, m, e1, e2, e3, e4⟩ := g
  exact ⟨b, ob, tk, m, e1, k b ob e2 e3, e3, e4⟩
theorem ir_heads {h : Heap} {ky : Value → Int} {rf : Value → Addr} : ∀ us : List Value, (∀ v, v ∈ us → IrAt h v (ky v) (rf v)) → ∃ hs : List Value, PySem.W.KatTups h us hs ∧ hs.length = us.length ∧ ∀ z, z ∈ hs → ∃ i tk, z = Value.int i tk
  | [], _ => ⟨[], PySem.W.KatTups.nil, rfl, fun z m => absurd m (List.not_mem_nil)⟩
  | u :: us, g => by
    obtain ⟨hs, a1, a2, a3⟩ := ir_heads (ky := ky) (rf := rf) us fun v m => g v (List.mem_cons_of_mem u m)
    obtain ⟨b, ob, tk, m, e1, e2, e3, e4⟩ := g u List.mem_cons_self
    rw [e1]
    refine ⟨.int (ky u) tk :: hs, PySem.W.KatTups.cons e2 e3 e4 rfl a1, congrArg (· + 1) a2, ?_⟩
    intro z mz
    rcases List.mem_cons.mp mz with q | q
    · exact ⟨_, _, q⟩
    · exact a3 z q
def ltK (ky : Value → Int) (x y : Value) : Bool := decide (ky x < ky y)
theorem ltK_swo {α : Type} (ky : α → Int) : SrtO.Swo fun x y : α => decide (ky x < ky y) := by
  constructor
  · intro x y q
    have := of_decide_eq_true q
    exact decide_eq_false (by omega)
  · intro x y z q1 q2
    have a1 := of_decide_eq_false q1
    have a2 := of_decide_eq_false q2
    exact decide_eq_false (by omega)
section
variable {prog : Program} {w : World} {A : Around} {E : Value → Shared → Prop} {s : Shared}
theorem ir_cmp {us : List Value} {ky : Value → Int} {rf : Value → Addr} (g : ∀ v, v ∈ us → IrAt s.heap v (ky v) (rf v)) (one : ∀ x y, x ∈ us → y ∈ us → ky x = ky y → x = y) :
    SrtO.Cmp prog w A s (tuples' true) (fun z => z.1 ∈ us) (SrtO.lt2 (ltK ky)) := fun y z my mz => by
  obtain ⟨b, ob, tk, m, e1, e2, e3, e4⟩ := g _ my
  obtain ⟨b2, ob2, tk2, m2, f1, f2, f3, f4⟩ := g _ mz
  have u := one _ _ my mz
  show wpAny (model prog w) A (keyLt' (tuples' true) y.1 z.1) (fun r s' => s' = s ∧ r = decide (ky y.1 < ky z.1)) (fun _ _ => False) s
  generalize ky y.1 = i at *
  generalize ky z.1 = j at *
  generalize rf y.1 = p1 at *
  generalize rf z.1 = p2 at *
  generalize y.1 = yy at *
  generalize z.1 = zz at *
  subst e1
  subst f1
  apply PySem.W.kat_lt e2 e4 f2 f4
  show PySem.W.KatLex prog w A true (decide (2 < 2)) _ [(Value.int i tk, Value.int j tk2), (Value.ref p1, Value.ref p2)] 0 s
  apply PySem.W.kat_cons
  refine SeqAt.EqAt.int_int i tk j tk2 prog w _ _ (PySem.W.kat_go (fun q => ?_) fun q => ?_)
  · have ij : i = j := eq_of_beq q
    have bb := u ij
    injection bb with bb
    rw [← bb, e2] at f2
    injection f2 with oo
    rw [← oo, e4] at f4
    injection f4 with f5 _
    have pp : p1 = p2 := by
      have := congrArg Array.toList f5
      injection this with _ t
      injection t with t _
      injection t
    rw [← pp]
    apply PySem.W.kat_yes
    apply PySem.W.kat_cons
    refine SeqAt.EqAt.same _ prog w _ _ (PySem.W.kat_go (fun _ => ?_) fun q2 => by cases q2)
    apply PySem.W.kat_yes
    exact PySem.W.kat_nil ⟨rfl, (decide_eq_false (by omega)).symm⟩
  · exact PySem.W.kat_no (oneLt_int ⟨rfl, rfl⟩)
theorem ir_sortable {l : Addr} {us : List Value} {ky : Value → Int} {rf : Value → Addr} (n0 : 0 < us.length) (g : ∀ v, v ∈ us → IrAt s.heap v (ky v) (rf v)) (one : ∀ x y, x ∈ us → y ∈ us → ky x = ky y → x = y)
    (nt : ∀ ob, s.heap.get? l = some ob → ob.cls ≠ .type "tuple") : SrtO.SortableO prog w A s l us (ltK ky) := fun h2 kp => by
  have g2 : ∀ v, v ∈ us → IrAt h2 v (ky v) (rf v) := fun v m => (g v m).over fun b ob e c => kp b ob (fun z => nt ob (z ▸ e) c) e
  obtain ⟨hs, a1, a2, a3⟩ := ir_heads us g2
  refine ⟨tuples' true, fun Q E hq => ?_, ir_cmp g2 one⟩
  refine PySem.W.kat_kind (T := .type "int") a1 (a2 ▸ n0) (fun z mz => ?_) (by rfl) ?_
  · obtain ⟨i, tk, q⟩ := a3 z mz
    rw [q]
    exact PySem.W.Looks.now
  · rw [show (Value.type "int" != Value.type "tuple") = true by first | decide +kernel | rfl | decide]
    exact hq
end
/-- sorted(xs) of pairs of an int and an object, all ints different -/
def rSortedIR (K : PySem.W.Frag) : List V → Hp → VK → Prop := fun vs H Q => ∃ (a : Addr) (xs : List V) (ky : V → Int) (rf : V → Addr), vs = [V.ref a] ∧ SqL K H a xs ∧ (∀ x, x ∈ xs → ∃ t, x = V.ref t ∧ H t = some (.tup [.int (ky x), .ref (rf x)])) ∧ (∀ x y, x ∈ xs → y ∈ xs → ky x = ky y → x = y) ∧
  ∀ ys p, ys.Perm xs → ys.Pairwise (fun x y => ky x ≤ ky y) → H p = none → Q (.ref p) (upd H p (.lst ys))
section
variable {X : Cx}
theorem cr_sortedIR : CallR X (.builtin "sorted") (rSortedIR X.K) := fun pins s σ H vs us Q I r h => by
  obtain ⟨a, xs, ky, rf, e, hs, hx, one, q⟩ := h
  subst e
  obtain ⟨its, rv, hl, hz⟩ := I.list hs
  obtain ⟨u, e, ru⟩ := vals1 r
  subst e
  cases (show u = Value.ref a from ru)
  obtain ⟨e1, e2⟩ := refs_back rv fun x m => ⟨_, (hx x m).choose_spec.1⟩
  have mem : ∀ v, v ∈ its → backV v ∈ xs := fun v m => by
    rw [e1]
    exact List.mem_map.mpr ⟨v, m, rfl⟩
  have at_ : ∀ (h2 : Heap), (∀ b ob, s.heap.get? b = some ob → h2.get? b = some ob) → ∀ v, v ∈ its → IrAt h2 v (ky (backV v)) (rf (backV v)) := fun h2 kp v m => by
    obtain ⟨t, ev⟩ := e2 v m
    obtain ⟨t2, e3, ht⟩ := hx _ (mem v m)
    subst ev
    cases e3
    obtain ⟨_, its2, r2, ob, ho, hc, n, hd⟩ := I.hok _ _ ht
    obtain ⟨w1, w2, e4, ri, rj⟩ := vals2 r2
    subst e4
    obtain ⟨tk, e5⟩ := ri
    subst e5
    cases (show w2 = Value.ref _ from rj)
    exact ⟨t, ob, tk, n, rfl, kp _ _ ho, hc, hd⟩
  have one2 : ∀ v u, v ∈ its → u ∈ its → ky (backV v) = ky (backV u) → v = u := fun v u mv mu e => by
    obtain ⟨b, rfl⟩ := e2 v mv
    obtain ⟨c, rfl⟩ := e2 u mu
    have z := one _ _ (mem _ mv) (mem _ mu) e
    cases z
    rfl
  refine SrtO.sorted_ord (ltv := ltK fun v => ky (backV v)) (ltK_swo _) hl.isList (by rw [← rv.length]; exact hz) (fun l2 h1 b hb kk => ?_) fun out hs1 hs2 => ?_
  · refine ir_sortable (rf := fun v => rf (backV v)) (by omega) (at_ h1 fun c ob e => (kk c ob e).2) one2 fun ob e c => ?_
    have z : some ob = some (seqObj "list" its.toArray 0) := e.symm.trans hb
    cases z
    exact absurd (Value.type.inj c) (by decide)
  · have pm : out.Perm its := hs2.perm
    have refs : ∀ v, v ∈ out → ∃ b, v = Value.ref b := fun v m => e2 v (pm.mem_iff.mp m)
    have pm2 : (out.map backV).Perm xs := by
      rw [e1]
      exact pm.map _
    obtain ⟨n, hn⟩ := sortedAll_at s.heap its out.toArray
    refine ⟨.ref (s.heap.objs.size + 1), upd H (s.heap.objs.size + 1) (.lst (out.map backV)), I.laid (t' := s.toks) (fun b ob e => sortedAll_old e) (Nat.le_succ _) ⟨?_, out, n, vals_back refs, hn⟩, rfl, q _ _ pm2 ?_ (I.hok.fresh (Nat.le_succ _))⟩
    · rw [pm2.length_eq]
      exact hz
    · refine List.pairwise_map.mpr (hs1.imp fun {x y} z => ?_)
      have z2 : decide (ky (backV y) < ky (backV x)) = false := z
      have := of_decide_eq_false z2
      omega
end
end Rw

set_option Elab.async false
set_option linter.all false
set_option maxRecDepth 100000
set_option maxHeartbeats 4000000
/-! TkJB: the same of a tuple. -/
namespace Rw
open PySem PySem.Spec PyProof.Rows L2 Srt SrtO
section
variable {prog : Program} {w : World} {A : Around} {E : Value → Shared → Prop} {s : Shared}
abbrev gathered (h : Heap) (us : List Value) : Heap := (h.push (seqObj "list" #[] 0)).update h.objs.size (Obj.mapSeq (· ++ us.toArray))
theorem gather_tup {l : Addr} {us : List Value} {Q : List Value → Shared → Prop} (tp : s.heap.IsTuple l us.toArray) (z : us.length ≤ sizeLine) (q : Q us { s with heap := gathered s.heap us }) : wpAny (model prog w) A (collect (.ref l)) Q E s := by
  obtain ⟨ob, e1, e2, m, e3⟩ := id tp
  unfold collect
  apply wpAny_bind
  apply wpAny_runValue
  apply codeAny_builtin entry_proto_collect'
  show wpAny _ _ (do again (.builtin "list.__iadd__" ⟨[← newList [], .ref l], []⟩)) _ _ s
  apply wpAny_bind
  refine wpAny_newList (wpAny_pure ⟨Code.quiet_builtin _ (by decide +kernel), ?_⟩)
  apply codeAny_builtin entry_list_iadd'
  show wpAny _ _ (Builtin.List.listExtendWith (.ref s.heap.objs.size) (.ref l) (.ref s.heap.objs.size)) _ _ { s with heap := s.heap.push (seqObj "list" #[] 0) }
  have kp : (s.heap.push (seqObj "list" #[] 0)).get? l = some ob := Heap.get?_push_of_some _ e1
  have new : (s.heap.push (seqObj "list" #[] 0)).get? s.heap.objs.size = some (seqObj "list" #[] 0) := Heap.get?_push_size _ rfl
  have ne : l ≠ s.heap.objs.size := Nat.ne_of_lt (Heap.lt_size e1)
  unfold Builtin.List.listExtendWith
  apply wpAny_bind
  refine wpAny_typeOf (T := "tuple") ⟨ob, kp, e2⟩ ?_
  rw [show (Value.type "tuple" == Value.type "tuple") = true by rfl, Bool.or_true, if_pos rfl]
  apply wpAny_bind
  refine listItems_at kp e3 ?_
  apply wpAny_bind
  refine listItems_at (xs := #[]) (n := 0) new rfl ?_
  rw [if_neg (by simp)]
  apply wpAny_bind
  refine listUpdate_at (xs := #[]) (n := 0) new rfl ?_ (Nat.zero_le _) (by
    show (#[] ++ us.toArray).size ≤ sizeLine + 1
    rw [Array.size_append, List.size_toArray]
    show 0 + us.length ≤ _
    omega)
  apply wpAny_pure
  show wpAny (model prog w) A (do
    let ob ← load s.heap.objs.size
    match ob.data with
    | .seq ys _ => pure ys.toList
    | _ => unsupported "internal:collect") Q E { s with heap := gathered s.heap us }
  apply wpAny_bind
  refine wpAny_load (get?_update_seq new _) ?_
  show wpAny _ _ (pure (#[] ++ us.toArray : Array Value).toList) Q E _
  rw [show (#[] ++ us.toArray : Array Value).toList = us by simp]
  exact wpAny_pure q
theorem sorted_tupO {l : Addr} {us : List Value} {lt : Value → Value → Bool} {Q : Value → Shared → Prop} (O : Swo lt) (tp : s.heap.IsTuple l us.toArray) (z : us.length ≤ sizeLine)
    (g : 2 ≤ us.length → ∀ (h1 : Heap) (b : Addr), h1.get? b = some (seqObj "list" us.toArray 0) → (∀ c ob, s.heap.get? c = some ob → c ≠ b ∧ h1.get? c = some ob) → SortableO prog w A.in1.in1 { s with heap := h1 } b us lt)
    (q : ∀ out : List Value, Srtd lt out → Stb lt out us → Q (.ref (s.heap.objs.size + 1)) { s with heap := sortedAll s.heap us out.toArray }) : wpAny (model prog w) A (call (.builtin "sorted") [.ref l]) Q E s := by
  apply Calls.call_function_entry kind_sorted plain_sorted entry_sorted (args_sorted1 _)
  unfold Builtin.«sorted»
  apply wpAny_bind (m := checkCount "sorted" 1 1 _)
  apply wpAny_pure
  apply wpAny_bind
  refine gather_tup tp z ?_
  apply wpAny_bind
  refine wpAny_newList ?_ z
  have sz : (gathered s.heap us).objs.size = s.heap.objs.size + 1 := by
    show ((s.heap.push _).update _ _).objs.size = _
    rw [Heap.size_update]
    exact size_push' ..
  have at_ : ((gathered s.heap us).push (seqObj "list" us.toArray 0)).get? (s.heap.objs.size + 1) = some (seqObj "list" us.toArray 0) := sz ▸ Heap.get?_push_size _ rfl
  have old : ∀ c ob, s.heap.get? c = some ob → c ≠ s.heap.objs.size + 1 ∧ ((gathered s.heap us).push (seqObj "list" us.toArray 0)).get? c = some ob := fun c ob e => by
    have below := Heap.lt_size e
    refine ⟨Nat.ne_of_lt (Nat.lt_succ_of_lt below), Heap.get?_push_of_some _ ?_⟩
    show ((s.heap.push _).update _ _).get? c = _
    rw [Heap.get?_update_ne _ _ _ _ (Nat.ne_of_lt below)]
    exact Heap.get?_push_of_some _ e
  show wpAny _ _ _ _ _ { s with heap := (gathered s.heap us).push (seqObj "list" us.toArray 0) }
  rw [sz]
  apply wpAny_bind
  apply wpAny_holding
  refine wpAny_call_entry slot_list_sort ⟨_, at_, rfl⟩ entry_list_sort (list_sort_ord O at_ z (fun l2 => g l2 _ _ at_ old) fun out a b => ⟨_, rfl, ?_⟩) (args_list_sort _)
  exact wpAny_pure ⟨_, rfl, q out a b⟩
end
/-- sorted(t) of a tuple of such pairs -/
def rSortedIT (K : PySem.W.Frag) : List V → Hp → VK → Prop := fun vs H Q => ∃ (a : Addr) (xs : List V) (ky : V → Int) (rf : V → Addr), vs = [V.ref a] ∧ (SqL K H a xs ∨ SqT K H a xs) ∧ xs.length ≤ 1000 ∧ (∀ x, x ∈ xs → ∃ t, x = V.ref t ∧ H t = some (.tup [.int (ky x), .ref (rf x)])) ∧ (∀ x y, x ∈ xs → y ∈ xs → ky x = ky y → x = y) ∧
  ∀ ys p, ys.Perm xs → ys.Pairwise (fun x y => ky x ≤ ky y) → H p = none → Q (.ref p) (upd H p (.lst ys))
section
variable {X : Cx}
theorem cr_sortedIT : CallR X (.builtin "sorted") (rSortedIT X.K) := fun pins s σ H vs us Q I r h => by
  obtain ⟨a, xs, ky, rf, e, hs, l1000, hx, one, q⟩ := h
  rcases hs with hs | hs
  · exact cr_sortedIR pins s σ H vs us Q I r ⟨a, xs, ky, rf, e, hs, hx, one, q⟩
  subst e
  obtain ⟨its, rv, hl, hz⟩ := I.tuple hs
  obtain ⟨u, e, ru⟩ := vals1 r
  subst e
  cases (show u = Value.ref a from ru)
  obtain ⟨e1, e2⟩ := refs_back rv fun x m => ⟨_, (hx x m).choose_spec.1⟩
  have mem : ∀ v, v ∈ its → backV v ∈ xs := fun v m => by
    rw [e1]
    exact List.mem_map.mpr ⟨v, m, rfl⟩
  have at_ : ∀ (h2 : Heap), (∀ b ob, s.heap.get? b = some ob → h2.get? b = some ob) → ∀ v, v ∈ its → IrAt h2 v (ky (backV v)) (rf (backV v)) := fun h2 kp v m => by
    obtain ⟨t, ev⟩ := e2 v m
    obtain ⟨t2, e3, ht⟩ := hx _ (mem v m)
    subst ev
    cases e3
    obtain ⟨_, its2, r2, ob, ho, hc, n, hd⟩ := I.hok _ _ ht
    obtain ⟨w1, w2, e4, ri, rj⟩ := vals2 r2
    subst e4
    obtain ⟨tk, e5⟩ := ri
    subst e5
    cases (show w2 = Value.ref _ from rj)
    exact ⟨t, ob, tk, n, rfl, kp _ _ ho, hc, hd⟩
  have one2 : ∀ v u, v ∈ its → u ∈ its → ky (backV v) = ky (backV u) → v = u := fun v u mv mu e => by
    obtain ⟨b, rfl⟩ := e2 v mv
    obtain ⟨c, rfl⟩ := e2 u mu
    have z := one _ _ (mem _ mv) (mem _ mu) e
    cases z
    rfl
  have zz : xs.length ≤ sizeLine := Nat.le_trans l1000 (by decide)
  have lx : its.length = xs.length := rv.length.symm
  refine sorted_tupO (lt := ltK fun v => ky (backV v)) (ltK_swo _) hl (by omega) (fun l2 h1 b hb kk => ?_) fun out hs1 hs2 => ?_
  · refine ir_sortable (rf := fun v => rf (backV v)) (by omega) (at_ h1 fun c ob e => (kk c ob e).2) one2 fun ob e c => ?_
    have z : some ob = some (seqObj "list" its.toArray 0) := e.symm.trans hb
    cases z
    exact absurd (Value.type.inj c) (by decide)
  · have pm : out.Perm its := hs2.perm
    have refs : ∀ v, v ∈ out → ∃ b, v = Value.ref b := fun v m => e2 v (pm.mem_iff.mp m)
    have pm2 : (out.map backV).Perm xs := by
      rw [e1]
      exact pm.map _
    obtain ⟨n, hn⟩ := sortedAll_at s.heap its out.toArray
    refine ⟨.ref (s.heap.objs.size + 1), upd H (s.heap.objs.size + 1) (.lst (out.map backV)), I.laid (t' := s.toks) (fun b ob e => sortedAll_old e) (Nat.le_succ _) ⟨?_, out, n, vals_back refs, hn⟩, rfl, q _ _ pm2 ?_ (I.hok.fresh (Nat.le_succ _))⟩
    · rw [pm2.length_eq]
      exact zz
    · refine List.pairwise_map.mpr (hs1.imp fun {x y} z => ?_)
      have z2 : decide (ky (backV y) < ky (backV x)) = false := z
      have := of_decide_eq_false z2
      omega
end
end Rw

set_option Elab.async false
set_option linter.all false
set_option maxRecDepth 100000
set_option maxHeartbeats 4000000
/-! TkP: sums, comprehensions beside a box, data held against data. -/
namespace Rw
open PySem PySem.Spec PyProof.Rows L2
/-! ### sums -/
def S : Nat → (Nat → Int) → Int
  | 0, _ => 0
  | n + 1, f => S n f + f n
theorem S_sum (f : Nat → Int) : ∀ n, ((List.range n).map f).sum = S n f
  | 0 => rfl
  | n + 1 => by
    rw [List.range_succ, List.map_append, List.sum_append, S_sum f n]
    show S n f + (f n + 0) = S n f + f n
    omega
theorem S_congr {f g : Nat → Int} : ∀ {n : Nat}, (∀ i, i < n → f i = g i) → S n f = S n g
  | 0, _ => rfl
  | n + 1, h => by
    show S n f + f n = S n g + g n
    rw [S_congr (n := n) fun i hi => h i (by omega), h n (by omega)]
theorem S_add (f g : Nat → Int) : ∀ n, S n (fun i => f i + g i) = S n f + S n g
  | 0 => rfl
  | n + 1 => by
    show S n (fun i => f i + g i) + (f n + g n) = (S n f + f n) + (S n g + g n)
    rw [S_add f g n]
    omega
theorem S_mul (a : Int) (f : Nat → Int) : ∀ n, S n (fun i => a * f i) = a * S n f
  | 0 => by show (0 : Int) = a * 0; rw [Int.mul_zero]
  | n + 1 => by
    show S n (fun i => a * f i) + a * f n = a * (S n f + f n)
    rw [S_mul a f n, Int.mul_add]
theorem S_zero : ∀ n, S n (fun _ => 0) = 0
  | 0 => rfl
  | n + 1 => by
    show S n (fun _ => 0) + 0 = 0
    rw [S_zero n] <;> rfl
theorem S_swap (f : Nat → Nat → Int) (m : Nat) : ∀ n, S n (fun i => S m (fun k => f i k)) = S m (fun k => S n (fun i => f i k))
  | 0 => by
    show (0 : Int) = S m (fun _ => 0)
    rw [S_zero]
  | n + 1 => by
    show S n (fun i => S m (fun k => f i k)) + S m (fun k => f n k) = S m (fun k => S n (fun i => f i k) + f n k)
    rw [S_swap f m n, S_add]
theorem S_mod (p : Int) {f g : Nat → Int} : ∀ {n : Nat}, (∀ i, i < n → f i % p = g i % p) → S n f % p = S n g % p
  | 0, _ => rfl
  | n + 1, h => by
    show (S n f + f n) % p = (S n g + g n) % p
    rw [Int.add_emod, S_mod p (n := n) fun i hi => h i (by omega), h n (by omega), ← Int.add_emod]
/-- leading by the product is leading twice -/
theorem S_assoc (p : Int) (v : Nat → Int) (a b : Nat → Nat → Int) (n m c : Nat) :
    S n (fun i => v i * (S m (fun k => a i k * b k c) % p)) % p = S m (fun k => (S n (fun i => v i * a i k) % p) * b k c) % p := by
  have e1 : S n (fun i => v i * (S m (fun k => a i k * b k c) % p)) % p = S n (fun i => S m (fun k => v i * a i k * b k c)) % p := by
    refine S_mod p fun i _ => ?_
    have : S m (fun k => v i * a i k * b k c) = v i * S m (fun k => a i k * b k c) := by
      rw [← S_mul]
      exact S_congr fun k _ => Int.mul_assoc _ _ _
    rw [this, Int.mul_emod, Int.emod_emod_of_dvd _ (Int.dvd_refl p), ← Int.mul_emod]
  have e2 : S m (fun k => (S n (fun i => v i * a i k) % p) * b k c) % p = S m (fun k => S n (fun i => v i * a i k * b k c)) % p := by
    refine S_mod p fun k _ => ?_
    have : S n (fun i => v i * a i k * b k c) = S n (fun i => v i * a i k) * b k c := by
      rw [Int.mul_comm (S n _) (b k c), ← S_mul]
      exact S_congr fun i _ => Int.mul_comm _ _
    rw [this, Int.mul_emod, Int.emod_emod_of_dvd _ (Int.dvd_refl p), ← Int.mul_emod]
  rw [e1, e2, S_swap]
/-! ### data held against data -/
mutual
theorem any_dp {K : PySem.W.Frag} {H : Hp} : ∀ (d : PyData) (v : V), Any H v d → d.canLay0 = true → Dp K H v d
  | .none, _, h, _ => by
    cases h
    exact .non
  | .bool b, _, h, _ => by
    cases h
    exact .bl b
  | .int i, _, h, _ => by
    cases h
    exact .int i
  | .str x, _, h, _ => by
    cases h
    exact .str x
  | .list ds, _, h, c => by
    cases h with
    | lst e a => exact .lst (SqL.of e) (any_dpL ds _ a (by simpa [PyData.canLay0] using c))
  | .tuple ds, _, h, c => by
    cases h with
    | tup e a => exact .tup (SqT.of e) (any_dpL ds _ a (by simpa [PyData.canLay0] using c))
  | .dict ds, _, h, c => by simp [PyData.canLay0] at c
theorem any_dpL {K : PySem.W.Frag} {H : Hp} : ∀ (ds : List PyData) (vs : List V), AnyL H vs ds → PyData.canLayAll0 ds = true → DpAll K H vs ds
  | [], _, h, _ => by
    cases h
    exact .nil
  | d :: ds, _, h, c => by
    have c' : d.canLay0 = true ∧ PyData.canLayAll0 ds = true := by simpa [PyData.canLayAll0] using c
    cases h with
    | cons a b => exact .cons (any_dp d _ a c'.1) (any_dpL ds _ b c'.2)
end
theorem lay_all : ∀ {ds : List PyData}, (∀ d, d ∈ ds → d.canLay0 = true) → PyData.canLayAll0 ds = true
  | [], _ => by simp [PyData.canLayAll0]
  | d :: ds, h => by simp [PyData.canLayAll0, h d List.mem_cons_self, lay_all (ds := ds) fun x hx => h x (List.mem_cons_of_mem _ hx)]
theorem lay_tup {ds : List PyData} (h : ∀ d, d ∈ ds → d.canLay0 = true) : (PyData.tuple ds).canLay0 = true := by
  simp [PyData.canLay0, lay_all h]
theorem lay_list {ds : List PyData} (h : ∀ d, d ∈ ds → d.canLay0 = true) : (PyData.list ds).canLay0 = true := by
  simp [PyData.canLay0, lay_all h]
theorem lay_ints (ns : List Int) : ∀ d, d ∈ ns.map PyData.int → d.canLay0 = true := by
  intro d hd
  obtain ⟨n, _, rfl⟩ := List.mem_map.mp hd
  simp [PyData.canLay0]
/-- the same data: not unlike -/
theorem ne_same {K : PySem.W.Frag} {H : Hp} {x y : V} {d : PyData} {Q : VK} (a : Any H x d) (b : Any H y d) (c : d.canLay0 = true) (l : d.depth ≤ 64) (q : Q (.bl false) H) : rNeD K x y H Q := by
  have s : SeqAt.shaped d = true := by
    unfold SeqAt.shaped
    rw [c, decide_eq_true l] <;> rfl
  refine ⟨d, d, any_dp d x a c, any_dp d y b c, s, s, ?_⟩
  rw [SeqAt.eqv_refl d c]
  exact q
theorem eq_same {K : PySem.W.Frag} {H : Hp} {x y : V} {d : PyData} {Q : VK} (a : Any H x d) (b : Any H y d) (c : d.canLay0 = true) (l : d.depth ≤ 64) (q : Q (.bl true) H) : rEqD K x y H Q := by
  have s : SeqAt.shaped d = true := by
    unfold SeqAt.shaped
    rw [c, decide_eq_true l] <;> rfl
  refine ⟨d, d, any_dp d x a c, any_dp d y b c, s, s, ?_⟩
  rw [SeqAt.eqv_refl d c]
  exact q
/-! ### comprehensions beside a box -/
theorem lc_box {J : It} {n : Nat} {G : Hp → Prop} {P : Nat → V → Prop} (w : Walk J n G (fun i H x H' => H' = H ∧ P i x)) {j : Nat} {σ : L2.St} {vs : List Nat} {te : TE} {H1 : Hp} {p D : Addr} {c t : Nat} {Q : Hp → Prop} (hn : n ≤ 1000) (hD : H1 D = none) (b0 : Bx H1 p c) (hG : ∀ H, Grow p H1 H → G H) (Good : PyData → Prop)
    (hs : ∀ i x H, i < n → P i x → Grow p H1 H → Bx H p (c + i * t) → (∃ o, H D = some o) → wipe ((wipe σ vs).set j (some x)) vs = wipe σ vs ∧ ∀ k : VK, (∀ y d H', Grow p H H' → Bx H' p (c + i * t + t) → Good d → Any (del (del H' p) D) y d → k y H') → te ((wipe σ vs).set j (some x)) H k)
    (hq : ∀ H acc ds, Grow p H1 H → Bx H p (c + n * t) → H D = some (.lst acc) → AnyL (del (del H p) D) acc ds → ds.length = n → (∀ d, d ∈ ds → Good d) → Q H) :
    ∃ W : Nat → Nat → Hp → Prop, (∃ m, W 0 m (upd H1 D (.lst []))) ∧ ∀ i m H, W i m H →
      (J.stop i H ∧ Q H) ∨ (J.go i H ∧ ∃ Nx : Hp → Prop, (∀ H', Nx H' → ∃ m', m' < m ∧ W (i + 1) m' H') ∧ ∀ x H', J.yld i H x H' → gName j x (wipe σ vs) H' fun σ2 H2 => wipe σ2 vs = wipe σ vs ∧ tYes σ2 H2 fun b H3 =>
        if b = true then te σ2 H3 fun y H4 => ∃ acc, H4 D = some (.lst acc) ∧ acc.length < sizeLine ∧ Nx (upd H4 D (.lst (acc ++ [y]))) else Nx H3) := by
  have pD := b0.ne hD
  refine lc_it w (Qd := Q) (Pv := fun i H => Grow p H1 H ∧ Bx H p (c + i * t) ∧ ∃ acc ds, H D = some (.lst acc) ∧ AnyL (del (del H p) D) acc ds ∧ ds.length = i ∧ ∀ d, d ∈ ds → Good d) ⟨Grow.of (same_new hD), by simpa using b0.keep (same_new hD), [], [], upd_same, .nil, rfl, fun d hd => (nomatch hd)⟩ (fun i H _ h => hG H h.1) ?_ ?_
  · rintro i x H H' hi ⟨g, b, acc, ds, ha, al, l, gd⟩ ⟨rfl, hp⟩
    obtain ⟨e1, e2⟩ := hs i x H' hi hp g b ⟨_, ha⟩
    refine ⟨e1, ?_⟩
    show te _ _ _
    refine e2 _ fun y d H4 g4 b4 gd4 an => ?_
    have ha4 := g4 _ _ pD.symm ha
    have ln := anyL_len al
    have eqd : ∀ o, del (del (upd H4 D o) p) D = del (del H4 p) D := fun o => by
      funext z
      by_cases y1 : z = D
      · rw [y1, del_same, del_same]
      · rw [del_ne y1, del_ne y1]
        by_cases y2 : z = p
        · rw [y2, del_same, del_same]
        · rw [del_ne y2, del_ne y2, upd_ne y1]
    refine ⟨acc, ha4, Nat.lt_of_lt_of_le (by omega : acc.length < 1000) (by decide), ?_, ?_, acc ++ [y], ds ++ [d], upd_same, ?_, by rw [List.length_append, l] <;> rfl, ?_⟩
    · intro z o ne eo
      rw [upd_ne (ne_of_none eo hD)]
      exact (g.trans g4) z o ne eo
    · obtain ⟨a1, a2, a3, h1, rest⟩ := b4
      refine Bx.more ⟨a1, a2, a3, by rw [upd_ne pD]; exact h1, rest⟩ ?_
      rw [Nat.succ_mul]
      omega
    · rw [eqd]
      exact anyL_snoc (anyL_keep (Grow.del (Grow.of g4.del)) al) an
    · intro z hz
      rcases List.mem_append.mp hz with q | q
      · exact gd z q
      · rw [List.mem_singleton.mp q]
        exact gd4
  · rintro H ⟨g, b, acc, ds, ha, al, l, gd⟩
    exact hq H acc ds g b ha al l gd
end Rw

set_option Elab.async false
set_option linter.all false
/-! TkR: reduced bases modulo p: a space has one. -/
namespace Rw
theorem S_single {g : Nat → Int} {j : Nat} : ∀ {n : Nat}, j < n → (∀ i, i < n → i ≠ j → g i = 0) → S n g = g j
  | 0, h, _ => absurd h (Nat.not_lt_zero j)
  | n + 1, h, z => by
    show S n g + g n = g j
    by_cases e : j = n
    · subst e
      have h0 : S j g = S j (fun _ => 0) := S_congr fun i hi => z i (by omega) (by omega)
      rw [h0, S_zero]
      omega
    · rw [S_single (n := n) (by omega) fun i hi ne => z i (by omega) ne, z n (by omega) (fun y => e y.symm)]
      omega
/-- n rows of width w, reduced modulo p, with their leading places -/
structure Red (p : Int) (w n : Nat) (A : Nat → Nat → Int) (L : Nat → Nat) : Prop where
  lt : ∀ i, i < n → L i < w
  mono : ∀ i j, i < j → j < n → L i < L j
  one : ∀ i, i < n → A i (L i) = 1
  zero : ∀ i j, i < n → j < n → i ≠ j → A i (L j) = 0
  low : ∀ i c, i < n → c < L i → A i c = 0
  rng : ∀ i c, i < n → c < w → 0 ≤ A i c ∧ A i c < p
/-- a vector is a sum of multiples of the rows -/
def InSpan (p : Int) (w n : Nat) (A : Nat → Nat → Int) (v : Nat → Int) : Prop := ∃ f : Nat → Int, ∀ c, c < w → v c % p = S n (fun i => f i * A i c) % p
variable {p : Int} {w n m : Nat} {A B : Nat → Nat → Int} {L M : Nat → Nat}
theorem Red.coef (R : Red p w n A L) {f : Nat → Int} {v : Nat → Int} (h : ∀ c, c < w → v c % p = S n (fun i => f i * A i c) % p) {j : Nat} (hj : j < n) : f j % p = v (L j) % p := by
  rw [h (L j) (R.lt j hj), S_single (j := j) hj fun i hi ne => ?_]
  · show f j % p = (f j * A j (L j)) % p
    rw [R.one j hj, Int.mul_one]
  · show f i * A i (L j) = 0
    rw [R.zero i j hi hj ne, Int.mul_zero]
theorem least {P : Nat → Prop} : ∀ n : Nat, (∃ i, i < n ∧ P i) → ∃ i, i < n ∧ P i ∧ ∀ k, k < i → ¬ P k
  | 0, h => by
    obtain ⟨i, hi, _⟩ := h
    exact absurd hi (Nat.not_lt_zero i)
  | n + 1, h => by
    by_cases e : ∃ i, i < n ∧ P i
    · obtain ⟨i, h1, h2, h3⟩ := least n e
      exact ⟨i, by omega, h2, h3⟩
    · obtain ⟨i, hi, hp⟩ := h
      have : i = n := by
        by_cases y : i < n
        · exact absurd ⟨i, y, hp⟩ e
        · omega
      subst this
      exact ⟨i, by omega, hp, fun k hk hpk => e ⟨k, hk, hpk⟩⟩
theorem Red.lead (R : Red p w n A L) (T : Red p w m B M) (hp : 1 < p) (h : ∀ j, j < m → InSpan p w n A (B j)) {j : Nat} (hj : j < m) : ∃ i, i < n ∧ L i = M j := by
  obtain ⟨f, hf⟩ := h j hj
  have one : (1 : Int) % p = 1 := Int.emod_eq_of_lt (by decide) hp
  have ex : ∃ i, i < n ∧ ¬ f i % p = 0 := by
    refine Classical.byContradiction fun no => ?_
    have all : ∀ i, i < n → f i % p = 0 := fun i hi => Classical.byContradiction fun y => no ⟨i, hi, y⟩
    have e := hf (M j) (T.lt j hj)
    rw [T.one j hj, one, S_mod p (f := fun i => f i * A i (M j)) (g := fun _ => 0) (fun i hi => by
      show (f i * A i (M j)) % p = 0 % p
      rw [Int.mul_emod, all i hi, Int.zero_mul]), S_zero] at e
    simp at e
  obtain ⟨i, hi, ni, lo⟩ := least n ex
  have lo' : ∀ k, k < i → f k % p = 0 := fun k hk => Classical.byContradiction fun y => lo k hk y
  refine ⟨i, hi, ?_⟩
  have c1 : ¬ L i < M j := fun y => by
    have e := R.coef hf hi
    rw [T.low j (L i) hj y] at e
    exact ni (by rw [e]; simp)
  have c2 : ¬ M j < L i := fun y => by
    have e := hf (M j) (T.lt j hj)
    rw [T.one j hj, one, S_mod p (f := fun k => f k * A k (M j)) (g := fun _ => 0) (fun k hk => by
      show (f k * A k (M j)) % p = 0 % p
      by_cases z : k < i
      · rw [Int.mul_emod, lo' k z, Int.zero_mul]
      · have : M j < L k := by
          by_cases q : k = i
          · rw [q]; exact y
          · exact Nat.lt_trans y (R.mono i k (by omega) hk)
        rw [R.low k (M j) hk this, Int.mul_zero]), S_zero] at e
    simp at e
  omega
theorem same_leads (R : Red p w n A L) (T : Red p w m B M) (h1 : ∀ j, j < m → ∃ i, i < n ∧ L i = M j) (h2 : ∀ i, i < n → ∃ j, j < m ∧ M j = L i) : ∀ k i, i < k → i < n → i < m ∧ L i = M i
  | 0, i, h, _ => absurd h (Nat.not_lt_zero i)
  | k + 1, i, h, hi => by
    have ih := same_leads R T h1 h2 k
    obtain ⟨j, hj, ej⟩ := h2 i hi
    have ji : ¬ j < i := fun y => by
      obtain ⟨_, e⟩ := ih j (by omega) (by omega)
      have := R.mono j i y hi
      omega
    have im : i < m := by omega
    obtain ⟨q, hq, eq⟩ := h1 i im
    have qi : ¬ q < i := fun y => by
      obtain ⟨_, e⟩ := ih q (by omega) (by omega)
      have := T.mono q i y im
      omega
    refine ⟨im, ?_⟩
    have a1 : L i ≤ L q := by
      by_cases z : i = q
      · rw [z]; exact Nat.le_refl _
      · exact Nat.le_of_lt (R.mono i q (by omega) hq)
    have a2 : M i ≤ M j := by
      by_cases z : i = j
      · rw [z]; exact Nat.le_refl _
      · exact Nat.le_of_lt (T.mono i j (by omega) hj)
    omega
/-- two reduced bases of one space are the same -/
theorem red_unique (R : Red p w n A L) (T : Red p w m B M) (hp : 1 < p) (h1 : ∀ j, j < m → InSpan p w n A (B j)) (h2 : ∀ i, i < n → InSpan p w m B (A i)) : n = m ∧ (∀ i, i < n → L i = M i) ∧ ∀ i c, i < n → c < w → A i c = B i c := by
  have l1 := fun j (hj : j < m) => R.lead T hp h1 hj
  have l2 := fun i (hi : i < n) => T.lead R hp h2 hi
  have s1 := fun i hi => same_leads R T l1 l2 (i + 1) i (Nat.lt_succ_self i) hi
  have s2 := fun j hj => same_leads T R l2 l1 (j + 1) j (Nat.lt_succ_self j) hj
  have nm : n = m := by
    by_cases y : n < m
    · exact absurd (s2 n y).1 (Nat.lt_irrefl n)
    · by_cases z : m < n
      · exact absurd (s1 m z).1 (Nat.lt_irrefl m)
      · omega
  subst nm
  refine ⟨rfl, fun i hi => (s1 i hi).2, fun i c hi hc => ?_⟩
  obtain ⟨g, hg⟩ := h2 i hi
  have cf := fun j (hj : j < n) => T.coef hg hj
  have e : A i c % p = B i c % p := by
    rw [hg c hc, S_mod p (f := fun j => g j * B j c) (g := fun j => if j = i then B i c else 0) (fun j hj => ?_), S_single (j := i) hi fun k _ ne => if_neg ne]
    · show (if i = i then B i c else 0) % p = _
      rw [if_pos rfl]
    · show (g j * B j c) % p = (if j = i then B i c else 0) % p
      rw [Int.mul_emod, cf j hj, ← (s1 j hj).2]
      by_cases y : j = i
      · subst y
        rw [R.one j hj, if_pos rfl, ← Int.mul_emod, Int.one_mul]
      · rw [R.zero i j hi hj (fun z => y z.symm), if_neg y, ← Int.mul_emod, Int.zero_mul]
  obtain ⟨a1, a2⟩ := R.rng i c hi hc
  obtain ⟨b1, b2⟩ := T.rng i c hi hc
  rw [Int.emod_eq_of_lt a1 a2, Int.emod_eq_of_lt b1 b2] at e
  exact e
end Rw

set_option Elab.async false
set_option linter.all false
/-! TkV: spaces of rows modulo p; the law's own elimination, a turn at a time. -/
namespace Rw
def cl (r : List Int) (c : Nat) : Int := r[c]?.getD 0
/-- sums of multiples of the rows, modulo p -/
inductive InL (p : Int) (w : Nat) (rs : List (List Int)) : (Nat → Int) → Prop
  | zero {v : Nat → Int} : (∀ c, c < w → v c % p = 0) → InL p w rs v
  | step {u v : Nat → Int} {r : List Int} (a : Int) : r ∈ rs → InL p w rs u → (∀ c, c < w → v c % p = (u c + a * cl r c) % p) → InL p w rs v
section
variable {p : Int} {w : Nat} {rs rs' : List (List Int)} {u v : Nat → Int} {r : List Int}
theorem InL.congr (h : InL p w rs u) (e : ∀ c, c < w → v c % p = u c % p) : InL p w rs v := by
  cases h with
  | zero z => exact .zero fun c hc => (e c hc).trans (z c hc)
  | step a m hu hv => exact .step a m hu fun c hc => (e c hc).trans (hv c hc)
theorem InL.add (h : InL p w rs u) (k : InL p w rs v) : InL p w rs (fun c => u c + v c) := by
  induction h with
  | zero z =>
    refine k.congr fun c hc => ?_
    rw [Int.add_emod, z c hc, Int.zero_add, Int.emod_emod_of_dvd _ (Int.dvd_refl p)]
  | step a m hu hv ih =>
    refine .step a m ih fun c hc => ?_
    rw [Int.add_emod, hv c hc, ← Int.add_emod]
    exact congrArg (· % p) (by omega)
theorem InL.mul (b : Int) (h : InL p w rs u) : InL p w rs (fun c => b * u c) := by
  induction h with
  | zero z =>
    refine .zero fun c hc => ?_
    rw [Int.mul_emod, z c hc, Int.mul_zero, Int.zero_emod]
  | step a m hu hv ih =>
    refine .step (b * a) m ih fun c hc => ?_
    rw [Int.mul_emod, hv c hc, ← Int.mul_emod, Int.mul_add, Int.mul_assoc]
theorem InL.row (m : r ∈ rs) : InL p w rs (cl r) := .step 1 m (.zero (v := fun _ => 0) fun _ _ => Int.zero_emod p) fun c _ => by rw [Int.zero_add, Int.one_mul]
theorem InL.trans (h : InL p w rs v) (k : ∀ r, r ∈ rs → InL p w rs' (cl r)) : InL p w rs' v := by
  induction h with
  | zero z => exact .zero z
  | step a m hu hv ih => exact (ih.add ((k _ m).mul a)).congr hv
theorem inL_span (h : InL p w rs v) : InSpan p w rs.length (fun i c => cl (rs[i]?.getD []) c) v := by
  induction h with
  | zero z =>
    refine ⟨fun _ => 0, fun c hc => ?_⟩
    rw [z c hc, S_congr (g := fun _ => 0) fun i _ => Int.zero_mul _, S_zero, Int.zero_emod]
  | step a m hu hv ih =>
    rename_i u' v' r'
    obtain ⟨f, hf⟩ := ih
    obtain ⟨i, hi, e⟩ := List.mem_iff_getElem.mp m
    refine ⟨fun k => f k + if k = i then a else 0, fun c hc => ?_⟩
    have e1 : S rs.length (fun k => (f k + if k = i then a else 0) * cl (rs[k]?.getD []) c) = S rs.length (fun k => f k * cl (rs[k]?.getD []) c) + a * cl r' c := by
      rw [S_congr (g := fun k => f k * cl (rs[k]?.getD []) c + (if k = i then a else 0) * cl (rs[k]?.getD []) c) fun k _ => Int.add_mul _ _ _, S_add]
      rw [S_single (g := fun k => (if k = i then a else 0) * cl (rs[k]?.getD []) c) hi fun k _ ne => by
        show (if k = i then a else 0) * _ = 0
        rw [if_neg ne, Int.zero_mul]]
      show _ + (if i = i then a else 0) * cl (rs[i]?.getD []) c = _
      rw [if_pos rfl, List.getElem?_eq_getElem hi, Option.getD_some, e]
    rw [hv c hc, e1, Int.add_emod, hf c hc, ← Int.add_emod]
end
/-- a row less that multiple of the head that clears it at s -/
def lessR (p : Int) (head : List Int) (s : Nat) (r : List Int) : List Int := (List.range head.length).map fun k => (cl r k - cl r s * cl head k) % p
def unitR (p t : Int) (r : List Int) : List Int := r.map fun x => x * t % p
theorem cl_less {p : Int} {head r : List Int} {s c : Nat} (h : c < head.length) : cl (lessR p head s r) c = (cl r c - cl r s * cl head c) % p := by
  unfold lessR
  show ((List.map _ _)[c]?).getD 0 = _
  rw [List.getElem?_map, List.getElem?_range h] <;> rfl
theorem cl_unit {p t : Int} {r : List Int} {c : Nat} (h : c < r.length) : cl (unitR p t r) c = cl r c * t % p := by
  unfold unitR
  show ((List.map _ _)[c]?).getD 0 = ((r[c]?).getD 0) * t % p
  rw [List.getElem?_map, List.getElem?_eq_getElem h] <;> rfl
/-- where the law's elimination stands at the place s -/
structure Elim (p : Int) (w : Nat) (rows : List (List Int)) (s : Nat) (left found : List (List Int)) : Prop where
  len : ∀ r, r ∈ left ++ found → r.length = w
  rng : ∀ r, r ∈ left ++ found → ∀ c, c < w → 0 ≤ cl r c ∧ cl r c < p
  zero : ∀ r, r ∈ left → ∀ c, c < s → cl r c = 0
  red : ∃ L : Nat → Nat, Red p w found.length (fun i c => cl (found[i]?.getD []) c) L ∧ ∀ i, i < found.length → L i < s
  sp1 : ∀ r, r ∈ rows → InL p w (left ++ found) (cl r)
  sp2 : ∀ r, r ∈ left ++ found → InL p w rows (cl r)
section
variable {p : Int} {w s : Nat} {rows left found : List (List Int)}
theorem Elim.skip (e : Elim p w rows s left found) (h : ∀ r, r ∈ left → cl r s = 0) : Elim p w rows (s + 1) left found := by
  obtain ⟨L, R, lt⟩ := e.red
  refine ⟨e.len, e.rng, fun r hr c hc => ?_, ⟨L, R, fun i hi => Nat.lt_succ_of_lt (lt i hi)⟩, e.sp1, e.sp2⟩
  by_cases z : c = s
  · rw [z]; exact h r hr
  · exact e.zero r hr c (by omega)
end
end Rw

set_option Elab.async false
set_option linter.all false
/-! TkW: a turn of the law's elimination, and its end. -/
namespace Rw
theorem mem_parts {rows : List (List Int)} {k : Nat} {h0 r : List Int} (hk : rows[k]? = some h0) (hr : r ∈ rows) : r = h0 ∨ r ∈ rows.eraseIdx k := by
  obtain ⟨i, hi, e⟩ := List.mem_iff_getElem.mp hr
  by_cases y : i = k
  · subst y
    rw [List.getElem?_eq_getElem hi] at hk
    exact .inl (e.symm.trans (Option.some.inj hk))
  · exact .inr (List.mem_eraseIdx_iff_getElem.mpr ⟨i, hi, y, e⟩)
section
variable {p : Int} {w s : Nat} {rows left found : List (List Int)}
theorem Elim.turn (e : Elim p w rows s left found) (hp : 1 < p) (hs : s < w) {k : Nat} {h0 : List Int} (hk : left[k]? = some h0) {t : Int} (ht : cl h0 s * t % p = 1) :
    Elim p w rows (s + 1) ((left.eraseIdx k).map (lessR p (unitR p t h0) s)) (found.map (lessR p (unitR p t h0) s) ++ [unitR p t h0]) := by
  have p0 : p ≠ 0 := by omega
  have hin : h0 ∈ left := List.mem_of_getElem? hk
  have hlen : h0.length = w := e.len h0 (List.mem_append_left _ hin)
  generalize hd' : unitR p t h0 = hd
  have dlen : hd.length = w := by
    rw [← hd']
    unfold unitR
    rw [List.length_map, hlen]
  have dcl : ∀ c, c < w → cl hd c = cl h0 c * t % p := fun c hc => by
    rw [← hd']
    exact cl_unit (by omega)
  have dz : ∀ c, c < s → cl hd c = 0 := fun c hc => by
    rw [dcl c (by omega), e.zero h0 hin c hc, Int.zero_mul, Int.zero_emod]
  have d1 : cl hd s = 1 := by rw [dcl s hs, ht]
  have lcl : ∀ r c, c < w → cl (lessR p hd s r) c = (cl r c - cl r s * cl hd c) % p := fun r c hc => cl_less (by omega)
  have llen : ∀ r, (lessR p hd s r).length = w := fun r => by
    unfold lessR
    rw [List.length_map, List.length_range, dlen]
  have sub : ∀ r, r ∈ left.eraseIdx k → r ∈ left := fun r hr => List.mem_of_mem_eraseIdx hr
  -- what a new row is
  have kinds : ∀ r, r ∈ (left.eraseIdx k).map (lessR p hd s) ++ (found.map (lessR p hd s) ++ [hd]) → r = hd ∨ ∃ r0, r0 ∈ left ++ found ∧ r = lessR p hd s r0 := by
    intro r hr
    rcases List.mem_append.mp hr with z | z
    · obtain ⟨r0, h1, h2⟩ := List.mem_map.mp z
      exact .inr ⟨r0, List.mem_append_left _ (sub r0 h1), h2.symm⟩
    · rcases List.mem_append.mp z with y | y
      · obtain ⟨r0, h1, h2⟩ := List.mem_map.mp y
        exact .inr ⟨r0, List.mem_append_right _ h1, h2.symm⟩
      · exact .inl (List.mem_singleton.mp y)
  have hdin : hd ∈ (left.eraseIdx k).map (lessR p hd s) ++ (found.map (lessR p hd s) ++ [hd]) := List.mem_append_right _ (List.mem_append_right _ (List.mem_singleton.mpr rfl))
  have drng : ∀ c, c < w → 0 ≤ cl hd c ∧ cl hd c < p := fun c hc => by
    rw [dcl c hc]
    exact ⟨Int.emod_nonneg _ p0, Int.emod_lt_of_pos _ (by omega)⟩
  obtain ⟨L, R, lt⟩ := e.red
  refine ⟨?_, ?_, ?_, ?_, ?_, ?_⟩
  · intro r hr
    rcases kinds r hr with rfl | ⟨r0, _, rfl⟩
    · exact dlen
    · exact llen r0
  · intro r hr c hc
    rcases kinds r hr with rfl | ⟨r0, _, rfl⟩
    · exact drng c hc
    · rw [lcl r0 c hc]
      exact ⟨Int.emod_nonneg _ p0, Int.emod_lt_of_pos _ (by omega)⟩
  · intro r hr c hc
    obtain ⟨r0, h1, rfl⟩ := List.mem_map.mp hr
    rw [lcl r0 c (by omega)]
    by_cases y : c = s
    · subst y
      rw [d1, Int.mul_one, Int.sub_self, Int.zero_emod]
    · rw [e.zero r0 (sub r0 h1) c (by omega), dz c (by omega), Int.mul_zero, Int.sub_zero, Int.zero_emod]
  · have n1 : (found.map (lessR p hd s) ++ [hd]).length = found.length + 1 := by rw [List.length_append, List.length_map] <;> rfl
    have at1 : ∀ i, i < found.length → (found.map (lessR p hd s) ++ [hd])[i]?.getD [] = lessR p hd s (found[i]?.getD []) := fun i hi => by
      rw [List.getElem?_append_left (by rw [List.length_map]; exact hi), List.getElem?_map, List.getElem?_eq_getElem hi] <;> rfl
    have at2 : (found.map (lessR p hd s) ++ [hd])[found.length]?.getD [] = hd := by
      rw [List.getElem?_append_right (by rw [List.length_map]; exact Nat.le_refl _), List.length_map, Nat.sub_self] <;> rfl
    have keep : ∀ i c, i < found.length → c < s → cl (lessR p hd s (found[i]?.getD [])) c = cl (found[i]?.getD []) c := fun i c hi hc => by
      rw [lcl _ c (by omega), dz c hc, Int.mul_zero, Int.sub_zero]
      obtain ⟨a1, a2⟩ := R.rng i c hi (by omega)
      exact Int.emod_eq_of_lt a1 a2
    refine ⟨fun i => if i < found.length then L i else s, ?_, ?_⟩
    · rw [n1]
      refine ⟨fun i hi => ?_, fun i j hij hj => ?_, fun i hi => ?_, fun i j hi hj ne => ?_, fun i c hi hc => ?_, fun i c hi hc => ?_⟩
      · show (if i < found.length then L i else s) < w
        split
        · exact R.lt i ‹_›
        · exact hs
      · show (if i < found.length then L i else s) < (if j < found.length then L j else s)
        rw [if_pos (by omega : i < found.length)]
        split
        · exact R.mono i j hij ‹_›
        · exact lt i (by omega)
      · show cl _ (if i < found.length then L i else s) = 1
        by_cases y : i < found.length
        · rw [if_pos y, at1 i y, keep i (L i) y (lt i y)]
          exact R.one i y
        · have : i = found.length := by omega
          subst this
          rw [if_neg (Nat.lt_irrefl _), at2]
          exact d1
      · show cl _ (if j < found.length then L j else s) = 0
        by_cases y : i < found.length
        · rw [at1 i y]
          by_cases z : j < found.length
          · rw [if_pos z, keep i (L j) y (lt j z)]
            exact R.zero i j y z ne
          · rw [if_neg z, lcl _ s hs, d1, Int.mul_one, Int.sub_self, Int.zero_emod]
        · have ei : i = found.length := by omega
          have z : j < found.length := by omega
          rw [if_pos z, ei, at2]
          exact dz (L j) (lt j z)
      · have hc' : c < (if i < found.length then L i else s) := hc
        show cl _ c = 0
        by_cases y : i < found.length
        · rw [if_pos y] at hc'
          have := lt i y
          rw [at1 i y, keep i c y (by omega)]
          exact R.low i c y hc'
        · rw [if_neg y] at hc'
          have ei : i = found.length := by omega
          rw [ei, at2]
          exact dz c hc'
      · show 0 ≤ cl _ c ∧ cl _ c < p
        by_cases y : i < found.length
        · rw [at1 i y, lcl _ c hc]
          exact ⟨Int.emod_nonneg _ p0, Int.emod_lt_of_pos _ (by omega)⟩
        · have ei : i = found.length := by omega
          rw [ei, at2]
          exact drng c hc
    · intro i hi
      show (if i < found.length then L i else s) < s + 1
      split
      · have := lt i ‹_›
        omega
      · omega
  · intro r hr
    refine (e.sp1 r hr).trans fun r0 h1 => ?_
    by_cases y : r0 = h0
    · subst y
      refine .step (cl r0 s) hdin (.zero (v := fun _ => 0) fun _ _ => Int.zero_emod p) fun c hc => ?_
      have z : cl r0 c * (cl r0 s * t) % p = cl r0 c % p := by
        rw [Int.mul_emod, ht, Int.mul_one, Int.emod_emod_of_dvd _ (Int.dvd_refl p)]
      rw [Int.zero_add, dcl c hc, Int.mul_emod, Int.emod_emod_of_dvd _ (Int.dvd_refl p), ← Int.mul_emod, ← z]
      exact congrArg (· % p) (by rw [← Int.mul_assoc, ← Int.mul_assoc, Int.mul_comm (cl r0 c) (cl r0 s)])
    · have hm : lessR p hd s r0 ∈ (left.eraseIdx k).map (lessR p hd s) ++ (found.map (lessR p hd s) ++ [hd]) := by
        rcases List.mem_append.mp h1 with z | z
        · rcases mem_parts hk z with q | q
          · exact absurd q y
          · exact List.mem_append_left _ (List.mem_map.mpr ⟨r0, q, rfl⟩)
        · exact List.mem_append_right _ (List.mem_append_left _ (List.mem_map.mpr ⟨r0, z, rfl⟩))
      refine .step (cl r0 s) hdin (InL.row hm) fun c hc => ?_
      rw [lcl r0 c hc, Int.emod_add_emod]
      exact congrArg (· % p) (by omega)
  · intro r hr
    have hh : InL p w rows (cl hd) := ((e.sp2 h0 (List.mem_append_left _ hin)).mul t).congr fun c hc => by
      rw [dcl c hc, Int.emod_emod_of_dvd _ (Int.dvd_refl p), Int.mul_comm]
    rcases kinds r hr with rfl | ⟨r0, h1, rfl⟩
    · exact hh
    · refine ((e.sp2 r0 h1).add (hh.mul (-(cl r0 s)))).congr fun c hc => ?_
      rw [lcl r0 c hc, Int.emod_emod_of_dvd _ (Int.dvd_refl p)]
      exact congrArg (· % p) (by rw [Int.neg_mul]; omega)
/-- behind the last place: a reduced basis of the same space -/
theorem Elim.done (e : Elim p w rows w left found) : (∃ L, Red p w found.length (fun i c => cl (found[i]?.getD []) c) L) ∧ (∀ r, r ∈ rows → InL p w found (cl r)) ∧ ∀ r, r ∈ found → InL p w rows (cl r) := by
  obtain ⟨L, R, _⟩ := e.red
  refine ⟨⟨L, R⟩, fun r hr => (e.sp1 r hr).trans fun r0 h1 => ?_, fun r hr => e.sp2 r (List.mem_append_right _ hr)⟩
  rcases List.mem_append.mp h1 with z | z
  · refine .zero fun c hc => ?_
    rw [e.zero r0 z c hc, Int.zero_emod]
  · exact InL.row z
/-- the start: the rows modulo p -/
theorem Elim.start (hp : 1 < p) (h : ∀ r, r ∈ rows → r.length = w) : Elim p w rows 0 (rows.map fun r => r.map fun x => x % p) [] := by
  have c1 : ∀ r c, c < r.length → cl (r.map fun x => x % p) c = cl r c % p := fun r c hc => by
    show ((List.map _ _)[c]?).getD 0 = (r[c]?).getD 0 % p
    rw [List.getElem?_map, List.getElem?_eq_getElem hc] <;> rfl
  have mem : ∀ r, r ∈ (rows.map fun r => r.map fun x => x % p) ++ [] → ∃ r0, r0 ∈ rows ∧ r = r0.map fun x => x % p := fun r hr => by
    rw [List.append_nil] at hr
    obtain ⟨r0, h1, h2⟩ := List.mem_map.mp hr
    exact ⟨r0, h1, h2.symm⟩
  refine ⟨fun r hr => ?_, fun r hr c hc => ?_, fun r hr c hc => absurd hc (Nat.not_lt_zero c), ⟨fun _ => 0, ⟨fun i hi => absurd hi (Nat.not_lt_zero i), fun i j _ hj => absurd hj (Nat.not_lt_zero j), fun i hi => absurd hi (Nat.not_lt_zero i), fun i j hi => absurd hi (Nat.not_lt_zero i), fun i c hi => absurd hi (Nat.not_lt_zero i), fun i c hi => absurd hi (Nat.not_lt_zero i)⟩, fun i hi => absurd hi (Nat.not_lt_zero i)⟩, fun r hr => ?_, fun r hr => ?_⟩
  · obtain ⟨r0, h1, rfl⟩ := mem r hr
    rw [List.length_map]
    exact h r0 h1
  · obtain ⟨r0, h1, rfl⟩ := mem r hr
    rw [c1 r0 c (by rw [h r0 h1]; exact hc)]
    exact ⟨Int.emod_nonneg _ (by omega), Int.emod_lt_of_pos _ (by omega)⟩
  · refine (InL.row (r := r.map fun x => x % p) (List.mem_append_left _ (List.mem_map.mpr ⟨r, hr, rfl⟩))).congr fun c hc => ?_
    rw [c1 r c (by rw [h r hr]; exact hc), Int.emod_emod_of_dvd _ (Int.dvd_refl p)]
  · obtain ⟨r0, h1, rfl⟩ := mem r hr
    refine (InL.row h1).congr fun c hc => ?_
    rw [c1 r0 c (by rw [h r0 h1]; exact hc), Int.emod_emod_of_dvd _ (Int.dvd_refl p)]
end
end Rw

set_option Elab.async false
set_option linter.all false
set_option maxRecDepth 100000
set_option maxHeartbeats 1000000
/-! TkJC: the program's elimination: rests, leads, bases with leads. -/
namespace Rw
open PySem PySem.Spec PyProof.Rows L2
abbrev PR := Nat × List Int
def stepR (p : Int) (v : List Int) (acc : List Int) (q : PR) : List Int := List.zipWith (fun i t => i - cl v q.1 % p * t) acc q.2
def restR (p : Int) (ps : List PR) (v : List Int) : List Int := (ps.foldl (stepR p v) v).map (· % p)
def leadR : List Int → Option Nat
  | [] => none
  | x :: xs => if x = 0 then (leadR xs).map (· + 1) else some 0
def invD (p x : Int) : Int := ((invL p)[x.toNat]?).getD 0
def addR (p : Int) (rest : List Int) (l : Nat) : List Int := rest.map fun x => x * invD p (cl rest l) % p
def moreR (p : Int) (ps : List PR) (rest : List Int) (l : Nat) : List PR := ps.map (fun q => (q.1, lessR p (addR p rest l) l q.2)) ++ [(l, addR p rest l)]
def widen1 (p : Int) (ps : List PR) (v : List Int) : List PR :=
  if ps.length = v.length then ps else match leadR (restR p ps v) with
    | none => ps
    | some l => moreR p ps (restR p ps v) l
structure GS (p : Int) (w : Nat) (ps : List PR) : Prop where
  len : ∀ q, q ∈ ps → q.2.length = w
  lt : ∀ q, q ∈ ps → q.1 < w
  rng : ∀ q, q ∈ ps → ∀ c, c < w → 0 ≤ cl q.2 c ∧ cl q.2 c < p
  one : ∀ q, q ∈ ps → cl q.2 q.1 = 1
  low : ∀ q, q ∈ ps → ∀ c, c < q.1 → cl q.2 c = 0
  zero : ∀ (i j : Nat) (a b : PR), i ≠ j → ps[i]? = some a → ps[j]? = some b → cl a.2 b.1 = 0
theorem gs_nil {p : Int} {w : Nat} : GS p w [] := ⟨fun _ h => (nomatch h), fun _ h => (nomatch h), fun _ h => (nomatch h), fun _ h => (nomatch h), fun _ h => (nomatch h), fun i j a b _ h => by simp at h⟩
abbrev rowsP (ps : List PR) : List (List Int) := ps.map (·.2)
theorem cl_ge {r : List Int} {c : Nat} (h : r.length ≤ c) : cl r c = 0 := by
  unfold cl
  rw [List.getElem?_eq_none h] <;> rfl
theorem cl_map {r : List Int} {f : Int → Int} {c : Nat} (h : c < r.length) : cl (r.map f) c = f (cl r c) := by
  unfold cl
  rw [List.getElem?_map, List.getElem?_eq_getElem h] <;> rfl
theorem cl_zip {r t : List Int} {f : Int → Int → Int} {c : Nat} (h : c < r.length) (h2 : c < t.length) : cl (List.zipWith f r t) c = f (cl r c) (cl t c) := by
  unfold cl
  rw [List.getElem?_zipWith, List.getElem?_eq_getElem h, List.getElem?_eq_getElem h2] <;> rfl
theorem cl_eq {r t : List Int} {w : Nat} (h1 : r.length = w) (h2 : t.length = w) (h : ∀ c, c < w → cl r c = cl t c) : r = t := by
  apply List.ext_getElem?
  intro c
  by_cases z : c < w
  · have := h c z
    unfold cl at this
    rw [List.getElem?_eq_getElem (by omega), List.getElem?_eq_getElem (by omega)] at this ⊢
    exact congrArg some this
  · rw [List.getElem?_eq_none (by omega), List.getElem?_eq_none (by omega)]
/-! ### rests -/
section
variable {p : Int} {w : Nat} {v : List Int}
def sumR (p : Int) (v : List Int) (c : Nat) : List PR → Int
  | [] => 0
  | q :: qs => cl v q.1 % p * cl q.2 c + sumR p v c qs
theorem fold_len : ∀ {ps : List PR} {acc : List Int}, acc.length = w → (∀ q, q ∈ ps → q.2.length = w) → (ps.foldl (stepR p v) acc).length = w
  | [], acc, h, _ => h
  | q :: qs, acc, h, hq => by
    rw [List.foldl_cons]
    refine fold_len ?_ fun r hr => hq r (List.mem_cons_of_mem _ hr)
    unfold stepR
    rw [List.length_zipWith, h, hq q List.mem_cons_self, Nat.min_self]
theorem fold_cl : ∀ {ps : List PR} {acc : List Int} {c : Nat}, acc.length = w → (∀ q, q ∈ ps → q.2.length = w) → c < w → cl (ps.foldl (stepR p v) acc) c = cl acc c - sumR p v c ps
  | [], acc, c, h, _, _ => by
    show cl acc c = cl acc c - 0
    omega
  | q :: qs, acc, c, h, hq, hc => by
    have lq := hq q List.mem_cons_self
    have l1 : (stepR p v acc q).length = w := by
      unfold stepR
      rw [List.length_zipWith, h, lq, Nat.min_self]
    rw [List.foldl_cons, fold_cl l1 (fun r hr => hq r (List.mem_cons_of_mem _ hr)) hc]
    have e : cl (stepR p v acc q) c = cl acc c - cl v q.1 % p * cl q.2 c := cl_zip (by omega) (by omega)
    rw [e]
    show _ = cl acc c - (cl v q.1 % p * cl q.2 c + sumR p v c qs)
    omega
theorem rest_len {ps : List PR} (hv : v.length = w) (hq : ∀ q, q ∈ ps → q.2.length = w) : (restR p ps v).length = w := by
  unfold restR
  rw [List.length_map]
  exact fold_len hv hq
theorem rest_cl {ps : List PR} {c : Nat} (hv : v.length = w) (hq : ∀ q, q ∈ ps → q.2.length = w) (hc : c < w) : cl (restR p ps v) c = (cl v c - sumR p v c ps) % p := by
  unfold restR
  rw [cl_map (by rw [fold_len hv hq]; exact hc), fold_cl hv hq hc]
theorem sum_at {ps : List PR} (g : GS p w ps) {j : Nat} {b : PR} (hj : ps[j]? = some b) : sumR p v b.1 ps = cl v b.1 % p := by
  have go : ∀ (qs : List PR) (k : Nat), ps.drop k = qs → sumR p v b.1 qs = if k ≤ j then cl v b.1 % p else 0 := by
    intro qs
    induction qs with
    | nil =>
      intro k hk
      have : ps.length ≤ k := List.drop_eq_nil_iff.mp hk
      have := (List.getElem?_eq_some_iff.mp hj).1
      rw [if_neg (by omega)] <;> rfl
    | cons q qs ih =>
      intro k hk
      have hq : ps[k]? = some q := by
        have := congrArg (·[0]?) hk
        simpa using this
      have hk2 : ps.drop (k + 1) = qs := by
        rw [← List.drop_drop, hk] <;> rfl
      have i1 := ih (k + 1) hk2
      show cl v q.1 % p * cl q.2 b.1 + sumR p v b.1 qs = _
      rw [i1]
      by_cases z : k = j
      · subst z
        rw [hj] at hq
        cases hq
        rw [if_neg (by omega), if_pos (Nat.le_refl _), g.one b (List.mem_of_getElem? hj), Int.mul_one, Int.add_zero]
      · rw [g.zero k j q b z hq hj, Int.mul_zero, Int.zero_add]
        by_cases y : k ≤ j
        · rw [if_pos (by omega), if_pos y]
        · rw [if_neg (by omega), if_neg y]
  have := go ps 0 rfl
  rw [if_pos (Nat.zero_le _)] at this
  exact this
theorem rest_zero {ps : List PR} (g : GS p w ps) (hv : v.length = w) {b : PR} (hb : b ∈ ps) : cl (restR p ps v) b.1 = 0 := by
  obtain ⟨j, hj⟩ := List.getElem?_of_mem hb
  rw [rest_cl hv g.len (g.lt b hb), sum_at g hj, Int.sub_emod, Int.emod_emod_of_dvd _ (Int.dvd_refl p), Int.sub_self, Int.zero_emod]
theorem rest_rng {ps : List PR} (hp : 0 < p) (hv : v.length = w) (hq : ∀ q, q ∈ ps → q.2.length = w) {c : Nat} (hc : c < w) : 0 ≤ cl (restR p ps v) c ∧ cl (restR p ps v) c < p := by
  rw [rest_cl hv hq hc]
  exact ⟨Int.emod_nonneg _ (by omega), Int.emod_lt_of_pos _ hp⟩
theorem inL_sum {rs : List (List Int)} {f : Nat → Int} : ∀ (ps : List PR), (∀ q, q ∈ ps → q.2 ∈ rs) → InL p w rs fun c => sumR p v c ps
  | [], _ => .zero fun c _ => by
    show (0 : Int) % p = 0
    exact Int.zero_emod p
  | q :: qs, h => by
    have i1 := inL_sum (f := f) qs fun r hr => h r (List.mem_cons_of_mem _ hr)
    have i2 := (InL.row (p := p) (w := w) (h q List.mem_cons_self)).mul (cl v q.1 % p)
    exact (i2.add i1).congr fun c _ => rfl
theorem rest_in {ps : List PR} (hv : v.length = w) (hq : ∀ q, q ∈ ps → q.2.length = w) {rs : List (List Int)} (h : ∀ q, q ∈ ps → q.2 ∈ rs) (k : v ∈ rs) : InL p w rs (cl (restR p ps v)) := by
  have i1 := (inL_sum (p := p) (w := w) (v := v) (f := fun _ => 0) ps h).mul (-1)
  refine ((InL.row (p := p) (w := w) k).add i1).congr fun c hc => ?_
  rw [rest_cl hv hq hc, Int.emod_emod_of_dvd _ (Int.dvd_refl p)]
  exact congrArg (· % p) (by omega)
theorem vec_in {ps : List PR} (hv : v.length = w) (hq : ∀ q, q ∈ ps → q.2.length = w) {rs : List (List Int)} (h : ∀ q, q ∈ ps → q.2 ∈ rs) (k : InL p w rs (cl (restR p ps v))) : InL p w rs (cl v) := by
  have i1 := inL_sum (p := p) (w := w) (v := v) (f := fun _ => 0) ps h
  refine (k.add i1).congr fun c hc => ?_
  rw [rest_cl hv hq hc, Int.emod_add_emod]
  exact congrArg (· % p) (by omega)
end
/-! ### leads -/
theorem lead_none : ∀ {r : List Int}, leadR r = none → ∀ c, cl r c = 0
  | [], _, c => cl_ge (Nat.zero_le c)
  | x :: xs, h, c => by
    unfold leadR at h
    by_cases z : x = 0
    · rw [if_pos z] at h
      cases e : leadR xs with
      | some l => rw [e] at h; cases h
      | none =>
        cases c with
        | zero => exact z
        | succ c => exact lead_none e c
    · rw [if_neg z] at h; cases h
theorem lead_some : ∀ {r : List Int} {l : Nat}, leadR r = some l → l < r.length ∧ cl r l ≠ 0 ∧ ∀ c, c < l → cl r c = 0
  | x :: xs, l, h => by
    unfold leadR at h
    by_cases z : x = 0
    · rw [if_pos z] at h
      cases e : leadR xs with
      | none => rw [e] at h; cases h
      | some k =>
        rw [e] at h
        cases h
        obtain ⟨h1, h2, h3⟩ := lead_some e
        refine ⟨Nat.succ_lt_succ h1, h2, fun c hc => ?_⟩
        cases c with
        | zero => exact z
        | succ c =>
          have hc2 : c + 1 < k + 1 := hc
          exact h3 c (by omega)
    · rw [if_neg z] at h
      cases h
      exact ⟨Nat.zero_lt_succ _, z, fun c hc => absurd hc (Nat.not_lt_zero c)⟩
/-! ### one vector more -/
section
variable {p : Int} {w : Nat}
theorem inv_ok {x : Int} (hp : p ∈ primesL) (h0 : 0 < x) (h1 : x < p) : x * invD p x % p = 1 ∧ 0 < invD p x ∧ invD p x < p := by
  obtain ⟨r, e, r0, r1, er⟩ := invL_ok p hp x.toNat (by omega) (by omega)
  have ei : invD p x = r := by
    unfold invD
    rw [e] <;> rfl
  rw [ei]
  refine ⟨?_, r0, r1⟩
  rw [show ((x.toNat : Nat) : Int) = x by omega] at er
  rw [Int.mul_comm]
  exact er
theorem gs_more {ps : List PR} {v : List Int} {l : Nat} (hp : p ∈ primesL) (g : GS p w ps) (hv : v.length = w) (hl : leadR (restR p ps v) = some l) :
    GS p w (moreR p ps (restR p ps v) l) ∧ (∀ rs : List (List Int), (∀ q, q ∈ moreR p ps (restR p ps v) l → q.2 ∈ rs) → InL p w rs (cl v) ∧ ∀ q, q ∈ ps → InL p w rs (cl q.2)) ∧
      ∀ rs : List (List Int), v ∈ rs → (∀ q, q ∈ ps → q.2 ∈ rs) → ∀ q, q ∈ moreR p ps (restR p ps v) l → InL p w rs (cl q.2) := by
  have pp := prime_pos hp
  have hr := rest_len (p := p) hv g.len
  have rr : ∀ c, c < w → 0 ≤ cl (restR p ps v) c ∧ cl (restR p ps v) c < p := fun c hc => rest_rng (by omega) hv g.len hc
  have rz : ∀ b, b ∈ ps → cl (restR p ps v) b.1 = 0 := fun b hb => rest_zero g hv hb
  obtain ⟨l1, l2, l3⟩ := lead_some hl
  rw [hr] at l1
  have lp := rr l l1
  obtain ⟨t1, t2, t3⟩ := inv_ok hp (show 0 < cl (restR p ps v) l by omega) lp.2
  have ri : ∀ rs : List (List Int), v ∈ rs → (∀ q, q ∈ ps → q.2 ∈ rs) → InL p w rs (cl (restR p ps v)) := fun rs h1 h2 => rest_in hv g.len h2 h1
  have vi : ∀ rs : List (List Int), InL p w (restR p ps v :: rowsP ps) (cl v) := fun _ => vec_in hv g.len (fun q hq => List.mem_cons_of_mem _ (List.mem_map.mpr ⟨q, hq, rfl⟩)) (InL.row List.mem_cons_self)
  unfold moreR
  unfold addR
  generalize invD p (cl (restR p ps v) l) = t at t1 t2 t3
  generalize restR p ps v = rest at *
  generalize ea : rest.map (fun x => x * t % p) = added
  have al : added.length = w := by rw [← ea, List.length_map, hr]
  have ac : ∀ c, c < w → cl added c = cl rest c * t % p := fun c hc => by rw [← ea, cl_map (by omega)]
  have a1 : cl added l = 1 := by rw [ac l l1, t1]
  have alow : ∀ c, c < l → cl added c = 0 := fun c hc => by rw [ac c (by omega), l3 c hc, Int.zero_mul, Int.zero_emod]
  have az : ∀ b, b ∈ ps → cl added b.1 = 0 := fun b hb => by rw [ac _ (g.lt b hb), rz b hb, Int.zero_mul, Int.zero_emod]
  have lc : ∀ r c, c < w → cl (lessR p added l r) c = (cl r c - cl r l * cl added c) % p := fun r c hc => cl_less (by omega)
  have ll : ∀ r, (lessR p added l r).length = w := fun r => by unfold lessR; rw [List.length_map, List.length_range, al]
  have mem : ∀ q, q ∈ ps.map (fun q => (q.1, lessR p added l q.2)) ++ [(l, added)] → (∃ b, b ∈ ps ∧ q = (b.1, lessR p added l b.2)) ∨ q = (l, added) := fun q hq => by
    rcases List.mem_append.mp hq with z | z
    · obtain ⟨b, hb, rfl⟩ := List.mem_map.mp z
      exact .inl ⟨b, hb, rfl⟩
    · exact .inr (List.mem_singleton.mp z)
  have r01 : ∀ x : Int, 0 ≤ x → x < p → x % p = x := fun x h0 h1 => Int.emod_eq_of_lt h0 h1
  refine ⟨⟨?_, ?_, ?_, ?_, ?_, ?_⟩, ?_, ?_⟩
  · intro q hq
    rcases mem q hq with ⟨b, hb, rfl⟩ | rfl
    · exact ll _
    · exact al
  · intro q hq
    rcases mem q hq with ⟨b, hb, rfl⟩ | rfl
    · exact g.lt b hb
    · exact l1
  · intro q hq c hc
    rcases mem q hq with ⟨b, hb, rfl⟩ | rfl
    · show 0 ≤ cl (lessR p added l b.2) c ∧ _
      rw [lc _ _ hc]
      exact ⟨Int.emod_nonneg _ (by omega), Int.emod_lt_of_pos _ (by omega)⟩
    · show 0 ≤ cl added c ∧ cl added c < p
      rw [ac c hc]
      exact ⟨Int.emod_nonneg _ (by omega), Int.emod_lt_of_pos _ (by omega)⟩
  · intro q hq
    rcases mem q hq with ⟨b, hb, rfl⟩ | rfl
    · show cl (lessR p added l b.2) b.1 = 1
      rw [lc _ _ (g.lt b hb), az b hb, Int.mul_zero, Int.sub_zero, g.one b hb]
      exact r01 1 (by omega) (by omega)
    · exact a1
  · intro q hq c hc
    rcases mem q hq with ⟨b, hb, rfl⟩ | rfl
    · show cl (lessR p added l b.2) c = 0
      have hc2 : c < b.1 := hc
      have hbw := g.lt b hb
      rw [lc _ _ (by omega), g.low b hb c hc2]
      by_cases z : c < l
      · rw [alow c z, Int.mul_zero, Int.sub_zero, Int.zero_emod]
      · by_cases y : l < b.1
        · rw [g.low b hb l y, Int.zero_mul, Int.sub_zero, Int.zero_emod]
        · omega
    · exact alow c hc
  · intro i j a b ne ha hb
    have lm : (ps.map (fun q => (q.1, lessR p added l q.2))).length = ps.length := List.length_map _
    have at_ : ∀ (k : Nat) (x : PR), (ps.map (fun q => (q.1, lessR p added l q.2)) ++ [(l, added)])[k]? = some x → (∃ y, ps[k]? = some y ∧ x = (y.1, lessR p added l y.2)) ∨ (k = ps.length ∧ x = (l, added)) := fun k x h => by
      by_cases z : k < ps.length
      · rw [List.getElem?_append_left (by omega), List.getElem?_map, List.getElem?_eq_getElem z] at h
        exact .inl ⟨_, List.getElem?_eq_getElem z, (Option.some.inj h).symm⟩
      · rw [List.getElem?_append_right (by omega), lm] at h
        have hk : k - ps.length = 0 := by
          have := (List.getElem?_eq_some_iff.mp h).1
          rw [List.length_singleton] at this
          omega
        rw [hk] at h
        exact .inr ⟨by omega, (Option.some.inj h).symm⟩
    rcases at_ i a ha with ⟨a', ha', rfl⟩ | ⟨hi, rfl⟩
    · rcases at_ j b hb with ⟨b', hb', rfl⟩ | ⟨hj, rfl⟩
      · show cl (lessR p added l a'.2) b'.1 = 0
        have mb := List.mem_of_getElem? hb'
        rw [lc _ _ (g.lt b' mb), g.zero i j a' b' ne ha' hb', az b' mb, Int.mul_zero, Int.sub_zero, Int.zero_emod]
      · show cl (lessR p added l a'.2) l = 0
        rw [lc _ _ l1, a1, Int.mul_one, Int.sub_self, Int.zero_emod]
    · rcases at_ j b hb with ⟨b', hb', rfl⟩ | ⟨hj, rfl⟩
      · exact az b' (List.mem_of_getElem? hb')
      · omega
  · intro rs h
    have ia : InL p w rs (cl added) := InL.row (h (l, added) (List.mem_append_right _ (List.mem_singleton.mpr rfl)))
    have ir : InL p w rs (cl rest) := by
      refine (ia.mul (cl rest l)).congr fun c hc => ?_
      have e1 : (cl rest l * (cl rest c * t)) % p = (cl rest c * (cl rest l * t)) % p := congrArg (· % p) (by rw [← Int.mul_assoc, Int.mul_comm (cl rest l), Int.mul_assoc])
      rw [Int.mul_emod (cl rest l) (cl added c), ac c hc, Int.emod_emod_of_dvd _ (Int.dvd_refl p), ← Int.mul_emod, e1, Int.mul_emod, t1, Int.mul_one, Int.emod_emod_of_dvd _ (Int.dvd_refl p)]
    have iq : ∀ q, q ∈ ps → InL p w rs (cl q.2) := fun q hq => by
      have i1 : InL p w rs (cl (lessR p added l q.2)) := InL.row (h (q.1, lessR p added l q.2) (List.mem_append_left _ (List.mem_map.mpr ⟨q, hq, rfl⟩)))
      refine (i1.add (ia.mul (cl q.2 l))).congr fun c hc => ?_
      rw [lc _ _ hc, Int.emod_add_emod]
      exact congrArg (· % p) (by omega)
    refine ⟨(vi rs).trans fun r hr => ?_, iq⟩
    rcases List.mem_cons.mp hr with z | z
    · rw [z]; exact ir
    · obtain ⟨q, hq, rfl⟩ := List.mem_map.mp z
      exact iq q hq
  · intro rs h1 h2 q hq
    have ir := ri rs h1 h2
    have ia : InL p w rs (cl added) := (ir.mul t).congr fun c hc => by
      rw [ac c hc, Int.emod_emod_of_dvd _ (Int.dvd_refl p), Int.mul_comm]
    rcases mem q hq with ⟨b, hb, rfl⟩ | rfl
    · refine ((InL.row (p := p) (w := w) (h2 b hb)).add (ia.mul (-(cl b.2 l)))).congr fun c hc => ?_
      show cl (lessR p added l b.2) c % p = _
      rw [lc _ _ hc, Int.emod_emod_of_dvd _ (Int.dvd_refl p)]
      exact congrArg (· % p) (by rw [Int.neg_mul]; omega)
    · exact ia
end
end Rw

set_option Elab.async false
set_option linter.all false
set_option maxRecDepth 100000
set_option maxHeartbeats 1000000
/-! TkJD: bases of many vectors, sorted; one space has one such basis. -/
namespace Rw
open PySem PySem.Spec PyProof.Rows L2
theorem all_there : ∀ (w : Nat) (l : List Nat), l.Nodup → (∀ x, x ∈ l → x < w) → w ≤ l.length → ∀ c, c < w → c ∈ l
  | 0, _, _, _, _, c, h => absurd h (Nat.not_lt_zero c)
  | w + 1, l, nd, lt, le, c, hc => by
    by_cases hw : w ∈ l
    · have nd2 : (l.erase w).Nodup := nd.erase w
      have lt2 : ∀ x, x ∈ l.erase w → x < w := fun x hx => by
        obtain ⟨h1, h2⟩ := (List.Nodup.mem_erase_iff nd).mp hx
        have := lt x h2
        omega
      have le2 : w ≤ (l.erase w).length := by
        rw [List.length_erase_of_mem hw]
        omega
      by_cases z : c = w
      · rw [z]; exact hw
      · exact List.mem_of_mem_erase (all_there w _ nd2 lt2 le2 c (by omega))
    · have lt2 : ∀ x, x ∈ l → x < w := fun x hx => by
        have h1 := lt x hx
        have h2 : x ≠ w := fun z => hw (z ▸ hx)
        omega
      cases l with
      | nil => exact absurd le (by simp)
      | cons a t =>
        rw [List.nodup_cons] at nd
        have := all_there w t nd.2 (fun x hx => lt2 x (List.mem_cons_of_mem _ hx)) (by simpa using le) a (lt2 a List.mem_cons_self)
        exact absurd this nd.1
section
variable {p : Int} {w : Nat}
theorem GS.inj {ps : List PR} (g : GS p w ps) {i j : Nat} {a b : PR} (ha : ps[i]? = some a) (hb : ps[j]? = some b) (e : a.1 = b.1) : i = j := by
  by_cases z : i = j
  · exact z
  · have h1 := g.zero i j a b z ha hb
    have h2 := g.one a (List.mem_of_getElem? ha)
    rw [e, h1] at h2
    exact absurd h2 (by decide)
theorem GS.nodup {ps : List PR} (g : GS p w ps) : (ps.map (·.1)).Nodup := by
  refine List.pairwise_iff_getElem.mpr fun i j hi hj lt e => ?_
  rw [List.length_map] at hi hj
  rw [List.getElem_map, List.getElem_map] at e
  have := g.inj (List.getElem?_eq_getElem hi) (List.getElem?_eq_getElem hj) e
  omega
/-- as many as there are places: all vectors -/
theorem gs_full {ps : List PR} {v : List Int} (g : GS p w ps) (hv : v.length = w) (hl : ps.length = w) {rs : List (List Int)} (h : ∀ q, q ∈ ps → q.2 ∈ rs) : InL p w rs (cl v) := by
  refine vec_in hv g.len h (.zero fun c hc => ?_)
  have hm := all_there w (ps.map (·.1)) g.nodup (fun x hx => by
    obtain ⟨q, hq, rfl⟩ := List.mem_map.mp hx
    exact g.lt q hq) (by rw [List.length_map, hl]; exact Nat.le_refl _) c hc
  obtain ⟨q, hq, e⟩ := List.mem_map.mp hm
  rw [← e, rest_zero g hv hq, Int.zero_emod]
theorem gs_widen1 {ps : List PR} {v : List Int} (hp : p ∈ primesL) (g : GS p w ps) (hv : v.length = w) : GS p w (widen1 p ps v) ∧ (∀ rs : List (List Int), (∀ q, q ∈ widen1 p ps v → q.2 ∈ rs) → InL p w rs (cl v) ∧ ∀ q, q ∈ ps → InL p w rs (cl q.2)) ∧
    ∀ rs : List (List Int), v ∈ rs → (∀ q, q ∈ ps → q.2 ∈ rs) → ∀ q, q ∈ widen1 p ps v → InL p w rs (cl q.2) := by
  unfold widen1
  split
  · rename_i h
    exact ⟨g, fun rs k => ⟨gs_full g hv (h.trans hv) k, fun q hq => InL.row (k q hq)⟩, fun rs _ k q hq => InL.row (k q hq)⟩
  · cases e : leadR (restR p ps v) with
    | none =>
      exact ⟨g, fun rs k => ⟨vec_in hv g.len k (.zero fun c _ => by rw [lead_none e c, Int.zero_emod]), fun q hq => InL.row (k q hq)⟩, fun rs _ k q hq => InL.row (k q hq)⟩
    | some l => exact gs_more hp g hv e
/-- a basis of the space of some vectors -/
structure Bas (p : Int) (w : Nat) (rows : List (List Int)) (ps : List PR) : Prop where
  g : GS p w ps
  in1 : ∀ r, r ∈ rows → InL p w (rowsP ps) (cl r)
  in2 : ∀ q, q ∈ ps → InL p w rows (cl q.2)
theorem bas_nil : Bas p w [] [] := ⟨gs_nil, fun _ h => (nomatch h), fun _ h => (nomatch h)⟩
theorem bas_step {rows : List (List Int)} {ps : List PR} {v : List Int} (hp : p ∈ primesL) (b : Bas p w rows ps) (hv : v.length = w) : Bas p w (rows ++ [v]) (widen1 p ps v) := by
  obtain ⟨g, i1, i2⟩ := gs_widen1 hp b.g hv
  obtain ⟨k1, k2⟩ := i1 (rowsP (widen1 p ps v)) fun q hq => List.mem_map.mpr ⟨q, hq, rfl⟩
  refine ⟨g, fun r hr => ?_, fun q hq => ?_⟩
  · rcases List.mem_append.mp hr with z | z
    · refine (b.in1 r z).trans fun t ht => ?_
      obtain ⟨q, hq, rfl⟩ := List.mem_map.mp ht
      exact k2 q hq
    · rw [List.mem_singleton.mp z]; exact k1
  · have k3 := i2 (v :: rowsP ps) List.mem_cons_self (fun q hq => List.mem_cons_of_mem _ (List.mem_map.mpr ⟨q, hq, rfl⟩)) q hq
    refine k3.trans fun t ht => ?_
    rcases List.mem_cons.mp ht with z | z
    · rw [z]; exact InL.row (List.mem_append_right _ (List.mem_singleton.mpr rfl))
    · obtain ⟨a, ha, rfl⟩ := List.mem_map.mp z
      exact (b.in2 a ha).trans fun r hr => InL.row (List.mem_append_left _ hr)
theorem bas_fold (hp : p ∈ primesL) : ∀ {vs rows : List (List Int)} {ps : List PR}, Bas p w rows ps → (∀ v, v ∈ vs → v.length = w) → Bas p w (rows ++ vs) (vs.foldl (widen1 p) ps)
  | [], rows, ps, b, _ => by rw [List.append_nil]; exact b
  | v :: vs, rows, ps, b, h => by
    have b1 := bas_fold hp (vs := vs) (bas_step hp b (h v List.mem_cons_self)) fun u hu => h u (List.mem_cons_of_mem _ hu)
    rw [List.append_assoc] at b1
    exact b1
/-- where there are as many as there are places, nothing more comes -/
theorem full_fold : ∀ {vs : List (List Int)} {ps : List PR}, (∀ v, v ∈ vs → v.length = ps.length) → vs.foldl (widen1 p) ps = ps
  | [], _, _ => rfl
  | v :: vs, ps, h => by
    have e : widen1 p ps v = ps := by
      unfold widen1
      rw [if_pos (h v List.mem_cons_self).symm]
    rw [List.foldl_cons, e]
    exact full_fold fun u hu => h u (List.mem_cons_of_mem _ hu)
/-- the same pairs in another order -/
theorem GS.perm {ps qs : List PR} (g : GS p w ps) (h : qs.Perm ps) : GS p w qs := by
  have mem : ∀ q, q ∈ qs → q ∈ ps := fun q hq => h.mem_iff.mp hq
  have nd : (qs.map (·.1)).Nodup := (h.map (·.1)).nodup_iff.mpr g.nodup
  refine ⟨fun q hq => g.len q (mem q hq), fun q hq => g.lt q (mem q hq), fun q hq => g.rng q (mem q hq), fun q hq => g.one q (mem q hq), fun q hq => g.low q (mem q hq), fun i j a b ne ha hb => ?_⟩
  obtain ⟨i', hi⟩ := List.getElem?_of_mem (mem a (List.mem_of_getElem? ha))
  obtain ⟨j', hj⟩ := List.getElem?_of_mem (mem b (List.mem_of_getElem? hb))
  refine g.zero i' j' a b (fun z => ?_) hi hj
  rw [z, hj] at hi
  cases hi
  have hi2 := (List.getElem?_eq_some_iff.mp ha)
  have hj2 := (List.getElem?_eq_some_iff.mp hb)
  obtain ⟨l1, e1⟩ := hi2
  obtain ⟨l2, e2⟩ := hj2
  have c1 : (qs.map (·.1))[i]'(by rw [List.length_map]; exact l1) = a.1 := by rw [List.getElem_map, e1]
  have c2 : (qs.map (·.1))[j]'(by rw [List.length_map]; exact l2) = a.1 := by rw [List.getElem_map, e2]
  have pw := List.pairwise_iff_getElem.mp nd
  rcases Nat.lt_or_ge i j with y | y
  · exact pw i j (by rw [List.length_map]; exact l1) (by rw [List.length_map]; exact l2) y (c1.trans c2.symm)
  · exact pw j i (by rw [List.length_map]; exact l2) (by rw [List.length_map]; exact l1) (by omega) (c2.trans c1.symm)
theorem Bas.perm {rows : List (List Int)} {ps qs : List PR} (b : Bas p w rows ps) (h : qs.Perm ps) : Bas p w rows qs := by
  refine ⟨b.g.perm h, fun r hr => (b.in1 r hr).trans fun t ht => ?_, fun q hq => b.in2 q (h.mem_iff.mp hq)⟩
  obtain ⟨q, hq, rfl⟩ := List.mem_map.mp ht
  exact InL.row (List.mem_map.mpr ⟨q, h.mem_iff.mpr hq, rfl⟩)
/-- ascending leads -/
def Asc (ps : List PR) : Prop := ps.Pairwise fun a b => a.1 ≤ b.1
/-- a reduced basis of the space of some rows -/
structure BaseR (p : Int) (w : Nat) (rows found : List (List Int)) : Prop where
  len : ∀ r, r ∈ found → r.length = w
  red : ∃ L, Red p w found.length (fun i c => cl (found[i]?.getD []) c) L
  in1 : ∀ r, r ∈ rows → InL p w found (cl r)
  in2 : ∀ r, r ∈ found → InL p w rows (cl r)
theorem Bas.base {rows : List (List Int)} {ps : List PR} (b : Bas p w rows ps) (s : Asc ps) : BaseR p w rows (rowsP ps) := by
  have at_ : ∀ i, (hi : i < ps.length) → ((rowsP ps)[i]?.getD []) = ps[i].2 := fun i hi => by
    rw [List.getElem?_map, List.getElem?_eq_getElem hi] <;> rfl
  have lt : ∀ i, i < (rowsP ps).length → i < ps.length := fun i h => by rwa [List.length_map] at h
  refine ⟨fun r hr => ?_, ⟨fun i => (ps[i]?.getD (0, [])).1, ?_⟩, b.in1, fun r hr => ?_⟩
  · obtain ⟨q, hq, rfl⟩ := List.mem_map.mp hr
    exact b.g.len q hq
  · have le : ∀ i, (hi : i < ps.length) → (ps[i]?.getD (0, [])).1 = ps[i].1 := fun i hi => by rw [List.getElem?_eq_getElem hi] <;> rfl
    constructor
    · intro i hi
      rw [le i (lt i hi)]
      exact b.g.lt _ (List.getElem_mem _)
    · intro i j hij hj
      have hj2 := lt j hj
      rw [le i (by omega), le j hj2]
      have h1 := List.pairwise_iff_getElem.mp s i j (by omega) hj2 hij
      have h2 : ps[i].1 ≠ ps[j].1 := fun z => by
        have := b.g.inj (List.getElem?_eq_getElem (by omega)) (List.getElem?_eq_getElem hj2) z
        omega
      omega
    · intro i hi
      rw [le i (lt i hi), at_ i (lt i hi)]
      exact b.g.one _ (List.getElem_mem _)
    · intro i j hi hj ne
      rw [le j (lt j hj), at_ i (lt i hi)]
      exact b.g.zero i j _ _ ne (List.getElem?_eq_getElem (lt i hi)) (List.getElem?_eq_getElem (lt j hj))
    · intro i c hi hc
      rw [le i (lt i hi)] at hc
      rw [at_ i (lt i hi)]
      exact b.g.low _ (List.getElem_mem _) c hc
    · intro i c hi hc
      rw [at_ i (lt i hi)]
      exact b.g.rng _ (List.getElem_mem _) c hc
  · obtain ⟨q, hq, rfl⟩ := List.mem_map.mp hr
    exact b.in2 q hq
theorem at_getD {l : List (List Int)} {i : Nat} (h : i < l.length) : l[i]?.getD [] = l[i] := by rw [List.getElem?_eq_getElem h] <;> rfl
/-- one space has one reduced basis -/
theorem base_one {rows rows2 a b : List (List Int)} (hp : 1 < p) (A : BaseR p w rows a) (B : BaseR p w rows2 b) (h1 : ∀ r, r ∈ rows → InL p w rows2 (cl r)) (h2 : ∀ r, r ∈ rows2 → InL p w rows (cl r)) : a = b := by
  obtain ⟨L, R⟩ := A.red
  obtain ⟨M, T⟩ := B.red
  have k1 : ∀ j, j < b.length → InSpan p w a.length (fun i c => cl (a[i]?.getD []) c) (fun c => cl (b[j]?.getD []) c) := fun j hj => by
    have m := List.getElem_mem hj
    rw [at_getD hj]
    exact inL_span (((B.in2 _ m).trans h2).trans A.in1)
  have k2 : ∀ i, i < a.length → InSpan p w b.length (fun i c => cl (b[i]?.getD []) c) (fun c => cl (a[i]?.getD []) c) := fun i hi => by
    have m := List.getElem_mem hi
    rw [at_getD hi]
    exact inL_span (((A.in2 _ m).trans h1).trans B.in1)
  obtain ⟨n1, _, n3⟩ := red_unique R T hp k1 k2
  apply List.ext_getElem n1
  intro i hi hj
  refine cl_eq (A.len _ (List.getElem_mem hi)) (B.len _ (List.getElem_mem hj)) fun c hc => ?_
  have := n3 i c hi hc
  rw [at_getD hi, at_getD hj] at this
  exact this
/-- the leads are told by the rows -/
theorem lead_of_row {ps : List PR} (g : GS p w ps) (hp : 1 < p) {q : PR} (hq : q ∈ ps) : leadR q.2 = some q.1 := by
  cases e : leadR q.2 with
  | none =>
    have h1 := g.one q hq
    rw [lead_none e] at h1
    exact absurd h1 (by decide)
  | some l =>
    obtain ⟨a1, a2, a3⟩ := lead_some e
    have h1 := g.one q hq
    rcases (by omega : l < q.1 ∨ l = q.1 ∨ q.1 < l) with z | z | z
    · exact absurd (g.low q hq l z) a2
    · rw [z]
    · rw [a3 q.1 z] at h1
      exact absurd h1 (by decide)
theorem pairs_of {ps qs : List PR} {v w2 : Nat} (g : GS p w ps) (k : GS p v qs) (hp : 1 < p) (e : rowsP ps = rowsP qs) : ps = qs := by
  have ln : ps.length = qs.length := by
    have := congrArg List.length e
    rwa [List.length_map, List.length_map] at this
  apply List.ext_getElem ln
  intro i hi hj
  have e2 : ps[i].2 = qs[i].2 := by
    have := congrArg (·[i]?) e
    simp only [List.getElem?_map, List.getElem?_eq_getElem hi, List.getElem?_eq_getElem hj, Option.map_some] at this
    exact Option.some.inj this
  have l1 := lead_of_row g hp (List.getElem_mem hi)
  have l2 := lead_of_row k hp (List.getElem_mem hj)
  rw [e2, l2] at l1
  exact Prod.ext (Option.some.inj l1).symm e2
end
end Rw

set_option Elab.async false
set_option linter.all false
set_option maxRecDepth 100000
set_option maxHeartbeats 4000000
/-! TkBC: an operator of an own class, in a try's body and outside. -/
namespace Rw
open PySem PySem.Spec PyProof.Rows L2
/-- a class with an own operator -/
structure OpC (K : PySem.W.Frag) (C : Addr) (op : Operator) (f : Addr) : Prop where
  at_ : PySem.W.findIn K (.ref C) (PySem.dunder op.info.2) = some (some (.ref f))
  fn : PySem.W.isFn K (.ref f) = true
  first : PySem.W.selfFirst K C = true
section
variable {X : Cx} {CX : CXT} {k : Nat} {f C : Addr} {fd : FuncData} {ps : List Str} {sp : Sp} {op : Operator} {a b : Expr} {ta tb : TE} {pos : Pos}
theorem back_of {v : V} {u : Value} {Q : Value → Shared → Prop} {s : Shared} (r : RelV v u) (h : Q u s) : PySem.W.CmpBack Q u s := by
  cases v with
  | int i => obtain ⟨t, rfl⟩ := r; exact h
  | str x => obtain ⟨t, rfl⟩ := r; exact h
  | ref p => cases r; exact h
  | bl q => cases r; exact h
  | non => cases r; exact h
  | ty n => cases r; exact h
  | byt b => obtain ⟨t, rfl⟩ := r; exact h
  | flt b => obtain ⟨t, rfl⟩ := r; exact h
theorem run_opS {W : WX} {pins : List (Addr × Obj)} {σ : L2.St} {H : Hp} {s : Shared} {Q : VK} {x y dx dy : Addr} {fs gs : List (Str × V)} (O : OpC X.K C op f) (F : FnOk X.prog X.w X.K X.mg X.base CX k f fd ps sp) (hr : Room k X.A) (hb : Binds X.K fd ps []) (hx : PassesAt CX X σ (fun cls d H' => W cls d σ H'))
    (I : Inv X pins σ H s) (ex : H x = some (.ins C dx fs)) (ey : H y = some (.ins C dy gs)) (h : sp [.ref x, .ref y] H Q (fun cls d H' => W cls d σ H')) : wpAny (model X.prog X.w) X.A (binaryOp op (.ref x) (.ref y)) (EP X pins σ Q) X.xe s := by
  obtain ⟨mA, J, _⟩ := ins_get I.hok ex
  obtain ⟨mB, J', _⟩ := ins_get I.hok ey
  obtain ⟨od, J, _⟩ := J.look
  obtain ⟨od', J', _⟩ := J'.look
  obtain ⟨m, hF⟩ := I.fr
  refine PySem.W.binop_K hF I.ok.mod.kin J J'.type O.first O.at_ O.fn ?_
  refine wpAny_mono (run_ownS (us := [.ref x, .ref y]) (vs := [.ref x, .ref y]) (ds := []) (dvs := []) F hr hb .nil hx I (.cons rfl (.cons rfl .nil)) h) (fun u s' z => ?_) fun _ _ z => z
  obtain ⟨v, H', I', r, q⟩ := z
  exact back_of r ⟨v, H', I', r, q⟩
/-- a op b by the class's own def, in a try's body -/
def tOpS (C : Addr) (sp : Sp) (W : WX) (ta tb : TE) : TE := fun σ H Q => ta σ H fun v H1 => tb σ H1 fun u H2 => ∃ x y dx dy fs gs, v = .ref x ∧ u = .ref y ∧ H2 x = some (.ins C dx fs) ∧ H2 y = some (.ins C dy gs) ∧ sp [.ref x, .ref y] H2 Q (fun cls d H' => W cls d σ H')
theorem pe_opS {W : WX} (O : OpC X.K C op f) (F : FnOk X.prog X.w X.K X.mg X.base CX k f fd ps sp) (hr : Room k X.A) (hb : Binds X.K fd ps []) (hx : ∀ σ, PassesAt CX X σ (fun cls d H' => W cls d σ H')) (ha : PE X a ta) (hb2 : PE X b tb) : PE X (.BinOp a op b pos) (tOpS C sp W ta tb) := by
  refine ⟨fun pins s σ H Q I h => ?_⟩
  refine wpAny_BinOp (binT ha hb2 I h fun v u s2 x y H2 I2 rx ry q => ?_)
  obtain ⟨x', y', dx, dy, fs, gs, rfl, rfl, ex, ey, q⟩ := q
  cases rx
  cases ry
  exact run_opS O F hr hb (hx σ) I2 ex ey q
end
end Rw

set_option Elab.async false
set_option linter.all false
set_option maxRecDepth 100000
set_option maxHeartbeats 4000000
/-! TkBE: zip of two tuples and a list. -/
namespace Rw
open PySem PySem.Spec PyProof.Rows L2
theorem notmem2 {z x y : Nat} (h1 : z ≠ x) (h2 : z ≠ y) : ¬ @Membership.mem Addr (List Addr) _ ([x, y] : List Addr) z := fun h => by
  rcases List.mem_cons.mp h with e | h
  · exact h1 e
  · exact h2 (List.mem_singleton.mp h)
theorem sep3 {n a b c : Nat} (ha : a < n) (hb : b < n) (hc : c < n) : ZipSep3 (n + 5) (n + 3) (n + 4) n (n + 1) (n + 2) [n, a] [n + 1, b] [n + 2, c] where
  TIz := PySem.W.neN (by omega)
  TOz := PySem.W.neN (by omega)
  TITO := PySem.W.neN (by omega)
  TIi1 := PySem.W.neN (by omega)
  mem1 := List.mem_cons_self
  zf1 := notmem2 (by omega) (by omega)
  Tf1 := notmem2 (by omega) (by omega)
  TIi2 := PySem.W.neN (by omega)
  mem2 := List.mem_cons_self
  zf2 := notmem2 (by omega) (by omega)
  Tf2 := notmem2 (by omega) (by omega)
  TIi3 := PySem.W.neN (by omega)
  mem3 := List.mem_cons_self
  zf3 := notmem2 (by omega) (by omega)
  Tf3 := notmem2 (by omega) (by omega)
  sep1_2 := notmem2 (by omega) (by omega)
  sep1_3 := notmem2 (by omega) (by omega)
  sep2_1 := notmem2 (by omega) (by omega)
  sep2_3 := notmem2 (by omega) (by omega)
  sep3_1 := notmem2 (by omega) (by omega)
  sep3_2 := notmem2 (by omega) (by omega)
/-- the lists or tuples at a, b and c as they stand at each turn, the items in new triples -/
def It3 (K : PySem.W.Frag) (k1 k2 k3 : Bool) (a b c : Addr) : It :=
  ⟨fun i H => ∃ (xs ys zs : List V) (x y z : V), SqB K H k1 a xs ∧ SqB K H k2 b ys ∧ SqB K H k3 c zs ∧ xs[i]? = some x ∧ ys[i]? = some y ∧ zs[i]? = some z,
    fun i H v H' => ∃ T x y z, v = .ref T ∧ H T = none ∧ H' = upd H T (.tup [x, y, z]) ∧ (∀ xs, SqB K H k1 a xs → xs[i]? = some x) ∧ (∀ ys, SqB K H k2 b ys → ys[i]? = some y) ∧ ∀ zs, SqB K H k3 c zs → zs[i]? = some z,
    fun i H => ∃ xs ys zs : List V, SqB K H k1 a xs ∧ SqB K H k2 b ys ∧ SqB K H k3 c zs ∧ i ≤ xs.length ∧ i ≤ ys.length ∧ i ≤ zs.length ∧ (xs.length = i ∨ ys.length = i ∨ zs.length = i)⟩
theorem turn_zip3 {P : Program} {w : World} {K : PySem.W.Frag} {k1 k2 k3 : Bool} {elts : List Expr} {kk : Nat} {tpos : Pos} {a b c z TI TO i1 i2 i3 : Addr} (D : ZipSep3 z TI TO i1 i2 i3 [i1, a] [i2, b] [i3, c]) (ai : a ≠ i1) (bi : b ≠ i2) (ci : c ≠ i3) :
    Turn P w K (.Tuple elts kk tpos) (It3 K k1 k2 k3 a b c) [z, TI, TO, i1, i2, i3] z (fun i h => IsZip h z TI TO .none ∧ IsTupOf3 h TI (.ref i1) (.ref i2) (.ref i3) ∧ (∃ x y u, IsTupOf3 h TO x y u) ∧ itB h k1 i1 a i ∧ itB h k2 i2 b i ∧ itB h k3 i3 c i) where
  mem := by simp
  obj := fun i h st e he => by
    obtain ⟨hz, hTI, ⟨x, y, u, hTO⟩, h1, h2, h3⟩ := st
    have e' : e = z ∨ e = TI ∨ e = TO ∨ e = i1 ∨ e = i2 ∨ e = i3 := by simpa using he
    rcases e' with q | q | q | q | q | q
    · rw [q]; exact ⟨_, hz, fun v q => nomatch q⟩
    · rw [q]; exact ⟨_, hTI, fun v q => nomatch q⟩
    · rw [q]; exact ⟨_, hTO, fun v q => nomatch q⟩
    · rw [q]; exact itB_obj h1
    · rw [q]; exact itB_obj h2
    · rw [q]; exact itB_obj h3
  keep := fun i h h' st k => by
    obtain ⟨hz, hTI, ⟨x, y, u, hTO⟩, h1, h2, h3⟩ := st
    exact ⟨k z (by simp) _ hz, k TI (by simp) _ hTI, ⟨x, y, u, k TO (by simp) _ hTO⟩, itB_at h1 fun o q => k i1 (by simp) o q, itB_at h2 fun o q => k i2 (by simp) o q, itB_at h3 fun o q => k i3 (by simp) o q⟩
  item := by
    intro X hP hw hK hc i pins s σ H E I hf st hg
    subst hP hw hK
    obtain ⟨hz, hTI, ⟨x0, y0, u0, hTO⟩, h1, h2, h3⟩ := st
    obtain ⟨xs, ys, zs, x, y, v, hqx, hqy, hqz, hx, hy, hv⟩ := hg
    obtain ⟨its, rv, p, _⟩ := sqB_inv I hqx
    obtain ⟨its2, rv2, p2, _⟩ := sqB_inv I hqy
    obtain ⟨its3, rv3, p3, _⟩ := sqB_inv I hqz
    obtain ⟨u, hu, ru⟩ := rv.get hx
    obtain ⟨u2, hu2, ru2⟩ := rv2.get hy
    obtain ⟨u3, hu3, ru3⟩ := rv3.get hv
    have hzl : z < s.heap.objs.size := Heap.lt_size hz
    have hd : X.A.in1.handled = none := I.ok.hd hc
    have g1 : i < its.toArray.size := by
      have := (List.getElem?_eq_some_iff.mp hu).1
      simpa using this
    have g2 : i < its2.toArray.size := by
      have := (List.getElem?_eq_some_iff.mp hu2).1
      simpa using this
    have g3 : i < its3.toArray.size := by
      have := (List.getElem?_eq_some_iff.mp hu3).1
      simpa using this
    refine wpAny_pyNext_zipD3_item D (drawsB hd k1 i1 a ai its.toArray) (drawsB hd k2 i2 b bi its2.toArray) (drawsB hd k3 i3 c ci its3.toArray) hz hTI hTO ⟨h1, p⟩ ⟨h2, p2⟩ ⟨h3, p3⟩ g1 g2 g3 fun x1 x2 x3 h' tk e1 e2 e3 z' TO' t1 t2 t3 hT hsz hk => ?_
    have hx1 : x1 = u := by
      have q : its[i]? = some x1 := by simpa using e1
      rw [hu] at q
      exact (Option.some.inj q).symm
    have hx2 : x2 = u2 := by
      have q : its2[i]? = some x2 := by simpa using e2
      rw [hu2] at q
      exact (Option.some.inj q).symm
    have hx3 : x3 = u3 := by
      have q : its3[i]? = some x3 := by simpa using e3
      rw [hu3] at q
      exact (Option.some.inj q).symm
    subst hx1 hx2 hx3
    refine ⟨_, rfl, wpAny_letOwnedTupleGo_zip (s := { s with heap := h', toks := tk }) z' fun h'' z'' sb => ?_⟩
    have hT2 : h''.get? s.heap.objs.size = some { cls := .type "tuple", data := .seq #[x1, x2, x3] } := (sb.2 _ (Nat.ne_of_gt hzl)).trans hT
    have new : ObjOk X.prog X.w (upd H s.heap.objs.size (.tup [x, y, v])) h'' s.heap.objs.size (.tup [x, y, v]) :=
      ⟨by show 3 ≤ sizeLine; decide, [x1, x2, x3], .cons ru (.cons ru2 (.cons ru3 .nil)), ⟨_, hT2, rfl, _, rfl⟩⟩
    have I1 : Inv X pins σ (upd H s.heap.objs.size (.tup [x, y, v])) { s with heap := h'', toks := tk } :=
      I.turnedNew (t' := tk) (ch := [z, TI, TO, i1, i2, i3]) (fun c o hb q => (sb.2 c (fun q' => hb (by simp [q']))).trans (hk c o (fun q' => hb (by simp [q'])) (fun q' => hb (by simp [q'])) (fun q' => hb (by simp [q'])) (fun q' => hb (by simp [q'])) (fun q' => hb (by simp [q'])) q)) hf (Nat.le_refl _) new
    refine ⟨.ref s.heap.objs.size, _, I1, rfl, ⟨_, x, y, v, rfl, I.hok.fresh (Nat.le_refl _), rfl, fun l hl => by rw [sqB_inj I hl hqx]; exact hx, fun l hl => by rw [sqB_inj I hl hqy]; exact hy, fun l hl => by rw [sqB_inj I hl hqz]; exact hv⟩, ⟨z'', ?_, ⟨x1, x2, x3, ?_⟩, ?_, ?_, ?_⟩, fun e hcm => ?_⟩
    · exact (sb.2 _ D.TIz).trans (hk _ _ D.TIz D.TITO D.TIi1 D.TIi2 D.TIi3 hTI)
    · exact (sb.2 _ D.TOz).trans TO'
    · exact itB_at t1.1 fun o q => (sb.2 _ D.zi1.symm).trans q
    · exact itB_at t2.1 fun o q => (sb.2 _ D.zi2.symm).trans q
    · exact itB_at t3.1 fun o q => (sb.2 _ D.zi3.symm).trans q
    · have hlt : e < s.heap.objs.size := by
        have e' : e = z ∨ e = TI ∨ e = TO ∨ e = i1 ∨ e = i2 ∨ e = i3 := by simpa using hcm
        rcases e' with q | q | q | q | q | q
        · rw [q]; exact hzl
        · rw [q]; exact Heap.lt_size hTI
        · rw [q]; exact Heap.lt_size hTO
        · rw [q]; obtain ⟨_, e1, _⟩ := itB_obj h1; exact Heap.lt_size e1
        · rw [q]; obtain ⟨_, e2, _⟩ := itB_obj h2; exact Heap.lt_size e2
        · rw [q]; obtain ⟨_, e3, _⟩ := itB_obj h3; exact Heap.lt_size e3
      rw [upd_ne (Nat.ne_of_lt hlt)]
      exact (hf e hcm).1
  done := by
    intro X hP hw hK hc i pins s σ H E I hf st hg
    subst hP hw hK
    obtain ⟨hz, hTI, ⟨x0, y0, u0, hTO⟩, h1, h2, h3⟩ := st
    obtain ⟨xs, ys, zs, hqx, hqy, hqz, l1, l2, l3, hend⟩ := hg
    obtain ⟨its, rv, p, _⟩ := sqB_inv I hqx
    obtain ⟨its2, rv2, p2, _⟩ := sqB_inv I hqy
    obtain ⟨its3, rv3, p3, _⟩ := sqB_inv I hqz
    have m1 := rv.length
    have m2 := rv2.length
    have m3 := rv3.length
    have hd : X.A.in1.handled = none := I.ok.hd hc
    have z1 : its.toArray.size = its.length := by simp
    have z2 : its2.toArray.size = its2.length := by simp
    have z3 : its3.toArray.size = its3.length := by simp
    exact wpAny_pyNext_zipD3_end D (drawsB hd k1 i1 a ai its.toArray) (drawsB hd k2 i2 b bi its2.toArray) (drawsB hd k3 i3 c ci its3.toArray) hz hTI hTO ⟨h1, p⟩ ⟨h2, p2⟩ ⟨h3, p3⟩ (by omega) (by omega) (by omega) (by omega) fun h' tk hk => ⟨rfl, I.turnedL (t' := tk) (ch := [z, TI, TO, i1, i2, i3]) (fun c o hb q =>
      hk c o (fun q' => hb (by simp [q'])) (fun q' => hb (by simp [q'])) (fun q' => hb (by simp [q'])) (fun q' => hb (by simp [q'])) (fun q' => hb (by simp [q'])) q) hf⟩
  self := fun A i s Q E st h => wpAny_pyIter_zip st.1 h

abbrev z3H1 (h : Heap) (l1 : Addr) : Heap := h.push { cls := .type "tuple_iterator", data := .fields #[.ref l1, .int 0 0] }
abbrev z3H2 (h : Heap) (l1 l2 : Addr) : Heap := (z3H1 h l1).push { cls := .type "tuple_iterator", data := .fields #[.ref l2, .int 0 0] }
abbrev z3H3 (h : Heap) (l1 l2 l3 : Addr) : Heap := (z3H2 h l1 l2).push { cls := .type "list_iterator", data := .fields #[.ref l3, .int 0 0] }
abbrev z3H4 (h : Heap) (l1 l2 l3 : Addr) : Heap := (z3H3 h l1 l2 l3).push { cls := .type "tuple", data := .seq #[.ref h.objs.size, .ref (z3H1 h l1).objs.size, .ref (z3H2 h l1 l2).objs.size] }
abbrev z3H5 (h : Heap) (l1 l2 l3 : Addr) : Heap := (z3H4 h l1 l2 l3).push { cls := .type "tuple", data := .seq #[.none, .none, .none] }
abbrev z3H6 (h : Heap) (l1 l2 l3 : Addr) : Heap := (z3H5 h l1 l2 l3).push { cls := .type "zip", data := .fields #[.none, .bool false, .bool false, .ref (z3H3 h l1 l2 l3).objs.size, .ref (z3H4 h l1 l2 l3).objs.size] }
theorem meets_zip3 (l1 l2 l3 : Addr) (xs ys zs : Array Value) :
    Meets (Builtin.«zip.__new__» ⟨[.type "zip", .ref l1, .ref l2, .ref l3], []⟩) (fun _ R s => s.heap.IsTuple l1 xs ∧ s.heap.IsTuple l2 ys ∧ s.heap.IsList l3 zs ∧
      R (.ok (.ret (.ref (z3H5 s.heap l1 l2 l3).objs.size))) { s with heap := z3H6 s.heap l1 l2 l3 }) :=
  .of_wp fun prog w A R s h => by
    obtain ⟨hp, g, d, tk, os⟩ := s; obtain ⟨hl1, hl2, hl3, h⟩ := h
    have hsub := sub_zip
    have hL1 : Heap.IsTuple (Shared.heap ⟨hp, g, d, tk, os⟩) l1 xs := hl1
    have hL2 : Heap.IsTuple (Shared.heap ⟨hp.push { cls := .type "tuple_iterator", data := .fields #[.ref l1, .int 0 0] }, g, d, tk, os⟩) l2 ys := Heap.IsTuple.push hl2 _
    have hL3 : Heap.IsList (Shared.heap ⟨(hp.push { cls := .type "tuple_iterator", data := .fields #[.ref l1, .int 0 0] }).push { cls := .type "tuple_iterator", data := .fields #[.ref l2, .int 0 0] }, g, d, tk, os⟩) l3 zs := Heap.IsList.push (Heap.IsList.push hl3 _) _
    wp_walk using wpAny_pyIter_tuple hL1, wpAny_pyIter_tuple hL2, wpAny_pyIter_list hL3
    exact ⟨_, rfl, h⟩
section
variable {prog : Program} {w : World} {A : Around} {E : Value → Shared → Prop} {s : Shared}
theorem call_zip3 {l1 l2 l3 : Addr} {xs ys zs : Array Value} {Q : Value → Shared → Prop} (hl1 : sqB s.heap false l1 xs) (hl2 : sqB s.heap false l2 ys) (hl3 : sqB s.heap true l3 zs)
    (h : ∀ h', IsZip h' (s.heap.objs.size + 5) (s.heap.objs.size + 3) (s.heap.objs.size + 4) .none → IsTupOf3 h' (s.heap.objs.size + 3) (.ref s.heap.objs.size) (.ref (s.heap.objs.size + 1)) (.ref (s.heap.objs.size + 2)) →
      IsTupOf3 h' (s.heap.objs.size + 4) .none .none .none → itB h' false s.heap.objs.size l1 0 → itB h' false (s.heap.objs.size + 1) l2 0 → itB h' true (s.heap.objs.size + 2) l3 0 → h'.objs.size = s.heap.objs.size + 6 →
      (∀ c o, s.heap.get? c = some o → h'.get? c = some o) → Q (.ref (s.heap.objs.size + 5)) { s with heap := h' }) :
    wpAny (model prog w) A (call (.type "zip") [.ref l1, .ref l2, .ref l3]) Q E s := by
  refine callType_new F.called_zip (by decide) (F.typeCall_zip_3 _ _ _) (F.newCall_zip_3 _ _ _) (fun obj => F.args_object_init_4 obj _ _ _) F.entry_zip_new
    (meets_zip3 l1 l2 l3 xs ys zs) ⟨hl1, hl2, hl3, ?_⟩
  have z1 : (z3H1 s.heap l1).objs.size = s.heap.objs.size + 1 := Heap.size_push ..
  have z2 : (z3H2 s.heap l1 l2).objs.size = s.heap.objs.size + 2 := by rw [Heap.size_push, z1]
  have z3 : (z3H3 s.heap l1 l2 l3).objs.size = s.heap.objs.size + 3 := by rw [Heap.size_push, z2]
  have z4 : (z3H4 s.heap l1 l2 l3).objs.size = s.heap.objs.size + 4 := by rw [Heap.size_push, z3]
  have z5 : (z3H5 s.heap l1 l2 l3).objs.size = s.heap.objs.size + 5 := by rw [Heap.size_push, z4]
  have z6 : (z3H6 s.heap l1 l2 l3).objs.size = s.heap.objs.size + 6 := by rw [Heap.size_push, z5]
  have g6 : (z3H6 s.heap l1 l2 l3).get? (z3H5 s.heap l1 l2 l3).objs.size = some _ := Heap.get?_push_size _ rfl
  have g5 : (z3H6 s.heap l1 l2 l3).get? (z3H4 s.heap l1 l2 l3).objs.size = some _ := Heap.get?_push_of_some _ (Heap.get?_push_size _ rfl)
  have g4 : (z3H6 s.heap l1 l2 l3).get? (z3H3 s.heap l1 l2 l3).objs.size = some _ := Heap.get?_push_of_some _ (Heap.get?_push_of_some _ (Heap.get?_push_size _ rfl))
  have g3 : (z3H6 s.heap l1 l2 l3).get? (z3H2 s.heap l1 l2).objs.size = some _ := Heap.get?_push_of_some _ (Heap.get?_push_of_some _ (Heap.get?_push_of_some _ (Heap.get?_push_size _ rfl)))
  have g2 : (z3H6 s.heap l1 l2 l3).get? (z3H1 s.heap l1).objs.size = some _ := Heap.get?_push_of_some _ (Heap.get?_push_of_some _ (Heap.get?_push_of_some _ (Heap.get?_push_of_some _ (Heap.get?_push_size _ rfl))))
  have g1 : (z3H6 s.heap l1 l2 l3).get? s.heap.objs.size = some _ := Heap.get?_push_of_some _ (Heap.get?_push_of_some _ (Heap.get?_push_of_some _ (Heap.get?_push_of_some _ (Heap.get?_push_of_some _ (Heap.get?_push_size _ rfl)))))
  show _ ∧ _
  rw [z3, z4, z5] at g6
  rw [z1, z2, z3] at g4
  rw [z4] at g5
  rw [z2] at g3
  rw [z1] at g2
  rw [z5]
  exact ⟨⟨_, g6, rfl⟩, h _ g6 g4 g5 (itB_new (k := false) g1) (itB_new (k := false) g2) (itB_new (k := true) g3) z6 fun c o x =>
    Heap.get?_push_of_some _ (Heap.get?_push_of_some _ (Heap.get?_push_of_some _ (Heap.get?_push_of_some _ (Heap.get?_push_of_some _ (Heap.get?_push_of_some _ x)))))⟩
end
def iZip3 (K : PySem.W.Frag) (ta : TA) : TI := fun σ H R => ta σ H fun vs H1 => ∃ a b c xs ys zs, vs = [.ref a, .ref b, .ref c] ∧ SqT K H1 a xs ∧ SqT K H1 b ys ∧ SqL K H1 c zs ∧ R (It3 K false false true a b c) H1
theorem pi_zip3 {X : Cx} {e e2 e3 : Expr} {ta : TA} {p pos tpos : Pos} {elts : List Expr} {kk : Nat} (hg : Gl X "zip") (hm : X.mg "zip" = none) (ha : PA X [e, e2, e3] ta)
    (hs : starEach [e, e2, e3] X.env = (false, eval e X.env) :: starEach [e2, e3] X.env := by rfl) (hpl : (backTo pos (starEach [e2, e3] X.env)).any (·.1) = false := by rfl) :
    PI X (.Tuple elts kk tpos) (.Call (.Name "zip" p) [e, e2, e3] [] pos) (iZip3 X.K ta) := by
  refine ⟨fun pins s σ H R I h => ?_⟩
  refine Call_ (ld_blt I hg hm PyProof.Rows.boot_zip (PyProof.Rows.callWith_type1 (thn (ha.run pos pins s σ H _ I h) fun us s1 ⟨vs, H1, I1, r1, q1⟩ => ?_) hs hpl))
  obtain ⟨a, b, c, xs, ys, zs, ex, hqx, hqy, hqz, q⟩ := q1
  subst ex
  cases r1 with
  | cons r rr =>
    cases rr with
    | cons r' rr =>
      cases rr with
      | cons r'' rr =>
        cases rr
        cases r
        cases r'
        cases r''
        obtain ⟨its, rv, p1, la⟩ := sqB_inv (k := false) I1 hqx
        obtain ⟨its2, rv2, p2, lb⟩ := sqB_inv (k := false) I1 hqy
        obtain ⟨its3, rv3, p3, lc⟩ := sqB_inv (k := true) I1 hqz
        refine call_zip3 p1 p2 p3 fun h' hz hTI hTO h1 h2 h3 hsz hk => wpAny_pyIter_zip hz ?_
        have I2 : Inv X pins σ H1 { s1 with heap := h' } := I1.kept (t' := s1.toks) hk
        refine ⟨s1.heap.objs.size + 5, [s1.heap.objs.size + 5, s1.heap.objs.size + 3, s1.heap.objs.size + 4, s1.heap.objs.size, s1.heap.objs.size + 1, s1.heap.objs.size + 2], _, _, H1, rfl, I2, turn_zip3 (sep3 la lb lc) (Nat.ne_of_lt la) (Nat.ne_of_lt (Nat.lt_succ_of_lt lb)) (Nat.ne_of_lt (Nat.lt_succ_of_lt (Nat.lt_succ_of_lt lc))), ⟨hz, hTI, ⟨_, _, _, hTO⟩, h1, h2, h3⟩, fun c hcm => ?_, q⟩
        have e' : c = s1.heap.objs.size + 5 ∨ c = s1.heap.objs.size + 3 ∨ c = s1.heap.objs.size + 4 ∨ c = s1.heap.objs.size ∨ c = s1.heap.objs.size + 1 ∨ c = s1.heap.objs.size + 2 := by simpa using hcm
        have hle : s1.heap.objs.size ≤ c := by
          rcases e' with z | z | z | z | z | z <;> rw [z] <;> first | exact Nat.le_add_right _ _ | exact Nat.le_refl _
        exact I1.fpOk hle (I1.hok.fresh hle)
theorem walk_zip3 {K : PySem.W.Frag} {k1 k2 k3 : Bool} {a b c : Addr} {xs ys zs : List V} {n : Nat} (h1 : xs.length = n) (h2 : ys.length = n) (h3 : zs.length = n) : Walk (It3 K k1 k2 k3 a b c) n (fun H => SqB K H k1 a xs ∧ SqB K H k2 b ys ∧ SqB K H k3 c zs)
    (fun i H v H' => ∃ T x y z, v = .ref T ∧ H T = none ∧ H' = upd H T (.tup [x, y, z]) ∧ xs[i]? = some x ∧ ys[i]? = some y ∧ zs[i]? = some z) := by
  refine ⟨fun i H hi q => ?_, fun H q => ⟨xs, ys, zs, q.1, q.2.1, q.2.2, by omega, by omega, by omega, .inl h1⟩, fun i H v H' _ q y => ?_⟩
  · have g1 : i < xs.length := by omega
    have g2 : i < ys.length := by omega
    have g3 : i < zs.length := by omega
    exact ⟨xs, ys, zs, xs[i], ys[i], zs[i], q.1, q.2.1, q.2.2, by simp [g1], by simp [g2], by simp [g3]⟩
  · obtain ⟨T, x, z, u, h1, h2, h3, h4, h5, h6⟩ := y
    exact ⟨T, x, z, u, h1, h2, h3, h4 xs q.1, h5 ys q.2.1, h6 zs q.2.2⟩
end Rw

set_option Elab.async false
set_option linter.all false
set_option maxRecDepth 100000
set_option maxHeartbeats 4000000
/-! TkN: data that is small enough to be shown. -/
namespace Rw
open PySem PySem.Spec PyProof.Rows L2
theorem list_len (t : Str) (r : List Str) : (listText (t :: r)).length = t.length + piled r + 2 := by
  have a : (listText (t :: r)).length = (textFrom 1 (("[" : Str) ++ (if (0 : Nat) > 0 then ", " else "" : String) ++ t) r).length + 1 := by
    show (textFrom 0 "[" (t :: r) ++ "]").length = _
    rw [strLen_append]
    rfl
  rw [a, textFrom_length_pos r 1 _ (by decide), strLen_append, strLen_append]
  show 1 + 0 + t.length + piled r + 1 = _
  omega
/-- small enough, at the n-th level of lists -/
structure Tm (n : Nat) (d : PyData) : Prop where
  sh : d.showable = true
  dp : d.depth ≤ 3 + n
  ln : d.shown.length ≤ 50 * 8 ^ n
theorem Tm.up {n m : Nat} {d : PyData} (h : Tm n d) (l : n ≤ m) : Tm m d := ⟨h.sh, by have := h.dp; omega, Nat.le_trans h.ln (Nat.mul_le_mul_left _ (Nat.pow_le_pow_right (by decide) l))⟩
theorem piled_le {B : Nat} : ∀ {ts : List Str}, (∀ t ∈ ts, t.length ≤ B) → piled ts ≤ ts.length * (B + 2)
  | [], _ => by rw [piled_nil]; exact Nat.zero_le _
  | t :: ts, h => by
    rw [piled_cons, List.length_cons, Nat.succ_mul]
    have a := h t List.mem_cons_self
    have b := piled_le (ts := ts) fun x hx => h x (List.mem_cons_of_mem _ hx)
    omega
theorem shownAll_map : ∀ ds : List PyData, PyData.shownAll ds = ds.map PyData.shown
  | [] => by simp only [PyData.shownAll]; rfl
  | d :: ds => by
    simp only [PyData.shownAll]
    rw [shownAll_map ds] <;> rfl
theorem tm_all {n : Nat} : ∀ {ds : List PyData}, (∀ d ∈ ds, Tm n d) → PyData.showableAll ds = true ∧ PyData.depthAll ds ≤ 3 + n ∧ ∀ t ∈ PyData.shownAll ds, t.length ≤ 50 * 8 ^ n
  | [], _ => ⟨by simp only [PyData.showableAll], by simp only [PyData.depthAll]; omega, fun t ht => by simp only [PyData.shownAll] at ht; cases ht⟩
  | d :: ds, h => by
    obtain ⟨a, b, c⟩ := tm_all (ds := ds) fun x hx => h x (List.mem_cons_of_mem _ hx)
    have e := h d List.mem_cons_self
    refine ⟨?_, ?_, ?_⟩
    · simp only [PyData.showableAll, e.sh, a, Bool.and_self]
    · simp only [PyData.depthAll]
      have := e.dp
      omega
    · intro t ht
      simp only [PyData.shownAll] at ht
      rcases List.mem_cons.mp ht with z | z
      · rw [z]
        exact e.ln
      · exact c t z
theorem tm_num {n : Nat} {k : Nat} (l : k ≤ 6) : k * (50 * 8 ^ n + 2) + 3 ≤ 50 * 8 ^ (n + 1) := by
  have p : 0 < 8 ^ n := Nat.pow_pos (by decide)
  have q : k * (50 * 8 ^ n + 2) ≤ 6 * (50 * 8 ^ n + 2) := Nat.mul_le_mul_right _ l
  rw [Nat.pow_succ]
  omega
theorem tm_list {n : Nat} {ds : List PyData} (l : ds.length ≤ 6) (h : ∀ d ∈ ds, Tm n d) : Tm (n + 1) (.list ds) := by
  obtain ⟨a, b, c⟩ := tm_all h
  refine ⟨by simp only [PyData.showable]; exact a, by simp only [PyData.depth]; omega, ?_⟩
  simp only [PyData.shown]
  have ln : (PyData.shownAll ds).length = ds.length := by rw [shownAll_map, List.length_map]
  have z := tm_num (n := n) l
  generalize PyData.shownAll ds = ts at c ln
  cases ts with
  | nil =>
    have e : (listText []).length = 2 := rfl
    rw [e]
    omega
  | cons t r =>
    rw [list_len]
    have p := piled_le c
    rw [piled_cons, ln] at p
    omega
theorem tm_tup {n : Nat} {ds : List PyData} (l : ds.length ≤ 6) (h : ∀ d ∈ ds, Tm n d) : Tm (n + 1) (.tuple ds) := by
  obtain ⟨a, b, c⟩ := tm_all h
  refine ⟨by simp only [PyData.showable]; exact a, by simp only [PyData.depth]; omega, ?_⟩
  simp only [PyData.shown]
  have ln : (PyData.shownAll ds).length = ds.length := by rw [shownAll_map, List.length_map]
  have z := tm_num (n := n) l
  generalize PyData.shownAll ds = ts at c ln
  have p := piled_le c
  rw [ln] at p
  have e : (tupleText ts).length ≤ 1 + (Str.join ", " ts).length + 2 := by
    show (("(" : Str) ++ Str.join ", " ts ++ (if ts.length == 1 then ",)" else ")" : String)).length ≤ _
    rw [strLen_append, strLen_append]
    have e1 : (("(" : String) : Str).length = 1 := rfl
    have e2 : ((if ts.length == 1 then ",)" else ")" : String) : Str).length ≤ 2 := by
      split
      · exact Nat.le_of_eq rfl
      · exact Nat.le_succ_of_le (Nat.le_of_eq rfl)
    omega
  cases ts with
  | nil =>
    have e3 : (Str.join ", " []).length = 0 := rfl
    omega
  | cons t r =>
    have e3 := join_length_add (t :: r) (by simp)
    omega
theorem int_len {n : Int} (h : n.natAbs < 10 ^ 40) : (PyData.int n).shown.length ≤ 41 := by
  simp only [PyData.shown]
  show (Str.ofString (toString n)).length ≤ 41
  rw [PySem.ofString_length]
  exact int_text_length_le10 (by decide) h
theorem log2_small {n : Int} (h : n.natAbs < 10 ^ 40) : n.natAbs.log2 < 400 := by
  by_cases z : n.natAbs = 0
  · rw [z]
    decide
  · exact (Nat.log2_lt z).mpr (Nat.lt_trans h (by decide +kernel))
theorem tm_int {n : Int} (h : n.natAbs < 10 ^ 40) : Tm 0 (.int n) := by
  refine ⟨?_, by simp only [PyData.depth]; omega, Nat.le_trans (int_len h) (by decide)⟩
  simp only [PyData.showable]
  exact decide_eq_true (Nat.lt_trans (log2_small h) (by decide))
def smallB (d : PyData) : Bool := match d with
  | .int n => decide (n.natAbs < 10 ^ 40) | _ => true
/-- a cell: an int that is not great, or an odd thing -/
structure Cell (d : PyData) : Prop where
  tm : Tm 0 d
  f1 : Fit1 d
  f2 : Fit d
  sm : smallB d = true
theorem cell_sm {d : PyData} {n : Int} (c : Cell d) (e : d = .int n) : n.natAbs.log2 < 400 := by
  have h := c.sm
  rw [e] at h
  exact log2_small (of_decide_eq_true h)
theorem fit1_flat {d : PyData} (e : itemsD d = []) : Fit1 d := ⟨by rw [e]; exact Nat.zero_le _, fun n h => by rw [e] at h; cases h⟩
theorem fit_flat {d : PyData} (e : itemsD d = []) : Fit d := ⟨fit1_flat e, fun x h => by rw [e] at h; cases h⟩
theorem cell_int {n : Int} (h : n.natAbs < 10 ^ 40) : Cell (.int n) := ⟨tm_int h, fit1_flat rfl, fit_flat rfl, decide_eq_true h⟩
theorem fit1_of {d : PyData} {ds : List PyData} (e : itemsD d = ds) (l : ds.length ≤ 1000) (h : ∀ x ∈ ds, smallB x = true) : Fit1 d :=
  ⟨by rw [e]; exact l, fun n hn => by rw [e] at hn; exact log2_small (of_decide_eq_true (h _ hn))⟩
theorem odd_cell : ∀ d ∈ oddL, Cell d := by
  have a : ∀ d ∈ oddL, d.showable = true ∧ d.depth ≤ 3 ∧ d.shown.length ≤ 50 := by decide +kernel
  have b : ∀ d ∈ oddL, (itemsD d).length ≤ 1000 ∧ (∀ e ∈ itemsD d, smallB e = true ∧ (itemsD e).length ≤ 1000 ∧ ∀ x ∈ itemsD e, smallB x = true) ∧ smallB d = true := by decide +kernel
  intro d hd
  obtain ⟨a1, a2, a3⟩ := a d hd
  obtain ⟨b1, b2, b3⟩ := b d hd
  have f1 : Fit1 d := fit1_of rfl b1 fun x hx => (b2 x hx).1
  exact ⟨⟨a1, a2, a3⟩, f1, ⟨f1, fun e he => fit1_of rfl (b2 e he).2.1 (b2 e he).2.2⟩, b3⟩
/-- a row: a cell, or a list of few cells -/
structure RowT (d : PyData) : Prop where
  tm : Tm 1 d
  f1 : Fit1 d
  sm : smallB d = true
theorem Cell.row {d : PyData} (c : Cell d) : RowT d := ⟨c.tm.up (by decide), c.f1, c.sm⟩
theorem row_list {ds : List PyData} (l : ds.length ≤ 6) (h : ∀ d ∈ ds, Cell d) : RowT (.list ds) := ⟨tm_list l fun d hd => (h d hd).tm, fit1_of (ds := ds) rfl (by omega) fun x hx => (h x hx).sm, rfl⟩
/-- a sheet: a cell, or few rows -/
structure SheetT (d : PyData) : Prop where
  tm : Tm 2 d
  f : Fit d
  few : (itemsD d).length ≤ 6
theorem Cell.sheet {d : PyData} (c : Cell d) (l : (itemsD d).length ≤ 6) : SheetT d := ⟨c.tm.up (by decide), c.f2, l⟩
theorem sheet_list {ds : List PyData} (l : ds.length ≤ 6) (h : ∀ d ∈ ds, RowT d) : SheetT (.list ds) := ⟨tm_list l fun d hd => (h d hd).tm, ⟨fit1_of (ds := ds) rfl (by omega) fun x hx => (h x hx).sm, fun e he => (h e he).f1⟩, l⟩
theorem sheet_tup {ds : List PyData} (l : ds.length ≤ 6) (h : ∀ d ∈ ds, RowT d) : SheetT (.tuple ds) := ⟨tm_tup l fun d hd => (h d hd).tm, ⟨fit1_of (ds := ds) rfl (by omega) fun x hx => (h x hx).sm, fun e he => (h e he).f1⟩, l⟩
theorem odd_few : ∀ d ∈ oddL, (itemsD d).length ≤ 6 := by decide +kernel
theorem odd_sheet {d : PyData} (h : d ∈ oddL) : SheetT d := (odd_cell d h).sheet (odd_few d h)
end Rw

set_option Elab.async false
set_option linter.all false
set_option maxRecDepth 100000
set_option maxHeartbeats 4000000
/-! TkX: data that is small enough to be shown, wider; comprehensions beside a box; texts of signs; drafts of rows. -/
namespace Rw
open PySem PySem.Spec PyProof.Rows L2
/-- small enough, at the n-th level of lists of at most twelve items -/
structure Tq (n : Nat) (d : PyData) : Prop where
  sh : d.showable = true
  dp : d.depth ≤ 3 + n
  ln : d.shown.length ≤ 80 * 13 ^ n
theorem Tq.up {n m : Nat} {d : PyData} (h : Tq n d) (l : n ≤ m) : Tq m d := ⟨h.sh, by have := h.dp; omega, Nat.le_trans h.ln (Nat.mul_le_mul_left _ (Nat.pow_le_pow_right (by decide) l))⟩
theorem Tm.q {n : Nat} {d : PyData} (h : Tm n d) : Tq n d := ⟨h.sh, h.dp, Nat.le_trans h.ln (Nat.mul_le_mul (by decide) (Nat.pow_le_pow_left (by decide) n))⟩
theorem tq_all {n : Nat} : ∀ {ds : List PyData}, (∀ d ∈ ds, Tq n d) → PyData.showableAll ds = true ∧ PyData.depthAll ds ≤ 3 + n ∧ ∀ t ∈ PyData.shownAll ds, t.length ≤ 80 * 13 ^ n
  | [], _ => ⟨by simp only [PyData.showableAll], by simp only [PyData.depthAll]; omega, fun t ht => by simp only [PyData.shownAll] at ht; cases ht⟩
  | d :: ds, h => by
    obtain ⟨a, b, c⟩ := tq_all (ds := ds) fun x hx => h x (List.mem_cons_of_mem _ hx)
    have e := h d List.mem_cons_self
    refine ⟨?_, ?_, ?_⟩
    · simp only [PyData.showableAll, e.sh, a, Bool.and_self]
    · simp only [PyData.depthAll]
      have := e.dp
      omega
    · intro t ht
      simp only [PyData.shownAll] at ht
      rcases List.mem_cons.mp ht with z | z
      · rw [z]
        exact e.ln
      · exact c t z
theorem tq_num {n : Nat} {k : Nat} (l : k ≤ 12) : k * (80 * 13 ^ n + 2) + 3 ≤ 80 * 13 ^ (n + 1) := by
  have p : 0 < 13 ^ n := Nat.pow_pos (by decide)
  have q : k * (80 * 13 ^ n + 2) ≤ 12 * (80 * 13 ^ n + 2) := Nat.mul_le_mul_right _ l
  rw [Nat.pow_succ]
  omega
theorem tq_list {n : Nat} {ds : List PyData} (l : ds.length ≤ 12) (h : ∀ d ∈ ds, Tq n d) : Tq (n + 1) (.list ds) := by
  obtain ⟨a, b, c⟩ := tq_all h
  refine ⟨by simp only [PyData.showable]; exact a, by simp only [PyData.depth]; omega, ?_⟩
  simp only [PyData.shown]
  have ln : (PyData.shownAll ds).length = ds.length := by rw [shownAll_map, List.length_map]
  have z := tq_num (n := n) l
  generalize PyData.shownAll ds = ts at c ln
  cases ts with
  | nil =>
    have e : (listText []).length = 2 := rfl
    rw [e]
    omega
  | cons t r =>
    rw [list_len]
    have p := piled_le c
    rw [piled_cons, ln] at p
    omega
theorem tq_tup {n : Nat} {ds : List PyData} (l : ds.length ≤ 12) (h : ∀ d ∈ ds, Tq n d) : Tq (n + 1) (.tuple ds) := by
  obtain ⟨a, b, c⟩ := tq_all h
  refine ⟨by simp only [PyData.showable]; exact a, by simp only [PyData.depth]; omega, ?_⟩
  simp only [PyData.shown]
  have ln : (PyData.shownAll ds).length = ds.length := by rw [shownAll_map, List.length_map]
  have z := tq_num (n := n) l
  generalize PyData.shownAll ds = ts at c ln
  have p := piled_le c
  rw [ln] at p
  have e : (tupleText ts).length ≤ 1 + (Str.join ", " ts).length + 2 := by
    show (("(" : Str) ++ Str.join ", " ts ++ (if ts.length == 1 then ",)" else ")" : String)).length ≤ _
    rw [strLen_append, strLen_append]
    have e1 : (("(" : String) : Str).length = 1 := rfl
    have e2 : ((if ts.length == 1 then ",)" else ")" : String) : Str).length ≤ 2 := by
      split
      · exact Nat.le_of_eq rfl
      · exact Nat.le_succ_of_le (Nat.le_of_eq rfl)
    omega
  cases ts with
  | nil =>
    have e3 : (Str.join ", " []).length = 0 := rfl
    omega
  | cons t r =>
    have e3 := join_length_add (t :: r) (by simp)
    omega
theorem tq_int {n : Int} (h : n.natAbs < 10 ^ 40) : Tq 0 (.int n) := (tm_int h).q
theorem tq_str {x : Str} (h : x.length ≤ 7) (c : ∀ z ∈ x.cps.toList, z < 16 ^ 8) : Tq 0 (.str x) := by
  refine ⟨by simp only [PyData.showable], by simp only [PyData.depth]; omega, ?_⟩
  simp only [PyData.shown]
  have := PySem.StrLaws.reprText_len x c
  show _ ≤ 80
  omega
theorem arr_small {x : Str} (h : x.cps.toList.all isArr = true) : ∀ z ∈ x.cps.toList, z < 16 ^ 8 := by
  intro z hz
  have := List.all_eq_true.mp h z hz
  unfold isArr at this
  simp only [Bool.or_eq_true, beq_iff_eq] at this
  rcases this with e | e <;> rw [e] <;> decide
/-! ### odd things -/
theorem odd_short : ∀ d ∈ oddL, Short d := by
  have h : ∀ d ∈ oddL, (match d with | .str x => decide (x.length ≤ 1000) | _ => true) = true := by decide +kernel
  intro d hd x e
  have := h d hd
  rw [e] at this
  exact of_decide_eq_true this
theorem odd_items : ∀ d ∈ oddL, ∀ e ∈ itemsD d, Cell e ∧ SheetT e := by
  have h : ∀ d ∈ oddL, ∀ e ∈ itemsD d, e = .int 1 ∨ e = .int 0 ∨ e = .tuple [.int 1] := by
    intro d hd e he
    have k : ∀ d ∈ oddL, itemsD d = [] ∨ itemsD d = [.int 1] ∨ itemsD d = [.int 0] ∨ itemsD d = [.tuple [.int 1]] := by
      intro d hd
      unfold oddL at hd
      simp only [List.mem_cons, List.not_mem_nil, or_false] at hd
      rcases hd with z | z | z | z | z | z | z | z | z | z | z | z | z | z | z | z <;> subst z <;> simp [itemsD]
    rcases k d hd with z | z | z | z <;> rw [z] at he
    · cases he
    · exact .inl (List.mem_singleton.mp he)
    · exact .inr (.inl (List.mem_singleton.mp he))
    · exact .inr (.inr (List.mem_singleton.mp he))
  intro d hd e he
  have c1 : ∀ n : Int, n.natAbs < 10 ^ 40 → Cell (.int n) ∧ SheetT (.int n) := fun n hn => ⟨cell_int hn, (cell_int hn).sheet (Nat.zero_le _)⟩
  rcases h d hd e he with z | z | z
  · rw [z]; exact c1 1 (by decide)
  · rw [z]; exact c1 0 (by decide)
  · rw [z]; have m : PyData.tuple [.int 1] ∈ oddL := by unfold oddL; simp
    exact ⟨odd_cell _ m, odd_sheet m⟩
theorem SheetT.fit {d : PyData} (s : SheetT d) : Fit d := s.f
theorem odd_fitM {d : PyData} (h : d ∈ oddL) : FitM d := ⟨by have := odd_few d h; omega, fun e he => (odd_items d h e he).2.f⟩
/-! ### comprehensions beside a box -/
theorem bx_at {H : Hp} {p : Addr} {n : Nat} (b : Bx H p n) : ∃ xs, H p = some (.lst xs) := by
  obtain ⟨_, _, _, e, _⟩ := b
  exact ⟨_, e⟩
theorem lc_boxN {J : It} {n : Nat} {G : Hp → Prop} {P : Nat → V → Prop} (w : Walk J n G (fun i H x H' => H' = H ∧ P i x)) {j : Nat} {σ : L2.St} {vs : List Nat} {te : TE} {H1 : Hp} {p D : Addr} {c t : Nat} {Q : Hp → Prop} (hn : n ≤ 1000) (hD : H1 D = none) (b0 : Bx H1 p c) (hG : ∀ H, Grow p H1 H → G H) (Good : PyData → Prop) (nf : ∀ d, Good d → noL d = true)
    (hs : ∀ i x H, i < n → P i x → Grow p H1 H → Bx H p (c + i * t) → wipe ((wipe σ vs).set j (some x)) vs = wipe σ vs ∧ ∀ k : VK, (∀ y d H', Grow p H H' → Bx H' p (c + i * t + t) → Good d → Any H' y d → k y H') → te ((wipe σ vs).set j (some x)) H k)
    (hq : ∀ H acc ds, Grow p H1 H → Bx H p (c + n * t) → H D = some (.lst acc) → AnyL H acc ds → ds.length = n → (∀ d, d ∈ ds → Good d) → Q H) :
    ∃ W : Nat → Nat → Hp → Prop, (∃ m, W 0 m (upd H1 D (.lst []))) ∧ ∀ i m H, W i m H →
      (J.stop i H ∧ Q H) ∨ (J.go i H ∧ ∃ Nx : Hp → Prop, (∀ H', Nx H' → ∃ m', m' < m ∧ W (i + 1) m' H') ∧ ∀ x H', J.yld i H x H' → gName j x (wipe σ vs) H' fun σ2 H2 => wipe σ2 vs = wipe σ vs ∧ tYes σ2 H2 fun b H3 =>
        if b = true then te σ2 H3 fun y H4 => ∃ acc, H4 D = some (.lst acc) ∧ acc.length < sizeLine ∧ Nx (upd H4 D (.lst (acc ++ [y]))) else Nx H3) := by
  have pD := b0.ne hD
  refine lc_it w (Qd := Q) (Pv := fun i H => Grow p H1 H ∧ Bx H p (c + i * t) ∧ ∃ acc ds, H D = some (.lst acc) ∧ AnyL H acc ds ∧ ds.length = i ∧ ∀ d, d ∈ ds → Good d) ⟨Grow.of (same_new hD), by simpa using b0.keep (same_new hD), [], [], upd_same, .nil, rfl, fun d hd => (nomatch hd)⟩ (fun i H _ h => hG H h.1) ?_ ?_
  · rintro i x H H' hi ⟨g, b, acc, ds, ha, al, l, gd⟩ ⟨rfl, hp⟩
    obtain ⟨e1, e2⟩ := hs i x H' hi hp g b
    refine ⟨e1, ?_⟩
    show te _ _ _
    refine e2 _ fun y d H4 g4 b4 gd4 an => ?_
    have ha4 := g4 _ _ pD.symm ha
    have ln := anyL_len al
    obtain ⟨bx, hbx⟩ := bx_at b
    have nd : noLs ds = true := noLs_of fun d hd => nf d (gd d hd)
    have al4 : AnyL H4 acc ds := anyL_keep same_del (anyL_keep (Grow.del g4) (anyL_noL hbx _ _ al nd))
    have down : ∀ {v : V} {e : PyData}, Any H4 v e → noL e = true → Any (upd H4 D (.lst (acc ++ [y]))) v e := fun a z => by
      have a1 := any_noL ha4 _ _ a z
      refine a1.keep fun q o eo => ?_
      by_cases y1 : q = D
      · rw [y1, del_same] at eo; cases eo
      · rw [del_ne y1] at eo
        rw [upd_ne y1]
        exact eo
    refine ⟨acc, ha4, Nat.lt_of_lt_of_le (by omega : acc.length < 1000) (by decide), ?_, ?_, acc ++ [y], ds ++ [d], upd_same, ?_, by rw [List.length_append, l] <;> rfl, ?_⟩
    · intro z o ne eo
      rw [upd_ne (ne_of_none eo hD)]
      exact (g.trans g4) z o ne eo
    · obtain ⟨a1, a2, a3, h1, rest⟩ := b4
      refine Bx.more ⟨a1, a2, a3, by rw [upd_ne pD]; exact h1, rest⟩ ?_
      rw [Nat.succ_mul]
      omega
    · refine anyL_snoc ?_ (down an (nf d gd4))
      refine anyL_keep (fun q o eo => ?_) (anyL_noL ha4 _ _ al4 nd)
      by_cases y1 : q = D
      · rw [y1, del_same] at eo; cases eo
      · rw [del_ne y1] at eo
        rw [upd_ne y1]
        exact eo
    · intro z hz
      rcases List.mem_append.mp hz with q | q
      · exact gd z q
      · rw [List.mem_singleton.mp q]
        exact gd4
  · rintro H ⟨g, b, acc, ds, ha, al, l, gd⟩
    exact hq H acc ds g b ha al l gd
/-! ### texts of signs -/
def sg (c : Nat) : Str := ⟨#[c]⟩
theorem join_sg : ∀ cs : List Nat, (Txt.join "" (cs.map sg)).cps.toList = cs := by
  have e0 : ∀ a : Str, (a ++ ("" : Str)) = a := fun a => by
    cases a with
    | mk c =>
      show (⟨c ++ #[]⟩ : Str) = _
      simp
  intro cs
  rw [TL.join_eq]
  induction cs with
  | nil => rfl
  | cons c cs ih =>
    cases cs with
    | nil => rfl
    | cons b r =>
      show ((sg c ++ ("" : Str)) ++ Str.join "" ((b :: r).map sg)).cps.toList = _
      rw [e0]
      show ((#[c] : Array Nat) ++ (Str.join "" ((b :: r).map sg)).cps).toList = _
      rw [Array.toList_append, ih] <;> rfl
/-! ### drafts of rows -/
def tupI (ns : List Int) : PyData := .tuple (ns.map .int)
def sheetD (m : List (List Int)) : PyData := .list (m.map tupI)
def natD (s : Nat) : PyData := .int (s : Nat)
def draftD (x : Str) (q : Int) (ss : List Nat) (ms : List (List (List Int))) : PyData := .list [.str x, .int q, .list (ss.map natD), .list (ms.map sheetD)]
structure MatOk (q : Int) (h w : Nat) (m : List (List Int)) : Prop where
  h : m.length = h
  w : ∀ r, r ∈ m → r.length = w ∧ ∀ e, e ∈ r → 0 ≤ e ∧ e < q
structure Draft (x : Str) (q : Int) (most : Nat) (ss : List Nat) (ms : List (List (List Int))) : Prop where
  sl : ss.length = x.length + 1
  sb : ∀ s, s ∈ ss → s ≤ most
  ml : ms.length = x.length
  mo : ∀ i m, ms[i]? = some m → MatOk q (ss[stA x i]?.getD 0) (ss[goA x i]?.getD 0) m
theorem noL_tupI (r : List Int) : noL (tupI r) = true := by
  show noLs (r.map PyData.int) = true
  refine noLs_of fun d hd => ?_
  obtain ⟨n, _, rfl⟩ := List.mem_map.mp hd
  rfl
/-- the pattern of a draw -/
structure Pat (x : Str) (m : Nat) : Prop where
  l : x.length ≤ m
  a : x.cps.toList.all isArr = true
def spPrimeR : Sp := fun vs H Q _ => ∃ (p : Addr) (n : Nat), vs = [.ref p] ∧ Bx H p n ∧ n ≤ 900000 ∧ ∀ q H', q ∈ primesL → Grow p H H' → Bx H' p (n + 1) → Q (.int q) H'
def spPatR : Sp := fun vs H Q _ => ∃ (p : Addr) (n m : Nat), vs = [.ref p, .int (m : Nat)] ∧ m ≤ 6 ∧ Bx H p n ∧ n ≤ 900000 ∧ ∀ x H', Pat x m → Grow p H H' → Bx H' p (n + 10) → Q (.str x) H'
def spMatR : Sp := fun vs H Q _ => ∃ (p : Addr) (n h w : Nat) (q : Int), vs = [.ref p, .int q, .int (h : Nat), .int (w : Nat)] ∧ q ∈ primesL ∧ h ≤ 6 ∧ w ≤ 6 ∧ Bx H p n ∧ n ≤ 900000 ∧ ∀ M acc m H', H M = none → Grow p H H' → Bx H' p (n + 80) → H' M = some (.lst acc) → AnyL H' acc (m.map tupI) → MatOk q h w m → Q (.ref M) H'
def spMeas : Sp := fun vs H Q _ => ∃ (x : Str) (a : Addr) (i : Nat) (ss : List Nat), vs = [.str x, .ref a, .int (i : Nat)] ∧ H a = some (.lst (ss.map fun s => V.int (s : Nat))) ∧ i < x.length ∧ x.length ≤ 6 ∧ ss.length = x.length + 1 ∧
  ∀ t H', H t = none → Same H H' → H' t = some (.tup [.int ((ss[stA x i]?.getD 0 : Nat) : Int), .int ((ss[goA x i]?.getD 0 : Nat) : Int)]) → Q (.ref t) H'
def spDraft : Sp := fun vs H Q _ => ∃ (p : Addr) (n most : Nat) (x : Str) (q : Int), vs = [.ref p, .str x, .int q, .int (most : Nat)] ∧ Pat x 6 ∧ q ∈ primesL ∧ most ≤ 6 ∧ Bx H p n ∧ n ≤ 800000 ∧
  ∀ l H' ss ms, Draft x q most ss ms → Grow p H H' → Bx H' p (n + 1000) → Any (del H' p) (.ref l) (draftD x q ss ms) → Q (.ref l) H'
end Rw

set_option Elab.async false
set_option linter.all false
set_option maxRecDepth 100000
set_option maxHeartbeats 4000000
/-! TkH: sizes and matrices of rows, as data. -/
namespace Rw
open PySem PySem.Spec PyProof.Rows L2
theorem sizes_parts {k : Nat} {d : PyData} (h : sizesOk k d = true) : isSeqD d = true ∧ (itemsD d).length = k + 1 ∧ (itemsD d).all isSzD = true := by
  unfold sizesOk at h
  simp only [Bool.and_eq_true, decide_eq_true_eq] at h
  exact h
theorem maps_parts {k : Nat} {d : PyData} (h : mapsOk k d = true) : isSeqD d = true ∧ (itemsD d).length = k := by
  unfold mapsOk at h
  simp only [Bool.and_eq_true, decide_eq_true_eq] at h
  exact h
theorem sz_int {d : PyData} (h : isSzD d = true) : ∃ n, d = .int n ∧ 0 ≤ n ∧ n ≤ 6 := by
  cases d with
  | int n =>
    have h2 : (decide (0 ≤ n) && decide (n ≤ 6)) = true := h
    simp only [Bool.and_eq_true, decide_eq_true_eq] at h2
    exact ⟨n, rfl, h2⟩
  | _ => cases h
theorem stA_le (x : Str) (i : Nat) : stA x i ≤ i + 1 := by
  unfold stA
  split <;> omega
theorem goA_le (x : Str) (i : Nat) : goA x i ≤ i + 1 := by
  unfold goA
  split <;> omega
theorem atD_get {d : PyData} {i : Nat} {e : PyData} (h : (itemsD d)[i]? = some e) : atD d i = e := by
  unfold atD
  rw [h] <;> rfl
/-- an item of sizes, as a value -/
theorem sz_at {k : Nat} {ds : PyData} (h : sizesOk k ds = true) {xs : List V} {H : Hp} (al : AnyL H xs (itemsD ds)) {i : Nat} (hi : i ≤ k) : xs[i]? = some (.int (szL ds i)) ∧ 0 ≤ szL ds i ∧ szL ds i ≤ 6 := by
  obtain ⟨_, l, a⟩ := sizes_parts h
  have hi2 : i < (itemsD ds).length := by omega
  have e1 : (itemsD ds)[i]? = some (itemsD ds)[i] := List.getElem?_eq_getElem hi2
  obtain ⟨n, en, n0, n6⟩ := sz_int (List.all_eq_true.mp a _ (List.getElem_mem hi2))
  obtain ⟨v, hv, av⟩ := anyL_of al e1
  have es : szL ds i = n := by
    unfold szL
    rw [atD_get e1, en] <;> rfl
  rw [en] at av
  cases av
  rw [es]
  exact ⟨hv, n0, n6⟩
theorem bad_none {x : Str} {ds dm : PyData} (h : ∀ j, j < x.length → matOk x ds dm j = true) : badAt x ds dm = none := by
  unfold badAt
  rw [List.find?_eq_none]
  intro j hj
  rw [h j (List.mem_range.mp hj)]
  simp
theorem find_range (f : Nat → Bool) : ∀ (n i : Nat), i < n → f i = true → (∀ j, j < i → f j = false) → (List.range n).find? f = some i := by
  intro n
  induction n with
  | zero => intro i h; omega
  | succ n ih =>
    intro i h h1 h2
    rw [List.range_succ, List.find?_append]
    by_cases e : i < n
    · rw [ih i e h1 h2] <;> rfl
    · have e2 : i = n := by omega
      subst e2
      rw [List.find?_eq_none.mpr (fun j hj => by rw [h2 j (List.mem_range.mp hj)]; simp)]
      simp [h1]
theorem bad_some {x : Str} {ds dm : PyData} {i : Nat} (hi : i < x.length) (h : matOk x ds dm i = false) (h2 : ∀ j, j < i → matOk x ds dm j = true) : badAt x ds dm = some i := by
  unfold badAt
  exact find_range _ _ _ hi (by rw [h] <;> rfl) (fun j hj => by rw [h2 j hj] <;> rfl)
end Rw

set_option Elab.async false
set_option linter.all false
set_option maxRecDepth 100000
set_option maxHeartbeats 4000000
/-! TkI: a list held against [] by !=; len of an own object; what is due of a row. -/
namespace Rw
open PySem PySem.Spec PyProof.Rows L2
def rNilN : R2 := fun x y H Q => ∃ a b xs, x = .ref a ∧ y = .ref b ∧ H a = some (.lst xs) ∧ H b = some (.lst []) ∧ Q (.bl (!xs.isEmpty)) H
theorem op_ne_nil {X : Cx} (hu : X.A.units < cLine) : OpR X (compareOp .NotEq) rNilN := by
  intro pins s σ H x y v u Q I rx ry h
  obtain ⟨a, b, xs, rfl, rfl, ea, eb, q⟩ := h
  obtain rfl : v = Value.ref a := rx
  obtain rfl : u = Value.ref b := ry
  obtain ⟨its, ra, pa, _⟩ := I.list (SqL.of ea)
  obtain ⟨its2, rb, pb, _⟩ := I.list (SqL.of eb)
  cases rb
  have ln := ra.length
  cases xs with
  | nil =>
    cases ra
    exact SeqAt.RcNeAt.lists (e := fun _ => true) pa.isList pb.isList rfl hu (fun j h1 h2 => absurd h1 (Nat.not_lt_zero j)) X.prog X.w _ _ ⟨.bl false, H, I, rfl, q⟩
  | cons z zs =>
    refine SeqAt.RcNeAt.lists_lengths pa.isList pb.isList ?_ hu X.prog X.w _ _ ⟨.bl true, H, I, rfl, q⟩
    simp
    intro e
    rw [e] at ln
    cases ln
theorem len_own {prog : Program} {w : World} {A : Around} {E : Value → Shared → Prop} {s : Shared} {K : PySem.W.Frag} {x C f : Addr} {ox : Obj} {od : Option Obj} {Q : Value → Shared → Prop} (X : K.In s.heap) (I : PySem.W.InstAt s.heap x ox C od)
    (hs : PySem.W.findIn K (.ref C) "__len__" = some (some (.ref f))) (hf : PySem.W.isFn K (.ref f) = true)
    (h : wpAny (model prog w) A.in1 (call (.ref f) [.ref x]) (PySem.W.LenBack Q) E s) : wpAny (model prog w) A (call (.builtin "len") [.ref x]) Q E s := by
  refine Calls.call_function_entry kind_len plain_len entry_len (args_len1 _) ?_
  unfold Builtin.«len»
  refine wpAny_bind (m := oneArg "len" _) (wpAny_pure ?_)
  refine wpAny_bind (m := callSpecial? (.ref x) (Str.ofString "__len__")) (PySem.W.special_fn X I hs (beq_iff_eq.mp hf) (wpAny_mono h (fun r s' hr => ?_) fun _ _ y => y))
  cases r <;> first | exact hr.elim | skip
  rename_i n u
  obtain ⟨⟨h0, h1⟩, hq⟩ := hr
  refine wpAny_bind (wpAny_holding (wpAny_pure ?_))
  refine wpAny_bind (wpAny_letGo ?_)
  show wpAny _ _ (if n < 0 then _ else _) _ _ _
  rw [if_neg (by omega)]
  show wpAny _ _ (if n ≥ 2 ^ 63 then _ else _) _ _ _
  rw [if_neg (by omega)]
  exact wpAny_bind (wpAny_mkInt (wpAny_pure ⟨_, rfl, hq⟩))
/-- len(o) by an own __len__ that raises nothing -/
def rLenO (C : Addr) (sp : Sp) : List V → Hp → VK → Prop := fun xs H Q => ∃ a dx fs, xs = [.ref a] ∧ H a = some (.ins C dx fs) ∧ sp [.ref a] H (fun v H' => ∃ n : Int, v = .int n ∧ 0 ≤ n ∧ n < 2 ^ 63 ∧ Q (.int n) H') (fun _ _ _ => False)
theorem call_lenO {X : Cx} {k : Nat} {f C : Addr} {fd : FuncData} {sp : Sp} (hl : PySem.W.findIn X.K (.ref C) "__len__" = some (some (.ref f))) (hfn : PySem.W.isFn X.K (.ref f) = true) (F : FnOk X.prog X.w X.K X.mg X.base CX0 k f fd ["self"] sp) (hr : Room (k + 1) X.A) (hb : Binds X.K fd ["self"] []) :
    CallR X (.builtin "len") (rLenO C sp) := by
  intro pins s σ H xs us Q I r h
  obtain ⟨a, dx, fs, rfl, ea, h⟩ := h
  obtain ⟨u, rfl, ru⟩ := vals1 r
  obtain rfl : u = Value.ref a := ru
  obtain ⟨mA, O, _, _, _, _⟩ := ins_get I.hok ea
  obtain ⟨od, J, _⟩ := O.look
  refine len_own I.kIn J hl hfn (wpAny_call ?_)
  refine codeAny_mono (F.run X.A.in1 X.stack s H ⟨[.ref a], []⟩ [.ref a] [.ref a] _ _ hr.in1 I.env0.in1 (hb _ [.ref a] I.kIn rfl) (.cons rfl .nil) h) fun r s' hq => ?_
  cases r with
  | error er => exact hq.elim
  | ok fl =>
    cases fl with
    | ret u =>
      obtain ⟨v, H', I3, rv, n, rfl, n0, n1, q3⟩ := I.after hq
      obtain ⟨t, rfl⟩ := rv
      exact ⟨⟨n0, n1⟩, .int n, H', I3.tok _, ⟨_, rfl⟩, q3⟩
    | next => exact False.elim hq
    | brk => exact False.elim hq
    | cont => exact False.elim hq
/-! ### what is due of a row -/
def strD : PyData → Str
  | .str x => x | _ => Str.empty
def wD (x : Str) (d : PyData) : PyData := .list [.str x, d]
def rowDue (d0 d1 d2 d3 : PyData) : PyData :=
  if isPatD d0 = true then (if isPr d1 = true then (if sizesOk (strD d0).length d2 = true then (if mapsOk (strD d0).length d3 = true then (match badAt (strD d0) d2 d3 with | some i => wD "matrix" (atD d3 i) | none => wD "told" (.int ((strD d0).length + 1 : Nat))) else wD "maps" d3) else wD "sizes" d2) else wD "prime" d1) else wD "pattern" d0
def barsDue (d : PyData) : PyData := if isPatD d = true then wD "told" (.int ((barsL ((strD d).length + 1)).length : Nat)) else wD "pattern" d
/-- what a thing to make a row of must be for all to go well -/
structure RowFit (d0 d2 d3 : PyData) : Prop where
  sp : Short d0
  ls : (itemsD d2).length ≤ 1000
  fm : FitM d3
def spDueR : Sp := fun vs H Q _ => ∃ v d0 d1 d2 d3, vs = [v] ∧ Any H v (.list [d0, d1, d2, d3]) ∧ RowFit d0 d2 d3 ∧ ∀ l H', Same H H' → Any H' (.ref l) (rowDue d0 d1 d2 d3) → Q (.ref l) H'
def spSheetL : Sp := fun vs H Q _ => ∃ v d h w, vs = [v, .int h, .int w] ∧ Any H v d ∧ Fit d ∧ ∀ H', Same H H' → Q (.bl (isMatD h w d)) H'
def spBarsC : Sp := fun vs H Q _ => ∃ v d, vs = [v] ∧ Any H v d ∧ Short d ∧ ∀ l H', Same H H' → Any H' (.ref l) (barsDue d) → Q (.ref l) H'
def spMeasD : Sp := fun vs H Q _ => ∃ (x : Str) (va : V) (i : Nat) (ds : PyData), vs = [.str x, va, .int (i : Nat)] ∧ Any H va ds ∧ sizesOk x.length ds = true ∧ i < x.length ∧ x.length ≤ 6 ∧
  ∀ t H', H t = none → Same H H' → H' t = some (.tup [.int (szL ds (stA x i)), .int (szL ds (goA x i))]) → Q (.ref t) H'
theorem any_list4 {H : Hp} {v : V} {d0 d1 d2 d3 : PyData} (h : Any H v (.list [d0, d1, d2, d3])) : ∃ a v0 v1 v2 v3, v = .ref a ∧ H a = some (.lst [v0, v1, v2, v3]) ∧ Any H v0 d0 ∧ Any H v1 d1 ∧ Any H v2 d2 ∧ Any H v3 d3 := by
  cases h with
  | lst e al =>
    cases al with
    | cons a0 al =>
      cases al with
      | cons a1 al =>
        cases al with
        | cons a2 al =>
          cases al with
          | cons a3 al =>
            cases al
            exact ⟨_, _, _, _, _, rfl, e, a0, a1, a2, a3⟩
theorem nats_ok {ss : List Nat} {k : Nat} (l : ss.length = k + 1) (h : ∀ s, s ∈ ss → s ≤ 6) : sizesOk k (.list (ss.map natD)) = true := by
  unfold sizesOk
  rw [Bool.and_eq_true, Bool.and_eq_true]
  refine ⟨rfl, decide_eq_true (by show (ss.map natD).length = _; rw [List.length_map]; exact l), List.all_eq_true.mpr fun d hd => ?_⟩
  obtain ⟨s, hs, rfl⟩ := List.mem_map.mp hd
  have := h s hs
  show (decide ((0 : Int) ≤ (s : Nat)) && decide (((s : Nat) : Int) ≤ 6)) = true
  rw [Bool.and_eq_true]
  exact ⟨decide_eq_true (by omega), decide_eq_true (by omega)⟩
theorem nats_sz {ss : List Nat} {j : Nat} : szL (.list (ss.map natD)) j = ((ss[j]?.getD 0 : Nat) : Int) := by
  unfold szL atD
  show intN ((ss.map natD)[j]?.getD .none) = _
  rw [List.getElem?_map]
  cases ss[j]? <;> rfl
end Rw

set_option Elab.async false
set_option linter.all false
set_option maxRecDepth 100000
set_option maxHeartbeats 4000000
/-! TkJ: drafts make rows; own rows made, in a try's body and outside. -/
namespace Rw
open PySem PySem.Spec PyProof.Rows L2
theorem pair_any {H : Hp} {l : Addr} {x : Str} {v : V} {d : PyData} (hl : H l = none) (h : Any H v d) : Any (upd H l (.lst [.str x, v])) (.ref l) (.list [.str x, d]) := .lst upd_same (.cons (.str x) (.cons (h.keep (same_new hl)) .nil))
theorem fmod_id {e q : Int} (h0 : 0 ≤ e) (h1 : e < q) : e.fmod q = e := by
  rw [fmod_pos (by omega)]
  exact Int.emod_eq_of_lt h0 h1
theorem rows_id {q : Int} {h w : Nat} {m : List (List Int)} (k : MatOk q h w m) : rowsM q (sheetD m) = m.map tupI := by
  unfold rowsM
  show (m.map tupI).map (fun r => PyData.tuple ((itemsD r).map (modD q))) = _
  rw [List.map_map]
  refine List.map_congr_left fun r hr => ?_
  show PyData.tuple (((r.map PyData.int)).map (modD q)) = _
  rw [List.map_map]
  unfold tupI
  congr 1
  refine List.map_congr_left fun e he => ?_
  obtain ⟨h0, h1⟩ := (k.w r hr).2 e he
  show PyData.int (e.fmod q) = _
  rw [fmod_id h0 h1]
theorem mat_is {q : Int} {h w : Nat} {m : List (List Int)} (k : MatOk q h w m) : isMatD (h : Nat) (w : Nat) (sheetD m) = true := by
  unfold isMatD
  rw [Bool.and_eq_true, Bool.and_eq_true]
  refine ⟨rfl, decide_eq_true (by show (((m.map tupI).length : Nat) : Int) = _; rw [List.length_map, k.h]), List.all_eq_true.mpr fun d hd => ?_⟩
  obtain ⟨r, hr, rfl⟩ := List.mem_map.mp hd
  unfold isVecD
  rw [Bool.and_eq_true, Bool.and_eq_true]
  refine ⟨rfl, decide_eq_true (by show (((r.map PyData.int).length : Nat) : Int) = _; rw [List.length_map, (k.w r hr).1]), List.all_eq_true.mpr fun e he => ?_⟩
  obtain ⟨n, _, rfl⟩ := List.mem_map.mp he
  rfl
theorem draft_at {ms : List (List (List Int))} {i : Nat} {m : List (List Int)} (h : ms[i]? = some m) : atD (.list (ms.map sheetD)) i = sheetD m := atD_get (by
  show (ms.map sheetD)[i]? = _
  rw [List.getElem?_map, h] <;> rfl)
theorem draft_good {x : Str} {q : Int} {most : Nat} {ss : List Nat} {ms : List (List (List Int))} (d : Draft x q most ss ms) (px : Pat x 6) (hq : q ∈ primesL) (m6 : most ≤ 6) : rowGood x q (.list (ss.map natD)) (.list (ms.map sheetD)) = true := by
  unfold rowGood
  have e1 : isPatD (.str x) = true := by
    show (decide (x.length ≤ 6) && x.cps.toList.all isArr) = true
    rw [decide_eq_true px.l, px.a] <;> rfl
  have e2 : isPr (.int q) = true := decide_eq_true hq
  have e3 : mapsOk x.length (.list (ms.map sheetD)) = true := by
    unfold mapsOk
    rw [Bool.and_eq_true]
    exact ⟨rfl, decide_eq_true (by show (ms.map sheetD).length = _; rw [List.length_map, d.ml])⟩
  have e4 : badAt x (.list (ss.map natD)) (.list (ms.map sheetD)) = none := bad_none fun j hj => by
    have hj2 : j < ms.length := by rw [d.ml]; exact hj
    have h1 : ms[j]? = some ms[j] := List.getElem?_eq_getElem hj2
    unfold matOk
    rw [draft_at h1, nats_sz, nats_sz]
    exact mat_is (d.mo j _ h1)
  rw [e1, e2, nats_ok d.sl (fun s hs => Nat.le_trans (d.sb s hs) m6), e3, e4] <;> rfl
theorem draft_rows {x : Str} {q : Int} {most : Nat} {ss : List Nat} {ms : List (List (List Int))} (d : Draft x q most ss ms) : (itemsD (.list (ms.map sheetD))).map (rowsM q) = ms.map fun m => m.map tupI := by
  show (ms.map sheetD).map (rowsM q) = _
  rw [List.map_map]
  refine List.map_congr_left fun m hm => ?_
  obtain ⟨i, hi⟩ := List.getElem?_of_mem hm
  exact rows_id (d.mo i m hi)
theorem mat_small {q : Int} {h w : Nat} {m : List (List Int)} (k : MatOk q h w m) (hq : q ∈ primesL) (h6 : h ≤ 6) (w6 : w ≤ 6) : Fit (sheetD m) ∧ SheetT (sheetD m) := by
  have pp := prime_pos hq
  have cell : ∀ r, r ∈ m → ∀ d, d ∈ r.map PyData.int → Cell d := fun r hr d hd => by
    obtain ⟨e, he, rfl⟩ := List.mem_map.mp hd
    obtain ⟨h0, h1⟩ := (k.w r hr).2 e he
    exact cell_int (Nat.lt_of_le_of_lt (by omega : e.natAbs ≤ 13) (by decide))
  have lr : ∀ r, r ∈ m → (r.map PyData.int).length ≤ 6 := fun r hr => by rw [List.length_map, (k.w r hr).1]; exact w6
  have lm : (m.map tupI).length ≤ 6 := by rw [List.length_map, k.h]; exact h6
  have row : ∀ d, d ∈ m.map tupI → RowT d := fun d hd => by
    obtain ⟨r, hr, rfl⟩ := List.mem_map.mp hd
    exact ⟨tm_tup (lr r hr) fun d hd => (cell r hr d hd).tm, fit1_of (ds := r.map PyData.int) rfl (by have := lr r hr; omega) fun d hd => (cell r hr d hd).sm, rfl⟩
  have s := sheet_list lm row
  exact ⟨s.f, s⟩
theorem st_le {x : Str} {i : Nat} (h : i < x.length) : stA x i ≤ x.length := Nat.le_trans (stA_le x i) h
theorem get_le {ss : List Nat} {most : Nat} (h : ∀ s, s ∈ ss → s ≤ most) (j : Nat) : ss[j]?.getD 0 ≤ most := by
  cases e : ss[j]? with
  | none => exact Nat.zero_le _
  | some s => exact h s (List.mem_of_getElem? e)
theorem draft_sheet {x : Str} {q : Int} {most : Nat} {ss : List Nat} {ms : List (List (List Int))} (d : Draft x q most ss ms) (hq : q ∈ primesL) (m6 : most ≤ 6) : ∀ e, e ∈ ms.map sheetD → SheetT e := by
  intro e he
  obtain ⟨m, hm, rfl⟩ := List.mem_map.mp he
  obtain ⟨i, hi⟩ := List.getElem?_of_mem hm
  exact (mat_small (d.mo i m hi) hq (Nat.le_trans (get_le d.sb _) m6) (Nat.le_trans (get_le d.sb _) m6)).2
theorem draft_fitM {x : Str} {q : Int} {most : Nat} {ss : List Nat} {ms : List (List (List Int))} (d : Draft x q most ss ms) (px : Pat x 6) (hq : q ∈ primesL) (m6 : most ≤ 6) : FitM (.list (ms.map sheetD)) :=
  ⟨by show (ms.map sheetD).length ≤ _; rw [List.length_map, d.ml]; have := px.l; omega, fun e he => (draft_sheet d hq m6 e he).f⟩
theorem pat_short {x : Str} {m : Nat} (p : Pat x m) (h : m ≤ 6) : Short (.str x) := fun y e => by
  cases e
  have := p.l
  omega
/-! ### rows made -/
/-- the class of rows, its methods at hand -/
structure RowsAt (P : Program) (w : World) (K : PySem.W.Frag) (mg : Str → Option Value) (base : Heap) (C CT CP CZ CA CM : Addr) : Prop where
  g : mg "Row" = some (.ref C)
  cl : Cls K C
  ini : ∃ (f : Addr) (fd : FuncData), Mk K C f ∧ FnOk P w K mg base (L2.CX P w) 6 f fd ["self", "pattern", "prime", "sizes", "maps"] (spIniR C CT CP CZ CA CM) ∧ Binds K fd ["self", "pattern", "prime", "sizes", "maps"] []
section
variable {X : Cx} {C CT CP CZ CA CM : Addr} {p pos : Pos} {e : Expr} {es : List Expr} {t : TA}
def tRowS (C CT CP CZ CA CM : Addr) (W : WX) (t : TA) : TE := fun σ H Q => t σ H fun vs H1 => tRowMk C CT CP CZ CA CM H1 vs Q (fun cls d H' => W cls d σ H')
def tRowN (C CT CP CZ CA CM : Addr) (E : XK) (t : TA) : TE := fun σ H Q => t σ H fun vs H1 => tRowMk C CT CP CZ CA CM H1 vs Q E
theorem pe_rowS {W : WX} (R : RowsAt X.prog X.w X.K X.mg X.base C CT CP CZ CA CM) (hr : Room 7 X.A) (hx : ∀ σ, PassesAt (L2.CX X.prog X.w) X σ (fun cls d H' => W cls d σ H')) (ha : PA X (e :: es) t) (hg : Gl X "Row" := by rfl)
    (he : starEach (e :: es) X.env = (false, eval e X.env) :: starEach es X.env := by rfl) (hpl : (backTo pos (starEach es X.env)).any (·.1) = false := by rfl) : PE X (.Call (.Name "Row" p) (e :: es) [] pos) (tRowS C CT CP CZ CA CM W t) := by
  obtain ⟨f, fd, M, F, hb⟩ := R.ini
  refine ⟨fun pins s σ H Q I h => ?_⟩
  refine wpAny_Call_Name_kw (ld_glob I hg R.g ?_ (by decide))
  refine PySem.W.callWith_K (h₀ := X.base) I.ok.mod.kin M.kp (thn (ha.run pos pins s σ H _ I h) fun us s1 ⟨vs, H1, I1, r, q⟩ => ⟨I1.kIn, ?_⟩) he hpl
  exact run_makeS M F hr hb .nil hx I1 r (row_make q)
theorem pe_rowN {E : XK} (R : RowsAt X.prog X.w X.K X.mg X.base C CT CP CZ CA CM) (hr : Room 7 X.A) (hx : Passes (L2.CX X.prog X.w) X E) (ha : PA X (e :: es) t) (hg : Gl X "Row" := by rfl)
    (he : starEach (e :: es) X.env = (false, eval e X.env) :: starEach es X.env := by rfl) (hpl : (backTo pos (starEach es X.env)).any (·.1) = false := by rfl) : PE X (.Call (.Name "Row" p) (e :: es) [] pos) (tRowN C CT CP CZ CA CM E t) := by
  obtain ⟨f, fd, M, F, hb⟩ := R.ini
  refine ⟨fun pins s σ H Q I h => ?_⟩
  refine wpAny_Call_Name_kw (ld_glob I hg R.g ?_ (by decide))
  refine PySem.W.callWith_K (h₀ := X.base) I.ok.mod.kin M.kp (thn (ha.run pos pins s σ H _ I h) fun us s1 ⟨vs, H1, I1, r, q⟩ => ⟨I1.kIn, ?_⟩) he hpl
  exact run_make M F hr hb .nil hx I1 r (row_make q)
end
def spRowL (C : Addr) : Sp := fun vs H Q _ => ∃ v x q most ss ms, vs = [v] ∧ Any H v (draftD x q ss ms) ∧ Draft x q most ss ms ∧ Pat x 6 ∧ q ∈ primesL ∧ most ≤ 6 ∧
  ∀ a H', H a = none → Same H H' → RowAt C H' a x q (ss.map natD) (ms.map fun m => m.map tupI) → Q (.ref a) H'
/-- of data that is right nothing is refused -/
theorem good_parts {x : Str} {p : Int} {ds dm : PyData} (h : rowGood x p ds dm = true) : isPatD (.str x) = true ∧ isPr (.int p) = true ∧ sizesOk x.length ds = true ∧ mapsOk x.length dm = true ∧ badAt x ds dm = none := by
  unfold rowGood at h
  simp only [Bool.and_eq_true, Option.isNone_iff_eq_none] at h
  exact h
theorem good_err {x : Str} {p : Int} {vp vq va vm : V} {ds dm : PyData} {CT CP CZ CA CM : Addr} {H : Hp} {E : XK} (h : rowGood x p ds dm = true) : RowErr CT CP CZ CA CM H E vp vq va vm (.str x) (.int p) ds dm := by
  obtain ⟨h1, h2, h3, h4, h5⟩ := good_parts h
  refine ⟨fun z => (by rw [h1] at z; cases z), fun _ z => (by rw [h2] at z; cases z), fun y e _ _ z => ?_, fun y e _ _ _ z => ?_, fun y i v H1 e _ _ _ _ z => ?_⟩
  · cases e; rw [h3] at z; cases z
  · cases e; rw [h4] at z; cases z
  · cases e; rw [h5] at z; cases z
def spMatC (C : Addr) : Sp := fun vs H Q _ => ∃ a v d x p ss mm, vs = [.ref a, v] ∧ RowAt C H a x p ss mm ∧ Any H v d ∧ mm.length ≤ 1000 ∧ ∀ l H', Same H H' → Any H' (.ref l) (if inB d (.int 0) (.int ((mm.length : Nat) - 1 : Int)) = true then wD "told" (.list (mm[(intN d).toNat]?.getD [])) else wD "place" d) → Q (.ref l) H'
def spBarsN : Sp := fun vs H Q _ => ∃ x, vs = [.str x] ∧ x.length ≤ 6 ∧ ∀ l acc H', H l = none → Same H H' → H' l = some (.lst acc) → AnyL H' acc ((barsL (x.length + 1)).map barD) → Q (.ref l) H'
end Rw

set_option Elab.async false
set_option linter.all false
set_option maxRecDepth 100000
set_option maxHeartbeats 4000000
/-! TkBG: a tuple times any number of times. -/
namespace Rw
open PySem PySem.Spec PyProof.Rows L2
theorem tuple_mul1 (l : Addr) (items : Array Value) (n : Nat) (dd : Option Addr) (sl : Array (Option Value)) (u : Tok) (ne : items.isEmpty = false) :
    Meets (Builtin.«tuple.__mul__» ⟨[.ref l, .int 1 u], []⟩) (fun _ R s => s.heap.get? l = some { cls := .type "tuple", dict := dd, data := .seq items n, slots := sl } ∧ R (.ok (.ret (Value.ref l))) s) :=
  .of_wp fun prog w A R s h => by
    obtain ⟨hp, g, d, tk, os⟩ := s
    obtain ⟨hl, h⟩ := h
    have f1 := AutoSeq1.idx_int
    wp_walk using wpAny_loadPart' hl
    exact ⟨_, rfl, h⟩
theorem tuple_mul0 (l : Addr) (items : Array Value) (n : Nat) (dd : Option Addr) (sl : Array (Option Value)) (x : Int) (u : Tok) (c0 : (decide (x < -(2 ^ 63)) || decide (x ≥ 2 ^ 63)) = false) (c1 : (items.isEmpty || x == 1) = false) (c2 : (decide (x ≤ 0) || items.isEmpty) = true) :
    Meets (Builtin.«tuple.__mul__» ⟨[.ref l, .int x u], []⟩) (fun _ R s => s.heap.get? l = some { cls := .type "tuple", dict := dd, data := .seq items n, slots := sl } ∧
      R (.ok (.ret (Value.ref s.heap.objs.size))) { s with heap := s.heap.push { cls := Value.type "tuple", data := Data.seq #[] }, toks := s.toks }) :=
  .of_wp fun prog w A R s h => by
    obtain ⟨hp, g, d, tk, os⟩ := s
    obtain ⟨hl, h⟩ := h
    have f1 := AutoSeq1.idx_int
    wp_walk using wpAny_loadPart' hl
    repeat (first
      | (refine wpAny_ite_false (decide_eq_false (by rw [c0]; exact Bool.false_ne_true)) ?_; wp_walk using wpAny_loadPart' hl)
      | (refine wpAny_ite_false (decide_eq_false (by rw [c1]; exact Bool.false_ne_true)) ?_; wp_walk using wpAny_loadPart' hl)
      | (refine wpAny_ite_true (decide_eq_true (by rw [c2])) ?_; wp_walk using wpAny_loadPart' hl))
    exact ⟨_, rfl, h⟩
/-- a tuple with one item, so many times -/
def rRepO : R2 := fun x y H Q => ∃ (l : Addr) (k : Nat) (a : V), x = .ref l ∧ y = .int (k : Nat) ∧ H l = some (.tup [a]) ∧ k ≤ 1000 ∧ ∀ p H', Same H H' → H' p = some (.tup (List.replicate k a)) → Q (.ref p) H'
theorem op_repO {X : Cx} : OpR X (binaryOp .Mult) rRepO := by
  intro pins s σ H x y v u Q I rx ry h
  obtain ⟨l, k, a, rfl, rfl, hT0, hk, q⟩ := h
  have hT : SqT X.K H l [a] := SqT.of hT0
  by_cases k2 : 2 ≤ k
  · refine op_repT pins s σ H _ _ v u Q I rx ry ⟨l, (k : Nat), [a], rfl, rfl, hT, by simp, by omega, by omega, by show 1 ≤ 1000; decide, fun p hp => q p _ (same_new hp) ?_⟩
    rw [upd_same]
    have e : (List.replicate ((k : Nat) : Int).toNat [a]).flatten = List.replicate k a := by
      rw [Int.toNat_natCast]
      simp
    rw [e]
  cases rx
  obtain ⟨t, rfl⟩ := ry
  obtain ⟨its, r, ⟨⟨cls, dd, data, sl⟩, ho, hc, n, hd⟩, hs⟩ := I.tuple hT
  simp only at hc hd
  subst hc hd
  have hle : its.length = 1 := r.length.symm
  have hi : its.toArray.isEmpty = false := by
    cases its with
    | nil => cases hle
    | cons a b => rfl
  have c0 : (decide (((k : Nat) : Int) < -(2 ^ 63)) || decide (((k : Nat) : Int) ≥ 2 ^ 63)) = false := by
    rw [decide_eq_false (by omega), decide_eq_false (by omega)] <;> rfl
  by_cases k1 : k = 1
  · subst k1
    refine wpAny_binaryOp_repeat_ref (T := "tuple") (U := "int") (by decide) ⟨_, ho, rfl⟩ (fun s' => typeIs_int s' _ t) noFill_tuple_mul F.fills_int_mul F.slot_int_rmul repeat_tuple F.slot_int_index.lookup
      (call_meets F.slot_int_rmul (typeIs_int s _ t) F.entry_int_rmul (F.args_int_rmul_2 _ _) (int_rmul_tuple _ t l its.toArray n dd sl)
        ⟨ho, rfl, ⟨_, ho, rfl⟩, call_meets F.slot_tuple_mul ⟨_, ho, rfl⟩ F.entry_tuple_mul (F.args_tuple_mul_2 _ _) (tuple_mul1 l its.toArray n dd sl t hi) ⟨ho, ?_⟩⟩)
    exact ⟨.ref l, H, I, rfl, q l H (Same.refl _) hT0⟩
  · have k0 : k = 0 := by omega
    subst k0
    have c1 : (its.toArray.isEmpty || ((0 : Nat) : Int) == 1) = false := by rw [hi] <;> rfl
    have c2 : (decide (((0 : Nat) : Int) ≤ 0) || its.toArray.isEmpty) = true := by rw [decide_eq_true (by omega)] <;> rfl
    refine wpAny_binaryOp_repeat_ref (T := "tuple") (U := "int") (by decide) ⟨_, ho, rfl⟩ (fun s' => typeIs_int s' _ t) noFill_tuple_mul F.fills_int_mul F.slot_int_rmul repeat_tuple F.slot_int_index.lookup
      (call_meets F.slot_int_rmul (typeIs_int s _ t) F.entry_int_rmul (F.args_int_rmul_2 _ _) (int_rmul_tuple _ t l its.toArray n dd sl)
        ⟨ho, rfl, ⟨_, ho, rfl⟩, call_meets F.slot_tuple_mul ⟨_, ho, rfl⟩ F.entry_tuple_mul (F.args_tuple_mul_2 _ _) (tuple_mul0 l its.toArray n dd sl _ t c0 c1 c2) ⟨ho, ?_⟩⟩)
    refine ⟨.ref s.heap.objs.size, _, I.laid (t' := s.toks) (o := .tup []) (fun b ob q => Heap.get?_push_of_some _ q) (Nat.le_refl _) ?_, rfl, q _ _ (same_new (I.hok.fresh (Nat.le_refl _))) upd_same⟩
    exact ⟨by show 0 ≤ sizeLine; decide, _, .nil, IsTup.new _ _⟩
end Rw

set_option Elab.async false
set_option linter.all false
set_option maxRecDepth 100000
set_option maxHeartbeats 4000000
/-! TkBF: rows, read and joined: the promises. -/
namespace Rw
open PySem PySem.Spec PyProof.Rows L2
theorem ints_at {ns : List Int} {i : Nat} {v : V} (h : (ns.map V.int)[i]? = some v) : ∃ n, ns[i]? = some n ∧ v = .int n := by
  rw [List.getElem?_map] at h
  cases e : ns[i]? with
  | none => rw [e] at h; cases h
  | some n =>
    rw [e] at h
    exact ⟨n, rfl, (Option.some.inj h).symm⟩
theorem anyL_app {H : Hp} : ∀ {xs ys : List V} {ds es : List PyData}, AnyL H xs ds → AnyL H ys es → AnyL H (xs ++ ys) (ds ++ es)
  | _, _, _, _, .nil, b => b
  | _, _, _, _, .cons a r, b => .cons a (anyL_app r b)
def spGetP (C : Addr) : Sp := fun vs H Q _ => ∃ a x p ss mm, vs = [.ref a] ∧ RowAt C H a x p ss mm ∧ Q (.str x) H
def spGetQ (C : Addr) : Sp := fun vs H Q _ => ∃ a x p ss mm, vs = [.ref a] ∧ RowAt C H a x p ss mm ∧ Q (.int p) H
def spGetS (C : Addr) : Sp := fun vs H Q _ => ∃ a x p ss mm, vs = [.ref a] ∧ RowAt C H a x p ss mm ∧ ∀ ts, Any H (.ref ts) (.tuple ss) → Q (.ref ts) H
/-- a property of rows at hand -/
structure PropAt (P : Program) (w : World) (K : PySem.W.Frag) (mg : Str → Option Value) (base : Heap) (C : Addr) (f : Str) (sp : Sp) : Prop where
  cl : Cls K C
  has : ∃ (p g : Addr) (fd : FuncData), PropOf K C f p g ∧ FnOk P w K mg base CX0 1 g fd ["self"] sp ∧ Binds K fd ["self"] []
section
variable {X : Cx} {C : Addr} {f : Str} {sp : Sp} {e : Expr} {ta : TE} {pos : Pos}
theorem pass0n : Passes CX0 X.nox E0 := pass0
theorem pe_prp (A : PropAt X.prog X.w X.K X.mg X.base C f sp) (hr : Room 2 X.A) (he : PE X e ta) (hab : attributeBase e f X.env (eval e X.env) = eval e X.env := by rfl) : PE X (.Attribute e f pos) (tProp C sp [] E0 ta) := by
  obtain ⟨p, g, fd, hp, F, hb⟩ := A.has
  exact pe_prop he A.cl hp F hr hb .nil pass0n hab
end
/-- a method of rows that raises nothing, without arguments -/
structure Meth0At (P : Program) (w : World) (K : PySem.W.Frag) (mg : Str → Option Value) (base : Heap) (C : Addr) (m : Str) (k : Nat) (sp : Sp) : Prop where
  cl : Cls K C
  has : ∃ (f : Addr) (fd : FuncData), Meth K C m f ∧ FnOk P w K mg base CX0 k f fd ["self"] sp ∧ Binds K fd ["self"] []
/-- the first of some numbers above 6 -/
def spLow (K : PySem.W.Frag) (CG : Addr) : Sp := fun vs H Q E => ∃ (a : Addr) (ns : List Int), vs = [.ref a] ∧ SqL K H a (ns.map V.int) ∧ ns.length ≤ 1000 ∧ ((∀ (i : Nat) (n : Int), ns[i]? = some n → n ≤ 6) → Q .non H) ∧
  (∀ (i : Nat) (n : Int), ns[i]? = some n → 6 < n → (∀ (j : Nat) (m : Int), j < i → ns[j]? = some m → m ≤ 6) → Thrown CG (.int n) H E)
def spAlike (C CU : Addr) : Sp := fun vs H Q E => ∃ a b x p ss mm y q ts nn, vs = [.ref a, .ref b] ∧ RowAt C H a x p ss mm ∧ RowAt C H b y q ts nn ∧ (x = y → p = q → Q .non H) ∧ (¬(x = y ∧ p = q) → ThrownN CU H E)
/-- the rows of the one, zeros behind, and those of the other, zeros ahead -/
def besM (m1 m2 : List (List Int)) (w k : Nat) : List (List Int) := m1.map (fun r => r ++ List.replicate k 0) ++ m2.map (fun r => List.replicate w 0 ++ r)
def spBes : Sp := fun vs H Q _ => ∃ v1 v2 m1 m2 w k, vs = [v1, v2, .int (w : Nat), .int (k : Nat)] ∧ Any H v1 (.tuple (m1.map tupI)) ∧ Any H v2 (.tuple (m2.map tupI)) ∧ m1.length ≤ 6 ∧ m2.length ≤ 6 ∧ w ≤ 6 ∧ k ≤ 6 ∧ (∀ r, r ∈ m1 → r.length ≤ 6) ∧ (∀ r, r ∈ m2 → r.length ≤ 6) ∧
  ∀ l acc H', H l = none → Same H H' → H' l = some (.lst acc) → AnyL (del H' l) acc ((besM m1 m2 w k).map tupI) → Q (.ref l) H'
theorem cat_tup {K : PySem.W.Frag} {H : Hp} {a b : Addr} {xs ys : List V} {Q : VK} (ha : H a = some (.tup xs)) (hb : H b = some (.tup ys)) (hl : xs.length + ys.length ≤ 1000) (q : ∀ p H', Same H H' → H' p = some (.tup (xs ++ ys)) → Q (.ref p) H') : rCatA K (.ref a) (.ref b) H Q := by
  refine ⟨a, b, xs, ys, rfl, rfl, SqT.of ha, SqT.of hb, Nat.le_trans hl (by decide), fun e => q b H (Same.refl _) ?_, fun _ e => q a H (Same.refl _) ?_, fun _ _ p hp => q p _ (same_new hp) upd_same⟩
  · rw [e]; exact hb
  · rw [e, List.append_nil]; exact ha
theorem any_tupI {H : Hp} {v : V} {r : List Int} (h : Any H v (tupI r)) : ∃ p, v = .ref p ∧ H p = some (.tup (r.map V.int)) := by
  cases h with
  | tup e al => exact ⟨_, rfl, by rw [e, anyL_ints al]⟩
theorem tupI_any {H : Hp} {p : Addr} {r : List Int} (h : H p = some (.tup (r.map V.int))) : Any H (.ref p) (tupI r) := .tup h (ints_anyL r)
theorem rep_ints (k : Nat) : List.replicate k (V.int 0) = (List.replicate k (0 : Int)).map V.int := by simp
end Rw

set_option Elab.async false
set_option linter.all false
set_option maxRecDepth 100000
set_option maxHeartbeats 4000000
/-! TkBH: rows beside one another, parts of rows: the drafts and the promises. -/
namespace Rw
open PySem PySem.Spec PyProof.Rows L2
def sumS (ss ts : List Nat) : List Nat := (List.range ss.length).map fun i => ss[i]?.getD 0 + ts[i]?.getD 0
def besMs (x : Str) (ss ts : List Nat) (ms ns : List (List (List Int))) : List (List (List Int)) := (List.range x.length).map fun i => besM (ms[i]?.getD []) (ns[i]?.getD []) (ss[goA x i]?.getD 0) (ts[goA x i]?.getD 0)
theorem sumS_len (ss ts : List Nat) : (sumS ss ts).length = ss.length := by
  unfold sumS
  rw [List.length_map, List.length_range]
theorem sumS_at {ss ts : List Nat} {i : Nat} (h : i < ss.length) : (sumS ss ts)[i]? = some (ss[i]?.getD 0 + ts[i]?.getD 0) := by
  unfold sumS
  rw [List.getElem?_map, List.getElem?_range h] <;> rfl
theorem besMs_len (x : Str) (ss ts : List Nat) (ms ns : List (List (List Int))) : (besMs x ss ts ms ns).length = x.length := by
  unfold besMs
  rw [List.length_map, List.length_range]
theorem besMs_at {x : Str} {ss ts : List Nat} {ms ns : List (List (List Int))} {i : Nat} (h : i < x.length) : (besMs x ss ts ms ns)[i]? = some (besM (ms[i]?.getD []) (ns[i]?.getD []) (ss[goA x i]?.getD 0) (ts[goA x i]?.getD 0)) := by
  unfold besMs
  rw [List.getElem?_map, List.getElem?_range h] <;> rfl
theorem Draft.at_ {x : Str} {q : Int} {most : Nat} {ss : List Nat} {ms : List (List (List Int))} (d : Draft x q most ss ms) {i : Nat} (h : i < x.length) : MatOk q (ss[stA x i]?.getD 0) (ss[goA x i]?.getD 0) (ms[i]?.getD []) := by
  have h2 : i < ms.length := by rw [d.ml]; exact h
  have e : ms[i]? = some ms[i] := List.getElem?_eq_getElem h2
  rw [e]
  exact d.mo i _ e
theorem go_le {x : Str} {i : Nat} (h : i < x.length) : goA x i ≤ x.length := by
  unfold goA
  split <;> omega
theorem st_le2 {x : Str} {i : Nat} (h : i < x.length) : stA x i ≤ x.length := by
  unfold stA
  split <;> omega
theorem bes_ok {q : Int} {h1 h2 w k : Nat} {m1 m2 : List (List Int)} (q0 : 0 < q) (a : MatOk q h1 w m1) (b : MatOk q h2 k m2) : MatOk q (h1 + h2) (w + k) (besM m1 m2 w k) := by
  refine ⟨?_, fun r hr => ?_⟩
  · unfold besM
    rw [List.length_append, List.length_map, List.length_map, a.h, b.h]
  · unfold besM at hr
    rcases List.mem_append.mp hr with z | z
    · obtain ⟨r0, h0, rfl⟩ := List.mem_map.mp z
      obtain ⟨l0, i0⟩ := a.w r0 h0
      refine ⟨by rw [List.length_append, l0, List.length_replicate], fun e he => ?_⟩
      rcases List.mem_append.mp he with y | y
      · exact i0 e y
      · rw [List.eq_of_mem_replicate y]
        exact ⟨Int.le_refl _, q0⟩
    · obtain ⟨r0, h0, rfl⟩ := List.mem_map.mp z
      obtain ⟨l0, i0⟩ := b.w r0 h0
      refine ⟨by rw [List.length_append, l0, List.length_replicate], fun e he => ?_⟩
      rcases List.mem_append.mp he with y | y
      · rw [List.eq_of_mem_replicate y]
        exact ⟨Int.le_refl _, q0⟩
      · exact i0 e y
theorem sum_draft {x : Str} {q : Int} {m1 m2 : Nat} {ss ts : List Nat} {ms ns : List (List (List Int))} (a : Draft x q m1 ss ms) (b : Draft x q m2 ts ns) (hq : q ∈ primesL) (h : ∀ (i n : Nat), (sumS ss ts)[i]? = some n → n ≤ 6) : Draft x q 6 (sumS ss ts) (besMs x ss ts ms ns) := by
  have q0 : 0 < q := by have := prime_pos hq; omega
  refine ⟨by rw [sumS_len]; exact a.sl, fun s hs => ?_, besMs_len x ss ts ms ns, fun i m hm => ?_⟩
  · obtain ⟨i, hi⟩ := List.getElem?_of_mem hs
    exact h i s hi
  · have hi : i < x.length := by
      have := (List.getElem?_eq_some_iff.mp hm).1
      rw [besMs_len] at this
      exact this
    rw [besMs_at hi] at hm
    cases hm
    have g := go_le hi
    have t := st_le2 hi
    rw [sumS_at (by rw [a.sl]; omega), sumS_at (by rw [a.sl]; omega)]
    exact bes_ok q0 (a.at_ hi) (b.at_ hi)
theorem nat_vals {H : Hp} {xs : List V} {ss : List Nat} (h : AnyL H xs (ss.map natD)) : xs = ss.map fun s => V.int (s : Nat) := by
  have e : ss.map natD = (ss.map fun s => ((s : Nat) : Int)).map PyData.int := by
    rw [List.map_map]
    rfl
  rw [e] at h
  rw [anyL_ints h, List.map_map] <;> rfl
theorem nats_anyL {H : Hp} (ss : List Nat) : AnyL H (ss.map fun s => V.int (s : Nat)) (ss.map natD) := by
  have e : ss.map natD = (ss.map fun s => ((s : Nat) : Int)).map PyData.int := by
    rw [List.map_map]
    rfl
  have e2 : (ss.map fun s => V.int (s : Nat)) = (ss.map fun s => ((s : Nat) : Int)).map V.int := by
    rw [List.map_map]
    rfl
  rw [e, e2]
  exact ints_anyL _
/-- a row that a draft tells -/
abbrev RowOf (C : Addr) (H : Hp) (a : Addr) (x : Str) (q : Int) (ss : List Nat) (ms : List (List (List Int))) : Prop := RowAt C H a x q (ss.map natD) (ms.map fun m => m.map tupI)
structure Good (x : Str) (q : Int) (ss : List Nat) (ms : List (List (List Int))) : Prop where
  d : Draft x q 6 ss ms
  p : Pat x 6
  q : q ∈ primesL
def spAdd (C CU CG : Addr) : Sp := fun vs H Q E => ∃ a b x p ss ms y q ts ns, vs = [.ref a, .ref b] ∧ RowOf C H a x p ss ms ∧ RowOf C H b y q ts ns ∧ Good x p ss ms ∧ Good y q ts ns ∧ (¬(x = y ∧ p = q) → ThrownN CU H E) ∧
  (x = y → p = q → (∀ (i n : Nat) (H1 : Hp), (sumS ss ts)[i]? = some n → 6 < n → (∀ (j m : Nat), j < i → (sumS ss ts)[j]? = some m → m ≤ 6) → Same H H1 → Thrown CG (.int (n : Nat)) H1 E) ∧
    ((∀ (i n : Nat), (sumS ss ts)[i]? = some n → n ≤ 6) → ∀ o H', H o = none → Same H H' → RowOf C H' o x p (sumS ss ts) (besMs x ss ts ms ns) → Q (.ref o) H'))
end Rw

set_option Elab.async false
set_option linter.all false
set_option maxRecDepth 100000
set_option maxHeartbeats 4000000
/-! TkBI: parts of rows: the drafts. -/
namespace Rw
open PySem PySem.Spec PyProof.Rows L2
theorem str_len (x : Str) : x.cps.toList.length = x.length := by
  show x.cps.toList.length = x.cps.size
  exact Array.length_toList
theorem cut_list {x : Str} {i j : Nat} (h : i ≤ j) (hj : j ≤ x.length) : (cutS x (some (i : Nat)) (some (j : Nat))).cps.toList = (x.cps.toList.drop i).take (j - i) := by
  show (((x.cps.toList.drop (HT.sIx x.length 0 (some ((i : Nat) : Int)))).take (HT.sIx x.length x.length (some ((j : Nat) : Int)) - HT.sIx x.length 0 (some ((i : Nat) : Int)))).toArray).toList = _
  rw [HT.sIx_nat, HT.sIx_nat, Nat.min_eq_left hj, Nat.min_eq_left (show i ≤ x.length by omega)]
theorem cut_len {x : Str} {i j : Nat} (h : i ≤ j) (hj : j ≤ x.length) : (cutS x (some (i : Nat)) (some (j : Nat))).length = j - i := by
  rw [← str_len, cut_list h hj, List.length_take, List.length_drop, str_len]
  omega
theorem cut_isR {x : Str} {i j k : Nat} (h : i ≤ j) (hj : j ≤ x.length) (hk : k < j - i) : isR (cutS x (some (i : Nat)) (some (j : Nat))) k = isR x (i + k) := by
  unfold isR
  rw [cut_list h hj, List.getElem?_take, if_pos hk, List.getElem?_drop]
theorem cut_st {x : Str} {i j k : Nat} (h : i ≤ j) (hj : j ≤ x.length) (hk : k < j - i) : i + stA (cutS x (some (i : Nat)) (some (j : Nat))) k = stA x (i + k) := by
  unfold stA
  rw [cut_isR h hj hk]
  split <;> omega
theorem cut_go {x : Str} {i j k : Nat} (h : i ≤ j) (hj : j ≤ x.length) (hk : k < j - i) : i + goA (cutS x (some (i : Nat)) (some (j : Nat))) k = goA x (i + k) := by
  unfold goA
  rw [cut_isR h hj hk]
  split <;> omega
theorem cut_pat {x : Str} {m i j : Nat} (p : Pat x m) (h : i ≤ j) (hj : j ≤ x.length) : Pat (cutS x (some (i : Nat)) (some (j : Nat))) m := by
  refine ⟨by rw [cut_len h hj]; have := p.l; omega, ?_⟩
  rw [cut_list h hj]
  refine List.all_eq_true.mpr fun c hc => ?_
  exact List.all_eq_true.mp p.a c (List.mem_of_mem_drop (List.mem_of_mem_take hc))
theorem get_cut {α : Type} {l : List α} {i n k : Nat} (h : k < n) : ((l.drop i).take n)[k]? = l[i + k]? := by
  rw [List.getElem?_take, if_pos h, List.getElem?_drop]
theorem part_draft {x : Str} {q : Int} {most : Nat} {ss : List Nat} {ms : List (List (List Int))} {i j : Nat} (d : Draft x q most ss ms) (h : i ≤ j) (hj : j ≤ x.length) : Draft (cutS x (some (i : Nat)) (some (j : Nat))) q most ((ss.drop i).take (j + 1 - i)) ((ms.drop i).take (j - i)) := by
  have l1 := d.sl
  have l2 := d.ml
  refine ⟨by rw [List.length_take, List.length_drop, cut_len h hj]; omega, fun s hs => d.sb s (List.mem_of_mem_drop (List.mem_of_mem_take hs)), by rw [List.length_take, List.length_drop, cut_len h hj]; omega, fun k m hm => ?_⟩
  have hk : k < j - i := by
    have := (List.getElem?_eq_some_iff.mp hm).1
    rw [List.length_take] at this
    omega
  rw [get_cut hk] at hm
  have ok := d.mo (i + k) m hm
  have s1 := cut_st h hj hk
  have g1 := cut_go h hj hk
  have s2 : stA (cutS x (some (i : Nat)) (some (j : Nat))) k ≤ k + 1 := stA_le _ _
  have g2 : goA (cutS x (some (i : Nat)) (some (j : Nat))) k ≤ k + 1 := goA_le _ _
  rw [get_cut (by omega), get_cut (by omega), s1, g1]
  exact ok
/-- a row's data as tuples -/
def tupM (m : List (List Int)) : PyData := .tuple (m.map tupI)
theorem mat_isT {q : Int} {h w : Nat} {m : List (List Int)} (k : MatOk q h w m) : isMatD (h : Nat) (w : Nat) (tupM m) = true := by
  have e := mat_is k
  unfold isMatD at e ⊢
  rw [Bool.and_eq_true] at e ⊢
  exact ⟨rfl, e.2⟩
theorem draft_goodT {x : Str} {q : Int} {most : Nat} {ss : List Nat} {ms : List (List (List Int))} (d : Draft x q most ss ms) (px : Pat x 6) (hq : q ∈ primesL) (m6 : most ≤ 6) : rowGood x q (.tuple (ss.map natD)) (.tuple (ms.map tupM)) = true := by
  have g := good_parts (draft_good d px hq m6)
  obtain ⟨g1, g2, g3, g4, g5⟩ := g
  unfold rowGood
  rw [g1, g2]
  have e3 : sizesOk x.length (.tuple (ss.map natD)) = true := by
    unfold sizesOk at g3 ⊢
    rw [Bool.and_eq_true] at g3 ⊢
    exact ⟨rfl, g3.2⟩
  have e4 : mapsOk x.length (.tuple (ms.map tupM)) = true := by
    unfold mapsOk
    rw [Bool.and_eq_true]
    exact ⟨rfl, decide_eq_true (by show (ms.map tupM).length = _; rw [List.length_map, d.ml])⟩
  have e5 : badAt x (.tuple (ss.map natD)) (.tuple (ms.map tupM)) = none := bad_none fun k hk => by
    have hk2 : k < ms.length := by rw [d.ml]; exact hk
    have h1 : ms[k]? = some ms[k] := List.getElem?_eq_getElem hk2
    have h2 : atD (.tuple (ms.map tupM)) k = tupM ms[k] := atD_get (by
      show (ms.map tupM)[k]? = _
      rw [List.getElem?_map, h1] <;> rfl)
    unfold matOk
    have n1 : ∀ u, szL (.tuple (ss.map natD)) u = szL (.list (ss.map natD)) u := fun u => rfl
    rw [h2, n1, n1, nats_sz, nats_sz]
    exact mat_isT (d.mo k _ h1)
  rw [e3, e4, e5] <;> rfl
theorem draft_rowsT {x : Str} {q : Int} {most : Nat} {ss : List Nat} {ms : List (List (List Int))} (d : Draft x q most ss ms) : (itemsD (.tuple (ms.map tupM))).map (rowsM q) = ms.map fun m => m.map tupI := by
  have e := draft_rows d
  rw [← e]
  show (ms.map tupM).map (rowsM q) = (ms.map sheetD).map (rowsM q)
  rw [List.map_map, List.map_map]
  rfl
theorem draft_fitT {x : Str} {q : Int} {most : Nat} {ss : List Nat} {ms : List (List (List Int))} (d : Draft x q most ss ms) (px : Pat x 6) (hq : q ∈ primesL) (m6 : most ≤ 6) : FitM (.tuple (ms.map tupM)) := by
  have f := draft_fitM d px hq m6
  refine ⟨by show (ms.map tupM).length ≤ _; rw [List.length_map, d.ml]; have := px.l; omega, fun e he => ?_⟩
  obtain ⟨m, hm, rfl⟩ := List.mem_map.mp he
  have g := f.sub (sheetD m) (List.mem_map_of_mem hm)
  exact ⟨⟨g.top.len, g.top.sm⟩, g.sub⟩
def spPart (C CL : Addr) : Sp := fun vs H Q E => ∃ a x p ss ms v1 v2 d1 d2, vs = [.ref a, v1, v2] ∧ RowOf C H a x p ss ms ∧ Good x p ss ms ∧ Any H v1 d1 ∧ Any H v2 d2 ∧
  (inB d1 (.int 0) (.int (x.length : Nat)) = false → Thrown CL v1 H E) ∧ (inB d1 (.int 0) (.int (x.length : Nat)) = true → inB d2 d1 (.int (x.length : Nat)) = false → Thrown CL v2 H E) ∧
  (∀ i j : Nat, d1 = .int (i : Nat) → d2 = .int (j : Nat) → i ≤ j → j ≤ x.length → ∀ o H', H o = none → Same H H' → RowOf C H' o (cutS x (some (i : Nat)) (some (j : Nat))) p ((ss.drop i).take (j + 1 - i)) ((ms.drop i).take (j - i)) → Q (.ref o) H')
/-- a slice of a tuple -/
theorem cut_tup {K : PySem.W.Frag} {H : Hp} {a : Addr} {xs : List V} {i j : Nat} {Q : VK} (h : H a = some (.tup xs)) (hi : i ≤ j) (hj : j ≤ xs.length) (q : ∀ p H', Same H H' → H' p = some (.tup ((xs.drop i).take (j - i))) → Q (.ref p) H') : rSlA K (.ref a) (some (i : Nat)) (some (j : Nat)) H Q := by
  have e1 : HT.sIx xs.length 0 (some ((i : Nat) : Int)) = i := by rw [HT.sIx_nat, Nat.min_eq_left (by omega)]
  have e2 : HT.sIx xs.length xs.length (some ((j : Nat) : Int)) = j := by rw [HT.sIx_nat, Nat.min_eq_left hj]
  refine ⟨a, xs, rfl, SqT.of h, fun e => q a H (Same.refl _) ?_, fun _ p hp => q p _ (same_new hp) ?_⟩
  · rw [e1, e2] at e
    obtain ⟨z1, z2⟩ := e
    rw [h, z1, z2]
    simp
  · rw [upd_same]
    unfold cutV
    rw [e1, e2]
theorem anyL_cut {H : Hp} : ∀ {xs : List V} {ds : List PyData}, AnyL H xs ds → ∀ (i n : Nat), AnyL H ((xs.drop i).take n) ((ds.drop i).take n)
  | _, _, .nil, i, n => by simp; exact .nil
  | _, _, .cons a r, 0, 0 => .nil
  | _, _, .cons a r, 0, n + 1 => .cons a (by have := anyL_cut r 0 n; simpa using this)
  | _, _, .cons a r, i + 1, n => anyL_cut r i n
theorem inB_nat {d : PyData} {lo hi : Nat} (h : inB d (.int (lo : Nat)) (.int (hi : Nat)) = true) : ∃ n : Nat, d = .int (n : Nat) ∧ lo ≤ n ∧ n ≤ hi := by
  cases d with
  | int n =>
    have h2 : (decide (((lo : Nat) : Int) ≤ n) && decide (n ≤ ((hi : Nat) : Int))) = true := h
    simp only [Bool.and_eq_true, decide_eq_true_eq] at h2
    exact ⟨n.toNat, by congr 1; omega, by omega, by omega⟩
  | _ => cases h
end Rw

set_option Elab.async false
set_option linter.all false
set_option maxRecDepth 100000
set_option maxHeartbeats 4000000
/-! TkBJ: what the law wishes of rows beside one another and of parts. -/
namespace Rw
open PySem PySem.Spec PyProof.Rows L2
def partD (x : Str) (q : Int) (ss : List Nat) (ms : List (List (List Int))) (d1 d2 : PyData) : PyData :=
  if inB d1 (.int 0) (.int (x.length : Nat)) = true then (if inB d2 d1 (.int (x.length : Nat)) = true then
    wD "told" (draftD (cutS x (some (intN d1)) (some (intN d2))) q ((ss.drop (intN d1).toNat).take ((intN d2).toNat + 1 - (intN d1).toNat)) ((ms.drop (intN d1).toNat).take ((intN d2).toNat - (intN d1).toNat))) else wD "place" d2) else wD "place" d1
def besD (x : Str) (p : Int) (ss : List Nat) (ms : List (List (List Int))) (y : Str) (q : Int) (ts : List Nat) (ns : List (List (List Int))) : PyData :=
  if x = y ∧ p = q then (match (sumS ss ts).find? (fun n => decide (6 < n)) with | some n => wD "large" (natD n) | none => wD "told" (draftD x p (sumS ss ts) (besMs x ss ts ms ns))) else .list [.str "unlike"]
def spShown (C : Addr) : Sp := fun vs H Q _ => ∃ a x q ss ms, vs = [.ref a] ∧ RowOf C H a x q ss ms ∧ ms.length ≤ 1000 ∧ ∀ l H', H l = none → Same H H' → Any H' (.ref l) (draftD x q ss ms) → Q (.ref l) H'
def spPartL : Sp := fun vs H Q _ => ∃ v v1 v2 d1 d2 x q ss ms, vs = [v, v1, v2] ∧ Any H v (draftD x q ss ms) ∧ Good x q ss ms ∧ Any H v1 d1 ∧ Any H v2 d2 ∧ ∀ l H', Same H H' → Any H' (.ref l) (partD x q ss ms d1 d2) → Q (.ref l) H'
def spCut (C : Addr) : Sp := fun vs H Q _ => ∃ a v1 v2 d1 d2 x q ss ms, vs = [.ref a, v1, v2] ∧ RowOf C H a x q ss ms ∧ Good x q ss ms ∧ Any H v1 d1 ∧ Any H v2 d2 ∧ ∀ l H', Same H H' → Any H' (.ref l) (partD x q ss ms d1 d2) → Q (.ref l) H'
def spBesL : Sp := fun vs H Q _ => ∃ v1 v2 x p ss ms y q ts ns, vs = [v1, v2] ∧ Any H v1 (draftD x p ss ms) ∧ Any H v2 (draftD y q ts ns) ∧ Good x p ss ms ∧ Good y q ts ns ∧ ∀ l H', Same H H' → Any H' (.ref l) (besD x p ss ms y q ts ns) → Q (.ref l) H'
def spBesC (C : Addr) : Sp := fun vs H Q _ => ∃ a b x p ss ms y q ts ns, vs = [.ref a, .ref b] ∧ RowOf C H a x p ss ms ∧ RowOf C H b y q ts ns ∧ Good x p ss ms ∧ Good y q ts ns ∧ ∀ l H', Same H H' → Any H' (.ref l) (besD x p ss ms y q ts ns) → Q (.ref l) H'
section
variable {X : Cx} {C : Addr} {m : Str} {k : Nat} {sp : Sp} {o : Expr} {ta : TE} {apos pos : Pos}
theorem pe_mth0 (A : Meth0At X.prog X.w X.K X.mg X.base C m k sp) (hr : Room k X.A) (he : PE X o ta) {pl : Sem Bool}
    (ht : eval (.Call (.Attribute o m apos) [] [] pos) X.env = (do
      let ov ← eval o X.env
      standAt apos.atName
      let (f, first) ← holding [ov] (getMethod ov m pl)
      callWith pos f first (backTo pos (starEach [] X.env)) (backToKw pos (keywordEach [] X.env))) := by rfl) : PE X (.Call (.Attribute o m apos) [] [] pos) (tMeth C m sp [] E0 ta tNil) := by
  obtain ⟨f, fd, hm, F, hb⟩ := A.has
  exact pe_meth0 he A.cl hm F hr hb .nil pass0 ht
end
theorem inB_no {d l h : PyData} (e : isIntD d = false) : inB d l h = false := by
  cases d with
  | int n => cases e
  | _ => rfl
theorem find_low {l : List Nat} {i n : Nat} (h : l[i]? = some n) (hn : 6 < n) (lo : ∀ (j m : Nat), j < i → l[j]? = some m → m ≤ 6) : l.find? (fun n => decide (6 < n)) = some n := by
  induction l generalizing i with
  | nil => cases h
  | cons a l ih =>
    cases i with
    | zero =>
      have e : a = n := by simpa using h
      subst e
      rw [List.find?_cons, decide_eq_true hn]
    | succ i =>
      have a6 := lo 0 a (Nat.succ_pos _) rfl
      rw [List.find?_cons, decide_eq_false (by omega)]
      exact ih (by simpa using h) fun j m hj hm => lo (j + 1) m (by omega) (by simpa using hm)
theorem find_none {l : List Nat} (h : ∀ (i n : Nat), l[i]? = some n → n ≤ 6) : l.find? (fun n => decide (6 < n)) = none := by
  rw [List.find?_eq_none]
  intro n hn
  obtain ⟨i, hi⟩ := List.getElem?_of_mem hn
  have := h i n hi
  simp
  omega
end Rw

set_option Elab.async false
set_option linter.all false
set_option maxRecDepth 100000
set_option maxHeartbeats 4000000
/-! TkO: sheets under way. -/
namespace Rw
open PySem PySem.Spec PyProof.Rows L2
/-- the rows of a new sheet: new lists of small ints, each another -/
structure RowsOk (H0 H : Hp) (A : Addr) (xs : List V) (rs : List (List Int)) : Prop where
  len : xs.length = rs.length
  row : ∀ (i : Nat) (r : List Int), rs[i]? = some r → ∃ b : Addr, xs[i]? = some (.ref b) ∧ H b = some (.lst (r.map V.int)) ∧ H0 b = none ∧ b ≠ A
  inj : ∀ (i j : Nat) (b : Addr), xs[i]? = some (.ref b) → xs[j]? = some (.ref b) → i = j
  wide : ∀ r, r ∈ rs → r.length ≤ 4 ∧ ∀ n, n ∈ r → n.natAbs ≤ 100
/-- a new list at A with new rows of any kind -/
structure Gen (H Hn : Hp) (p A : Addr) (c : Nat) : Prop where
  g : Grow p H Hn
  bx : Bx Hn p c
  new : H A = none
  ex : ∃ xs ds, Hn A = some (.lst xs) ∧ AnyL (del (nw H Hn) A) xs ds ∧ ds.length ≤ 5 ∧ ∀ d, d ∈ ds → RowT d
structure Shp (H Hn : Hp) (p A : Addr) (c hi wi : Nat) : Prop where
  g : Grow p H Hn
  bx : Bx Hn p c
  new : H A = none
  ex : ∃ xs rs, Hn A = some (.lst xs) ∧ RowsOk H Hn A xs rs ∧ rs.length = hi ∧ hi ≤ 4 ∧ ∀ r, r ∈ rs → r.length = wi
theorem anyL_all {H : Hp} : ∀ {xs : List V} {ds : List PyData}, xs.length = ds.length → (∀ (i : Nat) (x : V) (d : PyData), xs[i]? = some x → ds[i]? = some d → Any H x d) → AnyL H xs ds
  | [], [], _, _ => .nil
  | x :: xs, d :: ds, l, h => .cons (h 0 x d rfl rfl) (anyL_all (by simpa using l) fun i x d e1 e2 => h (i + 1) x d (by simpa using e1) (by simpa using e2))
theorem nw_at {H Hn : Hp} {b : Addr} {o : HO} (h0 : H b = none) (h : Hn b = some o) : nw H Hn b = some o := by
  show (if H b = none then Hn b else none) = _
  rw [if_pos h0]
  exact h
theorem ints_row {H : Hp} {b : Addr} {r : List Int} (h : H b = some (.lst (r.map V.int))) : Any H (.ref b) (.list (r.map .int)) := .lst h (ints_anyL r)
theorem row_ints {r : List Int} (h : r.length ≤ 4 ∧ ∀ n, n ∈ r → n.natAbs ≤ 100) : RowT (.list (r.map .int)) := row_list (by rw [List.length_map]; omega) (by
  intro d hd
  obtain ⟨n, hn, rfl⟩ := List.mem_map.mp hd
  exact cell_int (Nat.lt_of_le_of_lt (h.2 n hn) (by decide)))
theorem Shp.gen {H Hn : Hp} {p A : Addr} {c hi wi : Nat} (s : Shp H Hn p A c hi wi) : Gen H Hn p A c := by
  obtain ⟨xs, rs, ha, ok, l1, l2, l3⟩ := s.ex
  refine ⟨s.g, s.bx, s.new, xs, rs.map (fun r => .list (r.map .int)), ha, ?_, by rw [List.length_map]; omega, ?_⟩
  · refine anyL_all (by rw [List.length_map]; exact ok.len) fun i x d e1 e2 => ?_
    rw [List.getElem?_map] at e2
    cases e3 : rs[i]? with
    | none => rw [e3] at e2; cases e2
    | some r =>
      rw [e3] at e2
      cases e2
      obtain ⟨b, h1, h2, h3, h4⟩ := ok.row i r e3
      rw [e1] at h1
      cases h1
      refine ints_row ?_
      rw [del_ne h4]
      exact nw_at h3 h2
  · intro d hd
    obtain ⟨r, hr, rfl⟩ := List.mem_map.mp hd
    exact row_ints (ok.wide r hr)
theorem Gen.more {H Hn : Hp} {p A : Addr} {c e : Nat} (s : Gen H Hn p A c) (l : c ≤ e) : Gen H Hn p A e := ⟨s.g, s.bx.more l, s.new, s.ex⟩
theorem Gen.pA {H Hn : Hp} {p A : Addr} {c n : Nat} (s : Gen H Hn p A c) (b : Bx H p n) : p ≠ A := b.ne s.new
/-- only the box has turned, and new things have come -/
theorem Gen.grow {H Hn H2 : Hp} {p A : Addr} {c e n : Nat} (s : Gen H Hn p A c) (b0 : Bx H p n) (k : Grow p Hn H2) (b : Bx H2 p e) : Gen H H2 p A e := by
  obtain ⟨xs, ds, ha, al, l, r⟩ := s.ex
  obtain ⟨_, _, _, hp, _⟩ := id b0
  refine ⟨s.g.trans k, b, s.new, xs, ds, k _ _ (b0.ne s.new).symm ha, anyL_keep ?_ al, l, r⟩
  exact Grow.del (Grow.of (nw_grow hp k))
theorem Shp.grow {H Hn H2 : Hp} {p A : Addr} {c e n hi wi : Nat} (s : Shp H Hn p A c hi wi) (b0 : Bx H p n) (k : Grow p Hn H2) (b : Bx H2 p e) : Shp H H2 p A e hi wi := by
  obtain ⟨xs, rs, ha, ok, l1, l2, l3⟩ := s.ex
  refine ⟨s.g.trans k, b, s.new, xs, rs, k _ _ (b0.ne s.new).symm ha, ⟨ok.len, fun i r e => ?_, ok.inj, ok.wide⟩, l1, l2, l3⟩
  obtain ⟨q, h1, h2, h3, h4⟩ := ok.row i r e
  exact ⟨q, h1, k _ _ (b0.ne h3).symm h2, h3, h4⟩
/-- new in the later is new in the whole -/
theorem nw_from {H Hn H2 : Hp} {p : Addr} {n : Nat} (b0 : Bx Hn p n) (g : Grow p H Hn) : Same (nw Hn H2) (nw H H2) := fun b o e => by
  have e' : (if Hn b = none then H2 b else none) = some o := e
  by_cases z : Hn b = none
  · rw [if_pos z] at e'
    refine nw_at ?_ e'
    cases y : H b with
    | none => rfl
    | some u =>
      by_cases w : b = p
      · obtain ⟨_, _, _, hp, _⟩ := b0
        rw [w, hp] at z
        cases z
      · rw [g _ _ w y] at z
        cases z
  · rw [if_neg z] at e'
    cases e'
theorem anyL_set {H : Hp} : ∀ {xs : List V} {ds : List PyData} {j : Nat} {v : V} {d : PyData}, AnyL H xs ds → Any H v d → AnyL H (xs.set j v) (ds.set j d)
  | _, _, _, _, _, .nil, _ => .nil
  | _, _, 0, _, _, .cons _ r, a => .cons a r
  | _, _, j + 1, _, _, .cons b r, a => .cons b (anyL_set r a)
theorem mem_set {α : Type} {ds : List α} {j : Nat} {d e : α} (h : e ∈ ds.set j d) : e = d ∨ e ∈ ds := by
  rcases List.mem_or_eq_of_mem_set h with z | z
  · exact .inr z
  · exact .inl z
/-- an item of the list at A is set to a thing that is new since -/
theorem Gen.put {H Hn H2 : Hp} {p A : Addr} {c e n : Nat} (s : Gen H Hn p A c) (b0 : Bx H p n) (k : Grow p Hn H2) (b : Bx H2 p e) {v : V} {d : PyData} (a : Any (nw Hn H2) v d) (r : RowT d) :
    ∃ xs, H2 A = some (.lst xs) ∧ ∀ j, Gen H (upd H2 A (.lst (xs.set j v))) p A e := by
  obtain ⟨xs, ds, ha, al, l, rr⟩ := s.ex
  have pA := b0.ne s.new
  refine ⟨xs, k _ _ pA.symm ha, fun j => ?_⟩
  have new := s.new
  obtain ⟨x1, x2, x3, hp, _⟩ := id b0
  have s2 : Same (del (nw H Hn) A) (del (nw H (upd H2 A (.lst (xs.set j v)))) A) := fun q o eo => by
    by_cases y : q = A
    · rw [y, del_same] at eo
      cases eo
    · rw [del_ne y] at eo ⊢
      have e2 := nw_grow hp k _ _ eo
      have e3 : H q = none := by
        cases w : H q with
        | none => rfl
        | some u =>
          have e4 : (if H q = none then Hn q else none) = some o := eo
          rw [if_neg (by rw [w]; exact fun z => by cases z)] at e4
          cases e4
      refine nw_at e3 ?_
      rw [upd_ne y]
      have e5 : (if H q = none then H2 q else none) = some o := e2
      rw [if_pos e3] at e5
      exact e5
  have s3 : Same (nw Hn H2) (del (nw H (upd H2 A (.lst (xs.set j v)))) A) := fun q o eo => by
    have y : q ≠ A := fun y => by
      have e4 : (if Hn q = none then H2 q else none) = some o := eo
      rw [if_neg (by rw [y, ha]; exact fun z => by cases z)] at e4
      cases e4
    have e1 := nw_from s.bx s.g _ _ eo
    rw [del_ne y]
    have e3 : H q = none := by
      cases w : H q with
      | none => rfl
      | some u =>
        have e4 : (if H q = none then H2 q else none) = some o := e1
        rw [if_neg (by rw [w]; exact fun z => by cases z)] at e4
        cases e4
    refine nw_at e3 ?_
    rw [upd_ne y]
    have e5 : (if H q = none then H2 q else none) = some o := e1
    rw [if_pos e3] at e5
    exact e5
  refine ⟨?_, ?_, new, xs.set j v, ds.set j d, upd_same, anyL_set (anyL_keep s2 al) (a.keep s3), by rw [List.length_set]; exact l, fun d' hd => ?_⟩
  · intro q o ne eo
    rw [upd_ne (ne_of_none eo new)]
    exact (s.g.trans k) q o ne eo
  · obtain ⟨a1, a2, a3, h1, rest⟩ := b
    exact ⟨a1, a2, a3, by rw [upd_ne pA]; exact h1, rest⟩
  · rcases mem_set hd with z | z
    · rw [z]; exact r
    · exact rr d' z
/-- a new row behind the others -/
theorem Gen.snoc {H Hn H2 : Hp} {p A : Addr} {c e n : Nat} (s : Gen H Hn p A c) (b0 : Bx H p n) (k : Grow p Hn H2) (b : Bx H2 p e) {q : Addr} {r : List Int} (hq : Hn q = none) (h2 : H2 q = some (.lst (r.map V.int))) (rr : RowT (.list (r.map .int))) (few : ∀ xs, H2 A = some (.lst xs) → xs.length ≤ 4) :
    ∃ xs, H2 A = some (.lst xs) ∧ Gen H (upd H2 A (.lst (xs ++ [.ref q]))) p A e := by
  obtain ⟨xs, ds, ha, al, l, r0⟩ := s.ex
  have pA := b0.ne s.new
  have ha2 := k _ _ pA.symm ha
  have l4 := few xs ha2
  have ln := anyL_len al
  obtain ⟨x1, x2, x3, hp, _⟩ := id b0
  have new := s.new
  have q0 : H q = none := by
    cases y : H q with
    | none => rfl
    | some u =>
      obtain ⟨y1, y2, y3, hp2, _⟩ := s.bx
      by_cases w : q = p
      · rw [w, hp2] at hq
        cases hq
      · rw [s.g _ _ w y] at hq
        cases hq
  have qA : q ≠ A := fun y => by rw [y, ha] at hq; cases hq
  have s2 : Same (del (nw H Hn) A) (del (nw H (upd H2 A (.lst (xs ++ [.ref q])))) A) := fun z o eo => by
    by_cases y : z = A
    · rw [y, del_same] at eo
      cases eo
    · rw [del_ne y] at eo ⊢
      have e3 : H z = none := by
        cases w : H z with
        | none => rfl
        | some u =>
          have e4 : (if H z = none then Hn z else none) = some o := eo
          rw [if_neg (by rw [w]; exact fun z => by cases z)] at e4
          cases e4
      have e2 := nw_grow hp k _ _ eo
      refine nw_at e3 ?_
      rw [upd_ne y]
      have e5 : (if H z = none then H2 z else none) = some o := e2
      rw [if_pos e3] at e5
      exact e5
  refine ⟨xs, ha2, ?_, ?_, new, xs ++ [.ref q], ds ++ [.list (r.map .int)], upd_same, anyL_snoc (anyL_keep s2 al) (ints_row ?_), by rw [List.length_append, List.length_singleton]; omega, fun d hd => ?_⟩
  · intro z o ne eo
    rw [upd_ne (ne_of_none eo new)]
    exact (s.g.trans k) z o ne eo
  · obtain ⟨a1, a2, a3, h1, rest⟩ := b
    exact ⟨a1, a2, a3, by rw [upd_ne pA]; exact h1, rest⟩
  · rw [del_ne qA]
    refine nw_at q0 ?_
    rw [upd_ne qA]
    exact h2
  · rcases List.mem_append.mp hd with z | z
    · exact r0 d z
    · rw [List.mem_singleton.mp z]
      exact rr
/-- an item of a row is set to a thing that is new since -/
theorem Shp.cell {H Hn H2 : Hp} {p A : Addr} {c e n hi wi : Nat} (s : Shp H Hn p A c hi wi) (b0 : Bx H p n) (k : Grow p Hn H2) (b : Bx H2 p e) {v : V} {d : PyData} (a : Any (nw Hn H2) v d) (cd : Cell d) {i : Nat} (hi2 : i < hi) :
    ∃ (xs : List V) (q : Addr) (r : List Int), H2 A = some (.lst xs) ∧ xs[i]? = some (.ref q) ∧ H2 q = some (.lst (r.map V.int)) ∧ r.length = wi ∧ ∀ j, Gen H (upd H2 q (.lst ((r.map V.int).set j v))) p A e := by
  obtain ⟨xs, rs, ha, ok, l1, l2, l3⟩ := s.ex
  have hlt : i < rs.length := by omega
  obtain ⟨q, h1, h2, h3, h4⟩ := ok.row i rs[i] (List.getElem?_eq_getElem hlt)
  have hm : rs[i] ∈ rs := List.getElem_mem hlt
  have pA := b0.ne s.new
  have pq := b0.ne h3
  have new := s.new
  obtain ⟨x1, x2, x3, hp, _⟩ := id b0
  have ha2 := k _ _ pA.symm ha
  refine ⟨xs, q, rs[i], ha2, h1, k _ _ pq.symm h2, l3 _ hm, fun j => ?_⟩
  have s3 : Same (nw Hn H2) (del (nw H (upd H2 q (.lst ((rs[i].map V.int).set j v)))) A) := fun z o eo => by
    have off : ∀ {w : Addr} {u : HO}, Hn w = some u → z ≠ w := fun e y => by
      have e4 : (if Hn z = none then H2 z else none) = some o := eo
      rw [if_neg (by rw [y, e]; exact fun z => by cases z)] at e4
      cases e4
    have e1 := nw_from s.bx s.g _ _ eo
    rw [del_ne (off ha)]
    have e3 : H z = none := by
      cases w : H z with
      | none => rfl
      | some u =>
        have e4 : (if H z = none then H2 z else none) = some o := e1
        rw [if_neg (by rw [w]; exact fun z => by cases z)] at e4
        cases e4
    refine nw_at e3 ?_
    rw [upd_ne (off h2)]
    have e5 : (if H z = none then H2 z else none) = some o := e1
    rw [if_pos e3] at e5
    exact e5
  have inner : AnyL (del (nw H (upd H2 q (.lst ((rs[i].map V.int).set j v)))) A) ((rs[i].map V.int).set j v) ((rs[i].map PyData.int).set j d) := anyL_set (ints_anyL _) (a.keep s3)
  refine ⟨?_, ?_, new, xs, (rs.map (fun r => PyData.list (r.map .int))).set i (.list ((rs[i].map PyData.int).set j d)), ?_, ?_, by rw [List.length_set, List.length_map]; omega, fun e' he => ?_⟩
  · intro z o ne eo
    rw [upd_ne (ne_of_none eo h3)]
    exact (s.g.trans k) z o ne eo
  · obtain ⟨a1, a2, a3, h1, rest⟩ := b
    exact ⟨a1, a2, a3, by rw [upd_ne pq]; exact h1, rest⟩
  · rw [upd_ne h4.symm]
    exact ha2
  · refine anyL_all (by rw [List.length_set, List.length_map]; exact ok.len) fun t x dd e1 e2 => ?_
    by_cases y : t = i
    · subst y
      rw [h1] at e1
      cases e1
      rw [List.getElem?_set_self (by rw [List.length_map]; exact hlt)] at e2
      cases e2
      refine .lst ?_ inner
      rw [del_ne h4]
      refine nw_at h3 ?_
      exact upd_same
    · rw [List.getElem?_set_ne (fun z => y z.symm), List.getElem?_map] at e2
      cases e3 : rs[t]? with
      | none => rw [e3] at e2; cases e2
      | some r =>
        rw [e3] at e2
        cases e2
        obtain ⟨w, g1, g2, g3, g4⟩ := ok.row t r e3
        rw [e1] at g1
        cases g1
        refine ints_row ?_
        rw [del_ne g4]
        refine nw_at g3 ?_
        have wq : w ≠ q := fun z => y (ok.inj t i w e1 (by rw [z]; exact h1))
        rw [upd_ne wq]
        exact k _ _ (b0.ne g3).symm g2
  · rcases mem_set he with z | z
    · rw [z]
      have wide := ok.wide _ hm
      refine row_list (by rw [List.length_set, List.length_map]; omega) fun x hx => ?_
      rcases mem_set hx with y | y
      · rw [y]; exact cd
      · obtain ⟨n, hn, rfl⟩ := List.mem_map.mp y
        exact cell_int (Nat.lt_of_le_of_lt (wide.2 n hn) (by decide))
    · obtain ⟨r, hr, rfl⟩ := List.mem_map.mp z
      exact row_ints (ok.wide r hr)
theorem anyL_drop {H : Hp} : ∀ {xs : List V} {ds : List PyData} (j : Nat), AnyL H xs ds → AnyL H (xs.drop j) (ds.drop j)
  | _, _, 0, h => h
  | _, _, _ + 1, .nil => .nil
  | _, _, j + 1, .cons _ r => anyL_drop j r
theorem anyL_take {H : Hp} : ∀ {xs : List V} {ds : List PyData} (j : Nat), AnyL H xs ds → AnyL H (xs.take j) (ds.take j)
  | _, _, 0, _ => .nil
  | _, _, _ + 1, .nil => .nil
  | _, _, j + 1, .cons a r => .cons a (anyL_take j r)
/-- one row more -/
theorem Shp.snoc {H Hn H2 : Hp} {p A : Addr} {c e n i wi : Nat} (s : Shp H Hn p A c i wi) (b0 : Bx H p n) (k : Grow p Hn H2) (b : Bx H2 p e) {q : Addr} {r : List Int} (hq : Hn q = none) (h2 : H2 q = some (.lst (r.map V.int))) (rl : r.length = wi) (w4 : wi ≤ 4) (sm : ∀ n, n ∈ r → n.natAbs ≤ 100) (l4 : i + 1 ≤ 4) :
    ∃ xs, H2 A = some (.lst xs) ∧ xs.length = i ∧ Shp H (upd H2 A (.lst (xs ++ [.ref q]))) p A e (i + 1) wi := by
  obtain ⟨xs, rs, ha, ok, l1, l2, l3⟩ := s.ex
  have pA := b0.ne s.new
  have ha2 := k _ _ pA.symm ha
  have new := s.new
  have qA : q ≠ A := fun y => by rw [y, ha] at hq; cases hq
  have q0 : H q = none := by
    cases y : H q with
    | none => rfl
    | some u =>
      obtain ⟨y1, y2, y3, hp2, _⟩ := s.bx
      by_cases w : q = p
      · rw [w, hp2] at hq
        cases hq
      · rw [s.g _ _ w y] at hq
        cases hq
  have ln := ok.len
  have in_old : ∀ (t : Nat) (z : Addr), (xs ++ [V.ref q])[t]? = some (.ref z) → (xs[t]? = some (.ref z) ∧ z ≠ q) ∨ (t = xs.length ∧ z = q) := by
    intro t z e1
    by_cases y : t < xs.length
    · rw [List.getElem?_append_left y] at e1
      refine .inl ⟨e1, fun zq => ?_⟩
      have y2 : t < rs.length := by omega
      obtain ⟨w, g1, g2, g3, g4⟩ := ok.row t rs[t] (List.getElem?_eq_getElem y2)
      rw [e1] at g1
      cases g1
      rw [zq, hq] at g2
      cases g2
    · rw [List.getElem?_append_right (by omega)] at e1
      have e3 : t - xs.length = 0 := by
        cases y3 : t - xs.length with
        | zero => rfl
        | succ m => rw [y3] at e1; simp at e1
      rw [e3] at e1
      refine .inr ⟨by omega, ?_⟩
      have e4 : V.ref q = V.ref z := Option.some.inj e1
      injection e4 with e5
      exact e5.symm
  refine ⟨xs, ha2, by omega, ?_, ?_, new, xs ++ [.ref q], rs ++ [r], upd_same, ⟨by rw [List.length_append, List.length_append, ln] <;> rfl, ?_, ?_, ?_⟩, by rw [List.length_append, l1] <;> rfl, l4, ?_⟩
  · intro z o ne eo
    rw [upd_ne (ne_of_none eo new)]
    exact (s.g.trans k) z o ne eo
  · obtain ⟨a1, a2, a3, h1, rest⟩ := b
    exact ⟨a1, a2, a3, by rw [upd_ne pA]; exact h1, rest⟩
  · intro t r' e1
    by_cases y : t < rs.length
    · rw [List.getElem?_append_left y] at e1
      obtain ⟨w, g1, g2, g3, g4⟩ := ok.row t r' e1
      refine ⟨w, by rw [List.getElem?_append_left (by omega)]; exact g1, ?_, g3, g4⟩
      rw [upd_ne g4]
      exact k _ _ (b0.ne g3).symm g2
    · rw [List.getElem?_append_right (by omega)] at e1
      have e3 : t - rs.length = 0 := by
        cases y3 : t - rs.length with
        | zero => rfl
        | succ m => rw [y3] at e1; simp at e1
      rw [e3] at e1
      have e4 : r = r' := Option.some.inj e1
      subst e4
      have e5 : t = xs.length := by omega
      refine ⟨q, by rw [e5, List.getElem?_append_right (Nat.le_refl _), Nat.sub_self] <;> rfl, ?_, q0, qA⟩
      rw [upd_ne qA]
      exact h2
  · intro t t' z e1 e2
    rcases in_old t z e1 with ⟨a1, a2⟩ | ⟨a1, a2⟩
    · rcases in_old t' z e2 with ⟨b1, b2⟩ | ⟨b1, b2⟩
      · exact ok.inj t t' z a1 b1
      · exact absurd b2 a2
    · rcases in_old t' z e2 with ⟨b1, b2⟩ | ⟨b1, b2⟩
      · exact absurd a2 b2
      · omega
  · intro r' hr
    rcases List.mem_append.mp hr with z | z
    · exact ok.wide r' z
    · rw [List.mem_singleton.mp z]
      exact ⟨by omega, sm⟩
  · intro r' hr
    rcases List.mem_append.mp hr with z | z
    · exact l3 r' z
    · rw [List.mem_singleton.mp z]
      exact rl
end Rw

set_option Elab.async false
set_option linter.all false
set_option maxRecDepth 100000
set_option maxHeartbeats 4000000
/-! TkK: sheets that are bent; things to make rows of. -/
namespace Rw
open PySem PySem.Spec PyProof.Rows L2
theorem ixn {n j : Nat} (hj : j < n) : ixN n (j : Int) = some j := by
  unfold ixN
  rw [if_pos (by omega), if_pos (by omega)]
  simp
theorem fresh_of {H H1 : Hp} {p q : Addr} {c : Nat} (g : Grow p H H1) (bx : Bx H1 p c) (hq : H1 q = none) : H q = none := by
  cases y : H q with
  | none => rfl
  | some u =>
    obtain ⟨y1, y2, y3, hp2, _⟩ := bx
    by_cases w : q = p
    · rw [w, hp2] at hq
      cases hq
    · rw [g _ _ w y] at hq
      cases hq
def spBentS : Sp := fun vs H Q _ => ∃ (p : Addr) (v : V) (n h w : Nat) (q : Int) (m : List (List Int)), vs = [.ref p, v] ∧ Any (del H p) v (sheetD m) ∧ MatOk q h w m ∧ q ∈ primesL ∧ h ≤ 4 ∧ w ≤ 4 ∧ Bx H p n ∧ n ≤ 900000 ∧ ∀ v d H', SheetT d → Any (nw H H') v d → Grow p H H' → Bx H' p (n + 100) → Q v H'
end Rw
namespace Rw
open PySem PySem.Spec PyProof.Rows L2
/-! ### things to make rows of -/
def off (p F : Addr) (H : Hp) : Hp := del (del H p) F
theorem off_same {p F : Addr} {H H' : Hp} (k : ∀ b o, b ≠ p → b ≠ F → H b = some o → H' b = some o) : Same (off p F H) (off p F H') := fun b o e => by
  unfold off at e ⊢
  by_cases y1 : b = F
  · rw [y1, del_same] at e; cases e
  · rw [del_ne y1] at e ⊢
    by_cases y2 : b = p
    · rw [y2, del_same] at e; cases e
    · rw [del_ne y2] at e ⊢
      exact k b o y2 y1 e
theorem off_sub {p F : Addr} {H : Hp} : Same (off p F H) H := same_del.trans same_del
theorem off_subp {p F : Addr} {H : Hp} : Same (off p F H) (del H p) := same_del
theorem nw_off {p F : Addr} {H H' : Hp} (hp : H p ≠ none) (hF : H F ≠ none) : Same (nw H H') (off p F H') := fun b o e => by
  have e2 : (if H b = none then H' b else none) = some o := e
  split at e2
  · rename_i h
    unfold off
    rw [del_ne (fun z => hF (by rw [← z]; exact h)), del_ne (fun z => hp (by rw [← z]; exact h))]
    exact e2
  · cases e2
structure StrT (d : PyData) : Prop where
  tm : Tq 0 d
  sh : Short d
structure SizT (k : Nat) (d : PyData) : Prop where
  tm : Tq 1 d
  l : (itemsD d).length ≤ k
  c : ∀ e, e ∈ itemsD d → Cell e
structure MapT (k : Nat) (d : PyData) : Prop where
  tm : Tq 3 d
  l : (itemsD d).length ≤ k
  c : ∀ e, e ∈ itemsD d → SheetT e
theorem SizT.up {k m : Nat} {d : PyData} (s : SizT k d) (h : k ≤ m) : SizT m d := ⟨s.tm, Nat.le_trans s.l h, s.c⟩
theorem MapT.up {k m : Nat} {d : PyData} (s : MapT k d) (h : k ≤ m) : MapT m d := ⟨s.tm, Nat.le_trans s.l h, s.c⟩
theorem siz_list {k : Nat} {ds : List PyData} (h : k ≤ 12) (l : ds.length ≤ k) (c : ∀ e, e ∈ ds → Cell e) : SizT k (.list ds) := ⟨tq_list (by omega) fun d hd => (c d hd).tm.q, l, c⟩
theorem map_list {k : Nat} {ds : List PyData} (h : k ≤ 12) (l : ds.length ≤ k) (c : ∀ e, e ∈ ds → SheetT e) : MapT k (.list ds) := ⟨tq_list (by omega) fun d hd => (c d hd).tm.q, l, c⟩
theorem odd_one : ∀ d ∈ oddL, (itemsD d).length ≤ 1 := by
  intro d hd
  unfold oddL at hd
  simp only [List.mem_cons, List.not_mem_nil, or_false] at hd
  rcases hd with z | z | z | z | z | z | z | z | z | z | z | z | z | z | z | z <;> subst z <;> simp [itemsD]
theorem odd_str {d : PyData} (h : d ∈ oddL) : StrT d := ⟨(odd_cell d h).tm.q, odd_short d h⟩
theorem odd_siz {d : PyData} (h : d ∈ oddL) {k : Nat} (hk : 1 ≤ k) : SizT k d := ⟨(odd_cell d h).tm.q.up (by decide), Nat.le_trans (odd_one d h) hk, fun e he => (odd_items d h e he).1⟩
theorem odd_map {d : PyData} (h : d ∈ oddL) {k : Nat} (hk : 1 ≤ k) : MapT k d := ⟨(odd_cell d h).tm.q.up (by decide), Nat.le_trans (odd_one d h) hk, fun e he => (odd_items d h e he).2⟩
structure Fnd (H Hn : Hp) (p F : Addr) (c a b : Nat) : Prop where
  g : Grow p H Hn
  bx : Bx Hn p c
  new : H F = none
  ex : ∃ u0 u1 u2 u3 d0 d1 d2 d3, Hn F = some (.lst [u0, u1, u2, u3]) ∧ Any (off p F Hn) u0 d0 ∧ Any (off p F Hn) u1 d1 ∧ Any (off p F Hn) u2 d2 ∧ Any (off p F Hn) u3 d3 ∧ StrT d0 ∧ Tq 0 d1 ∧ SizT a d2 ∧ MapT b d3
theorem Fnd.grow {H Hn H2 : Hp} {p F : Addr} {c e n a b : Nat} (s : Fnd H Hn p F c a b) (b0 : Bx H p n) (k : Grow p Hn H2) (bx : Bx H2 p e) : Fnd H H2 p F e a b := by
  obtain ⟨u0, u1, u2, u3, d0, d1, d2, d3, hF, a0, a1, a2, a3, r⟩ := s.ex
  have pF := b0.ne s.new
  have kk : Same (off p F Hn) (off p F H2) := off_same fun x o n1 n2 ex => k x o n1 ex
  exact ⟨s.g.trans k, bx, s.new, u0, u1, u2, u3, d0, d1, d2, d3, k _ _ pF.symm hF, a0.keep kk, a1.keep kk, a2.keep kk, a3.keep kk, r⟩
theorem Fnd.more {H Hn : Hp} {p F : Addr} {c e a b a' b' : Nat} (s : Fnd H Hn p F c a b) (h : c ≤ e) (ha : a ≤ a') (hb : b ≤ b') : Fnd H Hn p F e a' b' := by
  obtain ⟨u0, u1, u2, u3, d0, d1, d2, d3, hF, a0, a1, a2, a3, r0, r1, r2, r3⟩ := s.ex
  exact ⟨s.g, s.bx.more h, s.new, u0, u1, u2, u3, d0, d1, d2, d3, hF, a0, a1, a2, a3, r0, r1, r2.up ha, r3.up hb⟩
/-- the list is written anew -/
theorem Fnd.put {H Hn : Hp} {p F : Addr} {c n a b : Nat} (g : Grow p H Hn) (bx : Bx Hn p c) (new : H F = none) (b0 : Bx H p n) {u0 u1 u2 u3 : V} {d0 d1 d2 d3 : PyData} (a0 : Any (off p F Hn) u0 d0) (a1 : Any (off p F Hn) u1 d1) (a2 : Any (off p F Hn) u2 d2) (a3 : Any (off p F Hn) u3 d3)
    (r0 : StrT d0) (r1 : Tq 0 d1) (r2 : SizT a d2) (r3 : MapT b d3) : Fnd H (upd Hn F (.lst [u0, u1, u2, u3])) p F c a b := by
  have pF := b0.ne new
  have kk : Same (off p F Hn) (off p F (upd Hn F (.lst [u0, u1, u2, u3]))) := off_same fun x o n1 n2 ex => by rw [upd_ne n2]; exact ex
  refine ⟨fun x o n1 ex => ?_, ?_, new, u0, u1, u2, u3, d0, d1, d2, d3, upd_same, a0.keep kk, a1.keep kk, a2.keep kk, a3.keep kk, r0, r1, r2, r3⟩
  · rw [upd_ne (ne_of_none ex new)]
    exact g x o n1 ex
  · obtain ⟨c1, c2, c3, h1, rest⟩ := bx
    exact ⟨c1, c2, c3, by rw [upd_ne pF]; exact h1, rest⟩
structure ThingT (d : PyData) : Prop where
  ex : ∃ d0 d1 d2 d3, d = .list [d0, d1, d2, d3] ∧ StrT d0 ∧ Tq 0 d1 ∧ SizT 7 d2 ∧ MapT 6 d3
def spBent : Sp := fun vs H Q _ => ∃ (p : Addr) (v : V) (n : Nat) (x : Str) (q : Int) (ss : List Nat) (ms : List (List (List Int))), vs = [.ref p, v] ∧ Any (del H p) v (draftD x q ss ms) ∧ Draft x q 3 ss ms ∧ Pat x 4 ∧ q ∈ primesL ∧ Bx H p n ∧ n ≤ 800000 ∧
  ∀ v' d H', ThingT d → Any (del H' p) v' d → Grow p H H' → Bx H' p (n + 1000) → Q v' H'
theorem op_mul_str {X : Cx} : OpR X (binaryOp .Mult) (fun x y H Q => ∃ z n, x = .str z ∧ y = .int n ∧ PySem.MulOk z n ∧ Q (.str (Txt.mul z n)) H) := by
  intro pins s σ H x y v u Q I rx ry h
  obtain ⟨z, n, rfl, rfl, ok, q⟩ := h
  obtain ⟨t, rfl⟩ := rx
  obtain ⟨t', rfl⟩ := ry
  exact PySem.SB.mul ok fun t' k => ⟨.str _, H, I.tok _, ⟨_, rfl⟩, q⟩
end Rw

set_option Elab.async false
set_option linter.all false
set_option maxRecDepth 100000
set_option maxHeartbeats 4000000
/-! TkKb: the four parts of a thing, one exchanged. -/
namespace Rw
open PySem PySem.Spec PyProof.Rows L2
theorem off_from {H Hn : Hp} {p F : Addr} (new : H F = none) (g : Grow p H Hn) : Same (del H p) (off p F Hn) := fun b o e => by
  unfold off
  by_cases y : b = p
  · rw [y, del_same] at e; cases e
  · rw [del_ne y] at e
    have n2 : b ≠ F := ne_of_none e new
    rw [del_ne n2, del_ne y]
    exact g b o y e
/-- what was there stays, when a new list is written -/
theorem off_put {H1 H3 : Hp} {p F L : Addr} {o : HO} (hL : H1 L = none) (k : ∀ x u, x ≠ p → x ≠ F → H1 x = some u → H3 x = some u) : Same (off p F H1) (off p F (upd H3 L o)) := off_same fun x u n1 n2 ex => by
  rw [upd_ne (ne_of_none ex hL)]
  exact k x u n1 n2 ex
theorem nw_offput {H H' : Hp} {p F L : Addr} {o : HO} (hp : H p ≠ none) (hF : H F ≠ none) (hL : H L ≠ none) : Same (nw H H') (off p F (upd H' L o)) := fun b u e => by
  have e2 : (if H b = none then H' b else none) = some u := e
  split at e2
  · rename_i h
    unfold off
    rw [del_ne (fun z => hF (by rw [← z]; exact h)), del_ne (fun z => hp (by rw [← z]; exact h)), upd_ne (fun z => hL (by rw [← z]; exact h))]
    exact e2
  · cases e2
theorem Bx.some {H : Hp} {p : Addr} {n : Nat} (b : Bx H p n) : H p ≠ none := by
  obtain ⟨_, _, _, h, _⟩ := b
  rw [h]
  exact fun z => by cases z
section
variable {H Hn : Hp} {p F : Addr} {c n a b : Nat}
theorem Fnd.here (s : Fnd H Hn p F c a b) : Hn F ≠ none := by
  obtain ⟨u0, u1, u2, u3, d0, d1, d2, d3, hF, _⟩ := s.ex
  rw [hF]
  exact fun z => by cases z
theorem Fnd.odd (s : Fnd H Hn p F c a b) (b0 : Bx H p n) (ha : 1 ≤ a) (hb : 1 ≤ b) {v : V} {d : PyData} (hd : d ∈ oddL) (an : Any (off p F Hn) v d) {j : Nat} (hj : j < 4) : ∃ us, Hn F = some (.lst us) ∧ us.length = 4 ∧ Fnd H (upd Hn F (.lst (us.set j v))) p F c a b := by
  obtain ⟨u0, u1, u2, u3, d0, d1, d2, d3, hF, a0, a1, a2, a3, r0, r1, r2, r3⟩ := s.ex
  refine ⟨_, hF, rfl, ?_⟩
  rcases (by omega : j = 0 ∨ j = 1 ∨ j = 2 ∨ j = 3) with e | e | e | e <;> subst e
  · exact Fnd.put s.g s.bx s.new b0 an a1 a2 a3 (odd_str hd) r1 r2 r3
  · exact Fnd.put s.g s.bx s.new b0 a0 an a2 a3 r0 (odd_cell d hd).tm.q r2 r3
  · exact Fnd.put s.g s.bx s.new b0 a0 a1 an a3 r0 r1 (odd_siz hd ha) r3
  · exact Fnd.put s.g s.bx s.new b0 a0 a1 a2 an r0 r1 r2 (odd_map hd hb)
theorem Fnd.str (s : Fnd H Hn p F c a b) (b0 : Bx H p n) {v : V} {d : PyData} (r : StrT d) (an : Any (off p F Hn) v d) : ∃ us, Hn F = some (.lst us) ∧ us.length = 4 ∧ Fnd H (upd Hn F (.lst (us.set 0 v))) p F c a b := by
  obtain ⟨u0, u1, u2, u3, d0, d1, d2, d3, hF, a0, a1, a2, a3, r0, r1, r2, r3⟩ := s.ex
  exact ⟨_, hF, rfl, Fnd.put s.g s.bx s.new b0 an a1 a2 a3 r r1 r2 r3⟩
theorem Fnd.siz (s : Fnd H Hn p F c a b) (b0 : Bx H p n) {v : V} {d : PyData} {a' : Nat} (r : SizT a' d) (an : Any (off p F Hn) v d) : ∃ us, Hn F = some (.lst us) ∧ us.length = 4 ∧ Fnd H (upd Hn F (.lst (us.set 2 v))) p F c a' b := by
  obtain ⟨u0, u1, u2, u3, d0, d1, d2, d3, hF, a0, a1, a2, a3, r0, r1, r2, r3⟩ := s.ex
  exact ⟨_, hF, rfl, Fnd.put s.g s.bx s.new b0 a0 a1 an a3 r0 r1 r r3⟩
theorem Fnd.map (s : Fnd H Hn p F c a b) (b0 : Bx H p n) {v : V} {d : PyData} {b' : Nat} (r : MapT b' d) (an : Any (off p F Hn) v d) : ∃ us, Hn F = some (.lst us) ∧ us.length = 4 ∧ Fnd H (upd Hn F (.lst (us.set 3 v))) p F c a b' := by
  obtain ⟨u0, u1, u2, u3, d0, d1, d2, d3, hF, a0, a1, a2, a3, r0, r1, r2, r3⟩ := s.ex
  exact ⟨_, hF, rfl, Fnd.put s.g s.bx s.new b0 a0 a1 a2 an r0 r1 r2 r⟩
theorem Fnd.at2 (s : Fnd H Hn p F c a b) : ∃ us u d, Hn F = some (.lst us) ∧ us.length = 4 ∧ us[2]? = some u ∧ Any (off p F Hn) u d ∧ SizT a d := by
  obtain ⟨u0, u1, u2, u3, d0, d1, d2, d3, hF, a0, a1, a2, a3, r0, r1, r2, r3⟩ := s.ex
  exact ⟨_, _, _, hF, rfl, rfl, a2, r2⟩
theorem Fnd.at3 (s : Fnd H Hn p F c a b) : ∃ us u d, Hn F = some (.lst us) ∧ us.length = 4 ∧ us[3]? = some u ∧ Any (off p F Hn) u d ∧ MapT b d := by
  obtain ⟨u0, u1, u2, u3, d0, d1, d2, d3, hF, a0, a1, a2, a3, r0, r1, r2, r3⟩ := s.ex
  exact ⟨_, _, _, hF, rfl, rfl, a3, r3⟩
/-- the new list in the place of the sizes is written -/
theorem Fnd.in2 (s : Fnd H Hn p F c a b) (b0 : Bx H p n) {us zs : List V} {ds : List PyData} {L : Addr} {H3 : Hp} {e a' : Nat} (hF : Hn F = some (.lst us)) (hL : Hn L = none) (k : ∀ x o, x ≠ p → x ≠ F → Hn x = some o → H3 x = some o)
    (h3 : H3 F = some (.lst (us.set 2 (.ref L)))) (bx : Bx H3 p e) (al : AnyL (off p F (upd H3 L (.lst zs))) zs ds) (r : SizT a' (.list ds)) : Fnd H (upd H3 L (.lst zs)) p F e a' b := by
  obtain ⟨u0, u1, u2, u3, d0, d1, d2, d3, hF', a0, a1, a2, a3, r0, r1, r2, r3⟩ := s.ex
  rw [hF] at hF'
  cases hF'
  have LF : L ≠ F := fun z => by rw [z, hF] at hL; cases hL
  have Lp : L ≠ p := fun z => s.bx.some (by rw [← z]; exact hL)
  have kk : Same (off p F Hn) (off p F (upd H3 L (.lst zs))) := off_put hL k
  refine ⟨fun x o n1 ex => ?_, ?_, s.new, u0, u1, .ref L, u3, d0, d1, .list ds, d3, by rw [upd_ne (Ne.symm LF)]; exact h3, a0.keep kk, a1.keep kk, .lst ?_ al, a3.keep kk, r0, r1, r, r3⟩
  · have e1 := s.g x o n1 ex
    rw [upd_ne (ne_of_none e1 hL)]
    exact k x o n1 (ne_of_none ex s.new) e1
  · obtain ⟨c1, c2, c3, h1, rest⟩ := bx
    exact ⟨c1, c2, c3, by rw [upd_ne (Ne.symm Lp)]; exact h1, rest⟩
  · unfold off
    rw [del_ne LF, del_ne Lp, upd_same]
theorem Fnd.in3 (s : Fnd H Hn p F c a b) (b0 : Bx H p n) {us zs : List V} {ds : List PyData} {L : Addr} {H3 : Hp} {e b' : Nat} (hF : Hn F = some (.lst us)) (hL : Hn L = none) (k : ∀ x o, x ≠ p → x ≠ F → Hn x = some o → H3 x = some o)
    (h3 : H3 F = some (.lst (us.set 3 (.ref L)))) (bx : Bx H3 p e) (al : AnyL (off p F (upd H3 L (.lst zs))) zs ds) (r : MapT b' (.list ds)) : Fnd H (upd H3 L (.lst zs)) p F e a b' := by
  obtain ⟨u0, u1, u2, u3, d0, d1, d2, d3, hF', a0, a1, a2, a3, r0, r1, r2, r3⟩ := s.ex
  rw [hF] at hF'
  cases hF'
  have LF : L ≠ F := fun z => by rw [z, hF] at hL; cases hL
  have Lp : L ≠ p := fun z => s.bx.some (by rw [← z]; exact hL)
  have kk : Same (off p F Hn) (off p F (upd H3 L (.lst zs))) := off_put hL k
  refine ⟨fun x o n1 ex => ?_, ?_, s.new, u0, u1, u2, .ref L, d0, d1, d2, .list ds, by rw [upd_ne (Ne.symm LF)]; exact h3, a0.keep kk, a1.keep kk, a2.keep kk, .lst ?_ al, r0, r1, r2, r⟩
  · have e1 := s.g x o n1 ex
    rw [upd_ne (ne_of_none e1 hL)]
    exact k x o n1 (ne_of_none ex s.new) e1
  · obtain ⟨c1, c2, c3, h1, rest⟩ := bx
    exact ⟨c1, c2, c3, by rw [upd_ne (Ne.symm Lp)]; exact h1, rest⟩
  · unfold off
    rw [del_ne LF, del_ne Lp, upd_same]
theorem Fnd.thing (s : Fnd H Hn p F c 7 6) (b0 : Bx H p n) : ∃ d, ThingT d ∧ Any (del Hn p) (.ref F) d := by
  have pF := b0.ne s.new
  obtain ⟨u0, u1, u2, u3, d0, d1, d2, d3, hF, a0, a1, a2, a3, r0, r1, r2, r3⟩ := s.ex
  exact ⟨_, ⟨d0, d1, d2, d3, rfl, r0, r1, r2, r3⟩, .lst (by
    rw [del_ne (Ne.symm pF)]
    exact hF) (.cons (a0.keep off_subp) (.cons (a1.keep off_subp) (.cons (a2.keep off_subp) (.cons (a3.keep off_subp) .nil))))⟩
end
theorem str_t {x : Str} (h : x.length ≤ 7) (c : ∀ z ∈ x.cps.toList, z < 16 ^ 8) : StrT (.str x) := ⟨tq_str h c, fun y e => by cases e; omega⟩
theorem str_app_len (x y : Str) : (x ++ y).length = x.length + y.length := by
  show (x.cps ++ y.cps).size = _
  rw [Array.size_append]
  rfl
theorem str_app_mem {x y : Str} {P : Nat → Prop} (h1 : ∀ z ∈ x.cps.toList, P z) (h2 : ∀ z ∈ y.cps.toList, P z) : ∀ z ∈ (x ++ y).cps.toList, P z := by
  intro z hz
  have hz2 : z ∈ (x.cps ++ y.cps).toList := hz
  rw [Array.toList_append] at hz2
  rcases List.mem_append.mp hz2 with e | e
  · exact h1 z e
  · exact h2 z e
theorem str_app_t {x y : Str} (px : Pat x 4) (ly : y.length ≤ 1) (cy : ∀ z ∈ y.cps.toList, z < 16 ^ 8) : StrT (.str (x ++ y)) :=
  str_t (by rw [str_app_len]; have := px.l; omega) (str_app_mem (arr_small px.a) cy)
theorem str_cut_t {x : Str} (px : Pat x 4) (lo hi : Option Int) : StrT (.str (cutS x lo hi)) := by
  refine str_t (by have := cutS_length x lo hi; have := px.l; omega) fun z hz => ?_
  have hz2 : z ∈ (x.cps.toList.drop (HT.sIx x.length 0 lo)).take (HT.sIx x.length x.length hi - HT.sIx x.length 0 lo) := by simpa [cutS] using hz
  exact arr_small px.a z (List.mem_of_mem_drop (List.mem_of_mem_take hz2))
end Rw

set_option Elab.async false
set_option linter.all false
set_option maxRecDepth 100000
set_option maxHeartbeats 4000000
/-! TkBK: drafts are small enough to be shown and compared; rows stay. -/
namespace Rw
open PySem PySem.Spec PyProof.Rows L2
theorem _root_.L2.Same.grow {p : Addr} {H H1 H2 : Hp} (s : Same H H1) (hp : H p = none) (g : Grow p H1 H2) : Same H H2 := fun b o e => g b o (ne_of_none e hp) (s b o e)
theorem str_same (a : Str) : decide (V.str a = V.str a) = true := decide_eq_true rfl
theorem passN {X : Cx} : Passes (L2.CX X.prog X.w) X E0 := fun _ _ _ _ _ _ _ h => by
  obtain ⟨_, _, _, _, _, _, _, _, _, _, _, _, z⟩ := h
  exact z.elim
theorem tm_ok {n : Nat} {d : PyData} (h : Tm n d) (l : n ≤ 5) : d.showable = true ∧ d.depth ≤ 60 ∧ d.shown.length ≤ sizeLine := by
  have h6 := h.up l
  exact ⟨h.sh, by have := h6.dp; omega, Nat.le_trans h6.ln (by decide +kernel)⟩
theorem tm_short {x : Str} (h : (reprText x).length ≤ 50) : Tm 0 (.str x) := ⟨by simp only [PyData.showable], by simp only [PyData.depth]; omega, by simp only [PyData.shown]; exact h⟩
theorem tm_w {n : Nat} {x : Str} {d : PyData} (hx : (reprText x).length ≤ 50) (h : Tm n d) : Tm (n + 1) (wD x d) := tm_list (by show 2 ≤ 6; decide) (by
  intro e he
  rcases List.mem_cons.mp he with z | z
  · rw [z]; exact (tm_short hx).up (Nat.zero_le _)
  · rw [List.mem_singleton.mp z]; exact h)
theorem tm_tq {n m k : Nat} {d : PyData} (h : Tq n d) (l1 : n ≤ m) (l2 : 80 * 13 ^ n ≤ 50 * 8 ^ m) : Tm m d := ⟨h.sh, by have := h.dp; omega, Nat.le_trans h.ln l2⟩
theorem tm_draft {x : Str} {q : Int} {ss : List Nat} {ms : List (List (List Int))} (g : Good x q ss ms) : Tm 4 (draftD x q ss ms) := by
  have lx := g.p.l
  have q20 : q.natAbs < 20 := by
    have := prime_pos g.q
    omega
  refine tm_list (by show 4 ≤ 6; decide) fun e he => ?_
  rcases List.mem_cons.mp he with z | he
  · rw [z]
    exact tm_tq (k := 0) (tq_str (by omega) (arr_small g.p.a)) (Nat.zero_le _) (by decide)
  rcases List.mem_cons.mp he with z | he
  · rw [z]
    exact (tm_int (Nat.lt_trans q20 (by decide))).up (Nat.zero_le _)
  rcases List.mem_cons.mp he with z | he
  · rw [z]
    refine tm_tq (k := 0) (n := 1) (tq_list (by rw [List.length_map, g.d.sl]; omega) fun d hd => ?_) (by decide) (by decide)
    obtain ⟨s, hs, rfl⟩ := List.mem_map.mp hd
    have := g.d.sb s hs
    exact tq_int (Nat.lt_of_le_of_lt (by omega : ((s : Nat) : Int).natAbs ≤ 6) (by decide))
  · rw [List.mem_singleton.mp he]
    refine tm_list (by rw [List.length_map, g.d.ml]; omega) fun d hd => ?_
    exact (draft_sheet g.d g.q (Nat.le_refl _) d hd).tm
theorem sumS_lt {ss ts : List Nat} {i n : Nat} (h1 : ∀ s, s ∈ ss → s ≤ 6) (h2 : ∀ s, s ∈ ts → s ≤ 6) (h : (sumS ss ts)[i]? = some n) : n ≤ 12 := by
  have hi : i < ss.length := by
    have := (List.getElem?_eq_some_iff.mp h).1
    rw [sumS_len] at this
    exact this
  rw [sumS_at hi] at h
  cases h
  have a := get_le h1 i
  have b := get_le h2 i
  omega
theorem tm_besD {x y : Str} {p q : Int} {ss ts : List Nat} {ms ns : List (List (List Int))} (g : Good x p ss ms) (k : Good y q ts ns) : Tm 5 (besD x p ss ms y q ts ns) := by
  unfold besD
  split
  · rename_i h
    obtain ⟨e1, e2⟩ := h
    subst e1
    subst e2
    cases e : (sumS ss ts).find? (fun n => decide (6 < n)) with
    | some n =>
      have hm := List.mem_of_find?_eq_some e
      obtain ⟨i, hi⟩ := List.getElem?_of_mem hm
      have := sumS_lt g.d.sb k.d.sb hi
      exact (tm_w (by decide +kernel) (tm_int (n := ((n : Nat) : Int)) (Nat.lt_of_le_of_lt (by omega : _ ≤ 12) (by decide)))).up (by decide)
    | none =>
      rw [List.find?_eq_none] at e
      have low : ∀ (i n : Nat), (sumS ss ts)[i]? = some n → n ≤ 6 := fun i n hi => by
        have := e n (List.mem_of_getElem? hi)
        simp at this
        exact this
      exact tm_w (by decide +kernel) (tm_draft ⟨sum_draft g.d k.d g.q low, g.p, g.q⟩)
  · refine (tm_list (n := 0) (by show 1 ≤ 6; decide) fun e he => ?_).up (by decide)
    rw [List.mem_singleton.mp he]
    exact tm_short (by decide +kernel)
theorem tm_partD {x : Str} {q : Int} {ss : List Nat} {ms : List (List (List Int))} {d1 d2 : PyData} (g : Good x q ss ms) (h1 : Tm 0 d1) (h2 : Tm 0 d2) : Tm 5 (partD x q ss ms d1 d2) := by
  unfold partD
  split
  · rename_i i1
    split
    · rename_i i2
      obtain ⟨i, rfl, i0, il⟩ := inB_nat (lo := 0) i1
      obtain ⟨j, rfl, j0, jl⟩ := inB_nat i2
      exact tm_w (by decide +kernel) (tm_draft ⟨part_draft g.d j0 jl, cut_pat g.p j0 jl, g.q⟩)
    · exact (tm_w (by decide +kernel) h2).up (by decide)
  · exact (tm_w (by decide +kernel) h1).up (by decide)
theorem noL_mats (ms : List (List (List Int))) : noL (.tuple ((ms.map fun m => m.map tupI).map .tuple)) = true := by
  show noLs _ = true
  refine noLs_of fun d hd => ?_
  rw [List.map_map] at hd
  obtain ⟨m, _, rfl⟩ := List.mem_map.mp hd
  show noLs (m.map tupI) = true
  refine noLs_of fun e he => ?_
  obtain ⟨r, _, rfl⟩ := List.mem_map.mp he
  exact noL_tupI r
theorem noL_nats (ss : List Nat) : noL (.tuple (ss.map natD)) = true := by
  show noLs _ = true
  refine noLs_of fun d hd => ?_
  obtain ⟨n, _, rfl⟩ := List.mem_map.mp hd
  rfl
theorem row_away {C a p : Addr} {H : Hp} {n : Nat} {x : Str} {q : Int} {ss : List Nat} {ms : List (List (List Int))} (b : Bx H p n) (r : RowAt C H a x q (ss.map natD) (ms.map fun m => m.map tupI)) : RowAt C (del H p) a x q (ss.map natD) (ms.map fun m => m.map tupI) := by
  obtain ⟨dx, ts, tm, h1, h2, h3⟩ := r
  obtain ⟨b1, b2, b3, hp, _⟩ := b
  refine ⟨dx, ts, tm, ?_, any_noL hp _ _ h2 (noL_nats ss), any_noL hp _ _ h3 (noL_mats ms)⟩
  rw [del_ne (fun z => by rw [z, hp] at h1; cases h1)]
  exact h1
theorem lay_draft {x : Str} {m : Nat} (px : Pat x m) (q : Int) (ss : List Nat) (ms : List (List (List Int))) : (draftD x q ss ms).canLay0 = true := by
  refine lay_list fun d hd => ?_
  rcases List.mem_cons.mp hd with z | hd
  · rw [z]
    simp only [PyData.canLay0]
    unfold PyData.strOk
    rw [← Array.all_toList]
    refine List.all_eq_true.mpr fun c hc => decide_eq_true ?_
    have := List.all_eq_true.mp px.a c hc
    unfold isArr at this
    simp only [Bool.or_eq_true, beq_iff_eq] at this
    omega
  rcases List.mem_cons.mp hd with z | hd
  · rw [z]
    first | rfl | simp only [PyData.canLay0]
  rcases List.mem_cons.mp hd with z | hd
  · rw [z]
    refine lay_list fun e he => ?_
    obtain ⟨s, _, rfl⟩ := List.mem_map.mp he
    first | rfl | simp only [natD, PyData.canLay0]
  · rw [List.mem_singleton.mp hd]
    refine lay_list fun e he => ?_
    obtain ⟨m, _, rfl⟩ := List.mem_map.mp he
    refine lay_list fun e he => ?_
    obtain ⟨r, _, rfl⟩ := List.mem_map.mp he
    exact lay_tup (lay_ints r)
theorem dep_draft {x : Str} {q : Int} {ss : List Nat} {ms : List (List (List Int))} (g : Good x q ss ms) : (draftD x q ss ms).depth ≤ 64 := by
  have := (tm_draft g).dp
  omega
end Rw

set_option Elab.async false
set_option linter.all false
set_option maxRecDepth 100000
set_option maxHeartbeats 4000000
/-! TkCA: only lists change; rows held against one another; == by an own __eq__. -/
namespace Rw
open PySem PySem.Spec PyProof.Rows L2
/-- no object but lists has changed -/
def Lt (H H' : Hp) : Prop := ∀ b o, H b = some o → (∀ xs, o ≠ .lst xs) → H' b = some o
theorem Lt.refl {H : Hp} : Lt H H := fun _ _ e _ => e
theorem Lt.trans {H H1 H2 : Hp} (a : Lt H H1) (b : Lt H1 H2) : Lt H H2 := fun c o e n => b c o (a c o e n) n
theorem Lt.of {H H' : Hp} (k : Same H H') : Lt H H' := fun b o e _ => k b o e
theorem Lt.put {H : Hp} {a : Addr} {xs ys : List V} (h : H a = some (.lst xs)) : Lt H (upd H a (.lst ys)) := fun b o e n => by
  have ne : b ≠ a := fun z => by
    rw [z, h] at e
    exact n xs (Option.some.inj e).symm
  rw [upd_ne ne]
  exact e
mutual
theorem any_lt {H H' : Hp} (k : Lt H H') : ∀ (d : PyData) (v : V), Any H v d → noL d = true → Any H' v d
  | .none, _, a, _ => by cases a; exact .non
  | .bool b, _, a, _ => by cases a; exact .bl b
  | .int i, _, a, _ => by cases a; exact .int i
  | .str x, _, a, _ => by cases a; exact .str x
  | .list ds, _, _, z => by cases z
  | .dict ds, _, _, z => by cases z
  | .tuple ds, _, a, z => by
    cases a with
    | tup e b => exact .tup (k _ _ e fun xs y => by cases y) (anyL_lt k ds _ b z)
theorem anyL_lt {H H' : Hp} (k : Lt H H') : ∀ (ds : List PyData) (vs : List V), AnyL H vs ds → noLs ds = true → AnyL H' vs ds
  | [], _, a, _ => by cases a; exact .nil
  | d :: ds, _, a, z => by
    have z2 : (noL d && noLs ds) = true := z
    rw [Bool.and_eq_true] at z2
    cases a with
    | cons a b => exact .cons (any_lt k d _ a z2.1) (anyL_lt k ds _ b z2.2)
end
theorem row_lt {C a : Addr} {H H' : Hp} {x : Str} {q : Int} {ss : List Nat} {ms : List (List (List Int))} (r : RowOf C H a x q ss ms) (k : Lt H H') : RowOf C H' a x q ss ms := by
  obtain ⟨dx, ts, tm, h1, h2, h3⟩ := r
  exact ⟨dx, ts, tm, k _ _ h1 (fun xs z => by cases z), any_lt k _ _ h2 (noL_nats ss), any_lt k _ _ h3 (noL_mats ms)⟩
/-! ### the same data -/
theorem eqvAll_map {α : Type} [DecidableEq α] (f : α → PyData) (h : ∀ a b, PyData.eqv (f a) (f b) = decide (a = b)) : ∀ as bs : List α, PyData.eqvAll (as.map f) (bs.map f) = decide (as = bs)
  | [], [] => by simp [PyData.eqvAll]
  | [], b :: bs => by simp [PyData.eqvAll]
  | a :: as, [] => by simp [PyData.eqvAll]
  | a :: as, b :: bs => by
    show PyData.eqvAll (f a :: as.map f) (f b :: bs.map f) = _
    rw [PyData.eqvAll, h, eqvAll_map f h as bs]
    by_cases e1 : a = b
    · by_cases e2 : as = bs
      · rw [decide_eq_true e1, decide_eq_true e2, decide_eq_true (by rw [e1, e2])] <;> rfl
      · rw [decide_eq_true e1, decide_eq_false e2, decide_eq_false (fun z => e2 (List.cons.inj z).2)] <;> rfl
    · rw [decide_eq_false e1, decide_eq_false (fun z => e1 (List.cons.inj z).1), Bool.false_and]
theorem eqv_int (a b : Int) : PyData.eqv (.int a) (.int b) = decide (a = b) := by
  simp [PyData.eqv]
  by_cases h : a = b
  · rw [decide_eq_true h, h]; simp
  · rw [decide_eq_false h]; simpa using h
theorem eqv_nat (a b : Nat) : PyData.eqv (natD a) (natD b) = decide (a = b) := by
  unfold natD
  rw [eqv_int]
  by_cases h : a = b
  · rw [decide_eq_true h, decide_eq_true (by rw [h])]
  · rw [decide_eq_false h, decide_eq_false (by omega)]
theorem eqv_tupI (a b : List Int) : PyData.eqv (tupI a) (tupI b) = decide (a = b) := by
  unfold tupI
  rw [PyData.eqv]
  exact eqvAll_map PyData.int eqv_int a b
theorem eqv_tupM (a b : List (List Int)) : PyData.eqv (tupM a) (tupM b) = decide (a = b) := by
  unfold tupM
  rw [PyData.eqv]
  exact eqvAll_map tupI eqv_tupI a b
theorem eqv_sheet (a b : List (List Int)) : PyData.eqv (sheetD a) (sheetD b) = decide (a = b) := by
  unfold sheetD
  rw [PyData.eqv]
  exact eqvAll_map tupI eqv_tupI a b
theorem eqv_str (a b : Str) : PyData.eqv (.str a) (.str b) = decide (a = b) := by
  simp [PyData.eqv]
  by_cases h : a = b
  · rw [decide_eq_true h, h]; simp
  · rw [decide_eq_false h]; simpa using h
def sameRow (x : Str) (q : Int) (ss : List Nat) (ms : List (List (List Int))) (y : Str) (p : Int) (ts : List Nat) (ns : List (List (List Int))) : Bool := decide (x = y) && (decide (q = p) && (decide (ss = ts) && decide (ms = ns)))
theorem eqv_draft (x y : Str) (q p : Int) (ss ts : List Nat) (ms ns : List (List (List Int))) : PyData.eqv (draftD x q ss ms) (draftD y p ts ns) = sameRow x q ss ms y p ts ns := by
  unfold draftD sameRow
  have e1 : PyData.eqv (.list (ss.map natD)) (.list (ts.map natD)) = decide (ss = ts) := by
    rw [PyData.eqv]
    exact eqvAll_map natD eqv_nat ss ts
  have e2 : PyData.eqv (.list (ms.map sheetD)) (.list (ns.map sheetD)) = decide (ms = ns) := by
    rw [PyData.eqv]
    exact eqvAll_map sheetD eqv_sheet ms ns
  rw [PyData.eqv, PyData.eqvAll, PyData.eqvAll, PyData.eqvAll, PyData.eqvAll, PyData.eqvAll, eqv_str, eqv_int, e1, e2, Bool.and_true]
theorem lay_tupI (r : List Int) : (tupI r).canLay0 = true := lay_tup (lay_ints r)
theorem lay_nats (ss : List Nat) : (PyData.tuple (ss.map natD)).canLay0 = true := lay_tup fun d hd => by
  obtain ⟨s, _, rfl⟩ := List.mem_map.mp hd
  first | rfl | simp only [natD, PyData.canLay0]
theorem lay_mats (ms : List (List (List Int))) : (PyData.tuple (ms.map tupM)).canLay0 = true := lay_tup fun d hd => by
  obtain ⟨m, _, rfl⟩ := List.mem_map.mp hd
  refine lay_tup fun e he => ?_
  obtain ⟨r, _, rfl⟩ := List.mem_map.mp he
  exact lay_tupI r
theorem dep_le {n : Nat} : ∀ {ds : List PyData}, (∀ d, d ∈ ds → d.depth ≤ n) → PyData.depthAll ds ≤ n
  | [], _ => by simp only [PyData.depthAll]; omega
  | d :: ds, h => by
    simp only [PyData.depthAll]
    have a := h d List.mem_cons_self
    have b := dep_le (ds := ds) fun e he => h e (List.mem_cons_of_mem _ he)
    omega
theorem dep_int (n : Int) : (PyData.int n).depth ≤ 3 := by simp only [PyData.depth]; omega
theorem dep_nats (ss : List Nat) : (PyData.tuple (ss.map natD)).depth ≤ 64 := by
  have : PyData.depthAll (ss.map natD) ≤ 3 := dep_le fun d hd => by
    obtain ⟨s, _, rfl⟩ := List.mem_map.mp hd
    exact dep_int _
  simp only [PyData.depth]
  omega
theorem dep_tupM (m : List (List Int)) : (tupM m).depth ≤ 20 := by
  have : PyData.depthAll (m.map tupI) ≤ 10 := dep_le fun d hd => by
    obtain ⟨r, _, rfl⟩ := List.mem_map.mp hd
    have : PyData.depthAll (r.map PyData.int) ≤ 3 := dep_le fun d hd => by
      obtain ⟨s, _, rfl⟩ := List.mem_map.mp hd
      exact dep_int _
    unfold tupI
    simp only [PyData.depth]
    omega
  unfold tupM
  simp only [PyData.depth]
  omega
theorem dep_mats (ms : List (List (List Int))) : (PyData.tuple (ms.map tupM)).depth ≤ 64 := by
  have : PyData.depthAll (ms.map tupM) ≤ 20 := dep_le fun d hd => by
    obtain ⟨m, _, rfl⟩ := List.mem_map.mp hd
    exact dep_tupM m
  simp only [PyData.depth]
  omega
/-- two data held by == -/
theorem eq_two {K : PySem.W.Frag} {H : Hp} {x y : V} {d e : PyData} {Q : VK} (a : Any H x d) (b : Any H y e) (c1 : d.canLay0 = true) (c2 : e.canLay0 = true) (l1 : d.depth ≤ 64) (l2 : e.depth ≤ 64) (q : Q (.bl (PyData.eqv d e)) H) : rEqD K x y H Q := by
  refine ⟨d, e, any_dp d x a c1, any_dp e y b c2, ?_, ?_, q⟩
  · unfold SeqAt.shaped
    rw [c1, decide_eq_true l1] <;> rfl
  · unfold SeqAt.shaped
    rw [c2, decide_eq_true l2] <;> rfl
/-! ### == by an own __eq__ -/
/-- what a class with an own __eq__ asks -/
structure EqC (K : PySem.W.Frag) (C f : Addr) : Prop where
  at_ : PySem.W.findIn K (.ref C) "__eq__" = some (some (.ref f))
  fn : PySem.W.isFn K (.ref f) = true
  nl : PySem.W.notFirst K C (.type "list") = true
  ns : PySem.W.notFirst K C (.type "str") = true
def rEqO (C : Addr) (sp : Sp) : R2 := fun x y H Q => ∃ a dx fs, x = .ref a ∧ H a = some (.ins C dx fs) ∧ ((∃ b dy gs, y = .ref b ∧ H b = some (.ins C dy gs)) ∨ (∃ b xs, y = .ref b ∧ H b = some (.lst xs)) ∨ ∃ z, y = .str z) ∧ sp [x, y] H (fun v H' => ∃ b, v = .bl b ∧ Q (.bl b) H') (fun _ _ _ => False)
theorem op_eqO {X : Cx} {k : Nat} {f C : Addr} {fd : FuncData} {ps : List Str} {sp : Sp} (O : EqC X.K C f) (F : FnOk X.prog X.w X.K X.mg X.base CX0 k f fd ps sp) (hr : Room k X.A) (hb : Binds X.K fd ps []) : OpR X (compareOp .Eq) (rEqO C sp) := by
  intro pins s σ H x y v u Q I rx ry h
  obtain ⟨a, dx, fs, rfl, ea, hy, h⟩ := h
  obtain rfl : v = Value.ref a := rx
  obtain ⟨mA, J, _⟩ := ins_get I.hok ea
  obtain ⟨od, J, _⟩ := J.look
  obtain ⟨m, hF⟩ := I.fr
  show wpAny (model X.prog X.w) X.A (richCompare .Eq (.ref a) u) (EP X pins σ Q) X.xe s
  have go : ∀ (tb : Value), PySem.W.Looks (model X.prog X.w) s.heap (typeOf u) tb → PySem.W.notFirst X.K C tb = true → wpAny (model X.prog X.w) X.A (richCompare .Eq (.ref a) u) (EP X pins σ Q) X.xe s := fun tb ht hn => by
    refine PySem.W.cmp_K (op := .Eq) (tb := tb) hr.units0 hF I.ok.mod.kin J ht hn O.at_ O.fn ?_
    have r2 : Vals [V.ref a, y] [Value.ref a, u] := .cons rfl (.cons ry .nil)
    have hl := F.len _ _ _ _ h
    refine wpAny_call (codeAny_mono (F.run X.A X.stack s H ⟨[.ref a, u], []⟩ [.ref a, u] [.ref a, y] _ _ hr I.env0 (by
      have := hb s [.ref a, u] I.kIn (by simpa using hl)
      simpa using this) r2 h) fun r s' hq => ?_)
    cases r with
    | error e => exact False.elim hq
    | ok fl =>
      cases fl with
      | ret w' =>
        obtain ⟨z, H', I', rz, b, ez, q⟩ := I.after hq
        subst ez
        cases rz
        exact ⟨.bl b, H', I', rfl, q⟩
      | next => exact False.elim hq
      | brk => exact False.elim hq
      | cont => exact False.elim hq
  rcases hy with ⟨b, dy, gs, rfl, eb⟩ | ⟨b, xs, rfl, eb⟩ | ⟨z, rfl⟩
  · obtain rfl : u = Value.ref b := ry
    obtain ⟨mB, J', _⟩ := ins_get I.hok eb
    obtain ⟨od', J', _⟩ := J'.look
    exact go (.ref C) J'.type (by simp [PySem.W.notFirst])
  · obtain rfl : u = Value.ref b := ry
    obtain ⟨its, r, p, _⟩ := I.list (SqL.of (K := X.K) eb)
    obtain ⟨o, n, eo, ec, _, _⟩ := p
    exact go (.type "list") (by
      have l := (PySem.W.Looks.ld (M := model X.prog X.w) (part := some headPart) eo).andThen (f := fun ob => (pure ob.cls : Sem Value)) .now
      rw [ec] at l
      exact l) O.nl
  · obtain ⟨t, rfl⟩ := ry
    exact go (.type "str") (PySem.W.Looks.of_pure rfl) O.ns
end Rw

set_option Elab.async false
set_option linter.all false
set_option maxRecDepth 100000
set_option maxHeartbeats 4000000
/-! TkCB: what a comprehension lays is new; rows held against one another; what is told is new. -/
namespace Rw
open PySem PySem.Spec PyProof.Rows L2
theorem dnw_put {H H' : Hp} {D q : Addr} {o : HO} (h : H q = none) (ne : q ≠ D) : del (nw H (upd H' q o)) D q = some o := by
  rw [del_ne ne]
  exact nw_put h
theorem dnw_same {H H1 H2 : Hp} {D : Addr} (k : Same H1 H2) : Same (del (nw H H1) D) (del (nw H H2) D) := fun b o e => by
  by_cases z : b = D
  · rw [z, del_same] at e; cases e
  · rw [del_ne z] at e ⊢
    exact nw_same k b o e
theorem dnw_upd {H H1 : Hp} {D : Addr} {o : HO} : del (nw H (upd H1 D o)) D = del (nw H H1) D := by
  funext b
  by_cases z : b = D
  · rw [z, del_same, del_same]
  · rw [del_ne z, del_ne z]
    show (if H b = none then (upd H1 D o) b else none) = (if H b = none then H1 b else none)
    rw [upd_ne z]
theorem dnw_at {H H1 : Hp} {D b : Addr} {o : HO} (e : del (nw H H1) D b = some o) : H b = none ∧ H1 b = some o ∧ b ≠ D := by
  have ne : b ≠ D := fun z => by rw [z, del_same] at e; cases e
  rw [del_ne ne] at e
  have e' : (if H b = none then H1 b else none) = some o := e
  by_cases z : H b = none
  · rw [if_pos z] at e'
    exact ⟨z, e', ne⟩
  · rw [if_neg z] at e'
    cases e'
/-- of lists that are laid: what is laid is new -/
theorem lc_new {J : It} {n : Nat} {G : Hp → Prop} {P : Nat → V → Prop} (w : Walk J n G (fun i H x H' => H' = H ∧ P i x)) {j : Nat} {σ : L2.St} {vs : List Nat} {te : TE} {H0 H1 : Hp} {D : Addr} {Q : Hp → Prop} (hn : n ≤ 1000) (hD : H1 D = none) (hG : ∀ H, Same H1 H → G H) (f : Nat → PyData)
    (hs : ∀ i x H, i < n → P i x → Same H1 H → (∃ o, H D = some o) → wipe ((wipe σ vs).set j (some x)) vs = wipe σ vs ∧ ∀ k : VK, (∀ y H', Same H H' → Any (del (nw H0 H') D) y (f i) → k y H') → te ((wipe σ vs).set j (some x)) H k)
    (hq : ∀ H acc, Same H1 H → H D = some (.lst acc) → AnyL (del (nw H0 H) D) acc ((List.range n).map f) → Q H) :
    ∃ W : Nat → Nat → Hp → Prop, (∃ m, W 0 m (upd H1 D (.lst []))) ∧ ∀ i m H, W i m H →
      (J.stop i H ∧ Q H) ∨ (J.go i H ∧ ∃ Nx : Hp → Prop, (∀ H', Nx H' → ∃ m', m' < m ∧ W (i + 1) m' H') ∧ ∀ x H', J.yld i H x H' → gName j x (wipe σ vs) H' fun σ2 H2 => wipe σ2 vs = wipe σ vs ∧ tYes σ2 H2 fun b H3 =>
        if b = true then te σ2 H3 fun y H4 => ∃ acc, H4 D = some (.lst acc) ∧ acc.length < sizeLine ∧ Nx (upd H4 D (.lst (acc ++ [y]))) else Nx H3) := by
  refine lc_it w (Qd := Q) (Pv := fun i H => Same H1 H ∧ ∃ acc, H D = some (.lst acc) ∧ acc.length = i ∧ AnyL (del (nw H0 H) D) acc ((List.range i).map f)) ⟨same_new hD, [], upd_same, rfl, .nil⟩ (fun i H _ h => hG H h.1) ?_ ?_
  · rintro i x H H' hi ⟨s1, acc, ha, hl, an⟩ ⟨rfl, hp⟩
    obtain ⟨e1, e2⟩ := hs i x H' hi hp s1 ⟨_, ha⟩
    refine ⟨e1, ?_⟩
    show te _ _ _
    refine e2 _ fun y H4 s2 hy => ?_
    refine ⟨acc, s2 _ _ ha, Nat.lt_of_lt_of_le (by omega : acc.length < 1000) (by decide), ?_, acc ++ [y], upd_same, by rw [List.length_append, hl] <;> rfl, ?_⟩
    · intro b o e
      have ne : b ≠ D := ne_of_none e hD
      rw [upd_ne ne]
      exact s2 _ _ (s1 _ _ e)
    · rw [dnw_upd, List.range_succ, List.map_append]
      exact anyL_snoc (anyL_keep (dnw_same s2) an) hy
  · rintro H ⟨s1, acc, ha, hl, an⟩
    exact hq H acc s1 ha an
/-- rows told: the outer list and the sheets are new -/
def spMapsN (C : Addr) : Sp := fun vs H Q _ => ∃ a x p ss ms, vs = [.ref a] ∧ RowOf C H a x p ss ms ∧ ms.length ≤ 1000 ∧ (∀ m, m ∈ ms → m.length ≤ 1000) ∧ ∀ l acc H', H l = none → Same H H' → H' l = some (.lst acc) → AnyL (del H' l) acc (ms.map sheetD) →
  (∀ v, v ∈ acc → ∃ b xs, v = .ref b ∧ H b = none ∧ b ≠ l ∧ H' b = some (.lst xs) ∧ xs.length ≤ 1000) → Q (.ref l) H'
def spEqR (C : Addr) : Sp := fun vs H Q _ => ∃ a v x p ss ms, vs = [.ref a, v] ∧ RowOf C H a x p ss ms ∧
  ((∃ b y q ts ns, v = .ref b ∧ RowOf C H b y q ts ns ∧ Q (.bl (sameRow x p ss ms y q ts ns)) H) ∨ (((∃ b xs, v = .ref b ∧ H b = some (.lst xs)) ∨ ∃ z, v = .str z) ∧ Q (.bl false) H))
/-- isinstance of an own class, also of lists and texts -/
structure KitC (K : PySem.W.Frag) (C : Addr) : Prop where
  kl : PySem.W.kitOne K (.type "list") (.ref C) = some false
  ks : PySem.W.kitOne K (.type "str") (.ref C) = some false
theorem two_nats {K : PySem.W.Frag} {H : Hp} {x y : V} {ss ts : List Nat} {Q : VK} (a : Any H x (.tuple (ss.map natD))) (b : Any H y (.tuple (ts.map natD))) (q : Q (.bl (decide (ss = ts))) H) : rEqD K x y H Q := by
  refine eq_two a b (lay_nats ss) (lay_nats ts) (dep_nats ss) (dep_nats ts) ?_
  rw [PyData.eqv, eqvAll_map natD eqv_nat]
  exact q
theorem mats_tup (ms : List (List (List Int))) : PyData.tuple ((ms.map fun m => m.map tupI).map .tuple) = .tuple (ms.map tupM) := by
  rw [List.map_map]
  rfl
theorem two_mats {K : PySem.W.Frag} {H : Hp} {x y : V} {ms ns : List (List (List Int))} {Q : VK} (a : Any H x (.tuple ((ms.map fun m => m.map tupI).map .tuple))) (b : Any H y (.tuple ((ns.map fun m => m.map tupI).map .tuple))) (q : Q (.bl (decide (ms = ns))) H) : rEqD K x y H Q := by
  rw [mats_tup] at a b
  refine eq_two a b (lay_mats ms) (lay_mats ns) (dep_mats ms) (dep_mats ns) ?_
  rw [PyData.eqv, eqvAll_map tupM eqv_tupM]
  exact q
end Rw

set_option Elab.async false
set_option linter.all false
set_option maxRecDepth 100000
set_option maxHeartbeats 4000000
/-! TkCC: what a law asks of a row told. -/
namespace Rw
open PySem PySem.Spec PyProof.Rows L2
theorem ne_two {K : PySem.W.Frag} {H : Hp} {x y : V} {d e : PyData} {Q : VK} (a : Any H x d) (b : Any H y e) (c1 : d.canLay0 = true) (c2 : e.canLay0 = true) (l1 : d.depth ≤ 64) (l2 : e.depth ≤ 64) (q : Q (.bl (!PyData.eqv d e)) H) : rNeD K x y H Q := by
  refine ⟨d, e, any_dp d x a c1, any_dp e y b c2, ?_, ?_, q⟩
  · unfold SeqAt.shaped
    rw [c1, decide_eq_true l1] <;> rfl
  · unfold SeqAt.shaped
    rw [c2, decide_eq_true l2] <;> rfl
/-- pattern, prime, sizes, length -/
def heads (x : Str) (q : Int) (ss : List Nat) : PyData := .list [.str x, .int q, .tuple (ss.map natD), natD ss.length]
theorem heads_eqv (x : Str) (q : Int) (ss : List Nat) : PyData.eqv (heads x q ss) (heads x q ss) = true := by
  unfold heads
  have e1 : PyData.eqv (.tuple (ss.map natD)) (.tuple (ss.map natD)) = true := by
    rw [PyData.eqv, eqvAll_map natD eqv_nat, decide_eq_true rfl]
  rw [PyData.eqv, PyData.eqvAll, PyData.eqvAll, PyData.eqvAll, PyData.eqvAll, PyData.eqvAll, eqv_str, eqv_int, eqv_nat, e1, decide_eq_true rfl, decide_eq_true rfl, decide_eq_true rfl] <;> rfl
theorem lay_str {x : Str} {m : Nat} (px : Pat x m) : (PyData.str x).canLay0 = true := by
  simp only [PyData.canLay0]
  unfold PyData.strOk
  rw [← Array.all_toList]
  refine List.all_eq_true.mpr fun c hc => decide_eq_true ?_
  have := List.all_eq_true.mp px.a c hc
  unfold isArr at this
  simp only [Bool.or_eq_true, beq_iff_eq] at this
  omega
theorem lay_heads {x : Str} {m : Nat} (px : Pat x m) (q : Int) (ss : List Nat) : (heads x q ss).canLay0 = true := by
  refine lay_list fun d hd => ?_
  rcases List.mem_cons.mp hd with z | hd
  · rw [z]; exact lay_str px
  rcases List.mem_cons.mp hd with z | hd
  · rw [z]; first | rfl | simp only [PyData.canLay0]
  rcases List.mem_cons.mp hd with z | hd
  · rw [z]; exact lay_nats ss
  · rw [List.mem_singleton.mp hd]
    first | rfl | simp only [natD, PyData.canLay0]
theorem dep_heads (x : Str) (q : Int) (ss : List Nat) : (heads x q ss).depth ≤ 64 := by
  have h0 : PyData.depthAll (ss.map natD) ≤ 3 := dep_le fun d hd => by
    obtain ⟨s, _, rfl⟩ := List.mem_map.mp hd
    exact dep_int _
  have h1 : PyData.depthAll [.str x, .int q, .tuple (ss.map natD), natD ss.length] ≤ 10 := dep_le fun d hd => by
    rcases List.mem_cons.mp hd with z | hd
    · rw [z]; simp only [PyData.depth]; omega
    rcases List.mem_cons.mp hd with z | hd
    · rw [z]; simp only [PyData.depth]; omega
    rcases List.mem_cons.mp hd with z | hd
    · rw [z]; simp only [PyData.depth]; omega
    · rw [List.mem_singleton.mp hd]
      have := dep_int ((ss.length : Nat) : Int)
      show (PyData.int _).depth ≤ 10
      omega
  unfold heads
  simp only [PyData.depth]
  omega
theorem same_heads {K : PySem.W.Frag} {H : Hp} {v u : V} {x : Str} {m : Nat} {q : Int} {ss : List Nat} {Q : VK} (px : Pat x m) (a : Any H v (heads x q ss)) (b : Any H u (heads x q ss)) (k : Q (.bl false) H) : rNeD K v u H Q := by
  refine ne_two a b (lay_heads px q ss) (lay_heads px q ss) (dep_heads x q ss) (dep_heads x q ss) ?_
  rw [heads_eqv]
  exact k
theorem heads_any {H : Hp} {l : Addr} {v : V} {x : Str} {q : Int} {ss : List Nat} {n : Nat} (e : H l = some (.lst [.str x, .int q, v, .int (n : Nat)])) (a : Any H v (.tuple (ss.map natD))) (hn : n = ss.length) : Any H (.ref l) (heads x q ss) := by
  subst hn
  exact .lst e (.cons (.str x) (.cons (.int q) (.cons a (.cons (.int _) .nil))))
theorem in_ok {i n : Nat} (h : i < n) : inB (.int (i : Nat)) (.int 0) (.int ((n : Nat) - 1 : Int)) = true := by
  show (decide ((0 : Int) ≤ (i : Nat)) && decide (((i : Nat) : Int) ≤ (n : Nat) - 1)) = true
  rw [Bool.and_eq_true]
  exact ⟨decide_eq_true (by omega), decide_eq_true (by omega)⟩
/-- the matrices of a draft -/
abbrev mapsD (ms : List (List (List Int))) : PyData := .list (ms.map sheetD)
theorem tm_maps {x : Str} {q : Int} {ss : List Nat} {ms : List (List (List Int))} (g : Good x q ss ms) : Tm 3 (mapsD ms) := by
  have lx := g.p.l
  refine tm_list (by rw [List.length_map, g.d.ml]; omega) fun d hd => ?_
  exact (draft_sheet g.d g.q (Nat.le_refl _) d hd).tm
theorem lay_maps (ms : List (List (List Int))) : (mapsD ms).canLay0 = true := lay_list fun e he => by
  obtain ⟨m, _, rfl⟩ := List.mem_map.mp he
  refine lay_list fun e he => ?_
  obtain ⟨r, _, rfl⟩ := List.mem_map.mp he
  exact lay_tup (lay_ints r)
theorem dep_maps {x : Str} {q : Int} {ss : List Nat} {ms : List (List (List Int))} (g : Good x q ss ms) : (mapsD ms).depth ≤ 64 := by
  have := (tm_maps g).dp
  omega
theorem maps_eqv (ms ns : List (List (List Int))) : PyData.eqv (mapsD ms) (mapsD ns) = decide (ms = ns) := by
  rw [PyData.eqv]
  exact eqvAll_map sheetD eqv_sheet ms ns
theorem same_maps {K : PySem.W.Frag} {H : Hp} {v u : V} {x : Str} {q : Int} {ss : List Nat} {ms : List (List (List Int))} {Q : VK} (g : Good x q ss ms) (a : Any H v (mapsD ms)) (b : Any H u (mapsD ms)) (k : Q (.bl false) H) : rNeD K v u H Q := by
  refine ne_two a b (lay_maps ms) (lay_maps ms) (dep_maps g) (dep_maps g) ?_
  rw [maps_eqv, decide_eq_true rfl]
  exact k
theorem any_listD {H : Hp} {v : V} {ds : List PyData} (a : Any H v (.list ds)) : ∃ p ys, v = .ref p ∧ H p = some (.lst ys) ∧ AnyL H ys ds := by
  cases a with
  | lst e al => exact ⟨_, _, rfl, e, al⟩
theorem mat_get {ms : List (List (List Int))} {i : Nat} (h : i < ms.length) : (ms.map fun m => m.map tupI)[i]?.getD [] = ms[i].map tupI := by
  rw [List.getElem?_map, List.getElem?_eq_getElem h] <;> rfl
theorem noL_rowsT (m : List (List Int)) : noLs (m.map tupI) = true := noLs_of fun d hd => by
  obtain ⟨r, _, rfl⟩ := List.mem_map.mp hd
  exact noL_tupI r
def spTold (C : Addr) : Sp := fun vs H Q _ => ∃ v a x q ss ms, vs = [v, .ref a] ∧ Any H v (draftD x q ss ms) ∧ RowOf C H a x q ss ms ∧ Good x q ss ms ∧ ∀ H', Same H H' → Q (.bl true) H'
theorem good_high {x : Str} {q : Int} {ss : List Nat} {ms : List (List (List Int))} (g : Good x q ss ms) : ∀ m, m ∈ ms → m.length ≤ 6 := fun m hm => by
  obtain ⟨i, hi⟩ := List.getElem?_of_mem hm
  have := (g.d.mo i m hi).h
  rw [this]
  exact get_le g.d.sb _
structure RowLenAt2 (P : Program) (w : World) (K : PySem.W.Frag) (mg : Str → Option Value) (base : Heap) (C : Addr) : Prop where
  has : ∃ (f : Addr) (fd : FuncData), PySem.W.findIn K (.ref C) "__len__" = some (some (.ref f)) ∧ PySem.W.isFn K (.ref f) = true ∧ FnOk P w K mg base CX0 1 f fd ["self"] (spLenR C) ∧ Binds K fd ["self"] []
structure RowMatAt2 (P : Program) (w : World) (K : PySem.W.Frag) (mg : Str → Option Value) (base : Heap) (C CL : Addr) : Prop where
  has : ∃ (f : Addr) (fd : FuncData), Meth K C "matrix" f ∧ FnOk P w K mg base (L2.CX P w) 4 f fd ["self", "index"] (spMatx C CL) ∧ Binds K fd ["self", "index"] []
end Rw

set_option Elab.async false
set_option linter.all false
set_option maxRecDepth 100000
set_option maxHeartbeats 4000000
/-! TkCD: matrices as lists, the items otherwise by multiples of the prime, all new. -/
namespace Rw
open PySem PySem.Spec PyProof.Rows L2
def lstI (r : List Int) : PyData := .list (r.map .int)
def sheetL (w : List (List Int)) : PyData := .list (w.map lstI)
/-- the rows are none of the sheets, no sheet stands twice -/
def Ap (H : Hp) (vs : List V) : Prop := vs.Nodup ∧ ∀ b rs, V.ref b ∈ vs → H b = some (.lst rs) → ∀ r, r ∈ rs → r ∉ vs
def redR (q : Int) (r : List Int) : List Int := r.map fun e => e.fmod q
def redM (q : Int) (w : List (List Int)) : List (List Int) := w.map (redR q)
def smallR (r : List Int) : Prop := ∀ e, e ∈ r → e.natAbs.log2 < 400
def smallM (w : List (List Int)) : Prop := ∀ r, r ∈ w → smallR r
theorem anyL_mem {M : Hp} : ∀ {xs : List V} {ds : List PyData}, AnyL M xs ds → ∀ v, v ∈ xs → ∃ d, d ∈ ds ∧ Any M v d
  | _, _, .nil, v, h => nomatch h
  | _, _, .cons a r, v, h => by
    rcases List.mem_cons.mp h with z | z
    · rw [z]; exact ⟨_, List.mem_cons_self, a⟩
    · obtain ⟨d, h1, h2⟩ := anyL_mem r v z
      exact ⟨d, List.mem_cons_of_mem _ h1, h2⟩
theorem any_lstI {M : Hp} {v : V} {r : List Int} (a : Any M v (lstI r)) : ∃ c, v = .ref c ∧ M c = some (.lst (r.map V.int)) := by
  obtain ⟨c, ys, e1, e2, al⟩ := any_listD a
  rw [anyL_ints al] at e2
  exact ⟨c, e1, e2⟩
theorem rows_mem {M : Hp} {rs : List V} {w : List (List Int)} (al : AnyL M rs (w.map lstI)) : ∀ r, r ∈ rs → ∃ c e, r = .ref c ∧ e ∈ w ∧ M c = some (.lst (e.map V.int)) := fun r hr => by
  obtain ⟨d, hd, an⟩ := anyL_mem al r hr
  obtain ⟨e, he, rfl⟩ := List.mem_map.mp hd
  obtain ⟨c, e1, e2⟩ := any_lstI an
  exact ⟨c, e, e1, he, e2⟩
theorem sheets_mem {M : Hp} {acc : List V} {ws : List (List (List Int))} (al : AnyL M acc (ws.map sheetL)) : ∀ v, v ∈ acc → ∃ b rs w, v = .ref b ∧ w ∈ ws ∧ M b = some (.lst rs) ∧ AnyL M rs (w.map lstI) := fun v hv => by
  obtain ⟨d, hd, an⟩ := anyL_mem al v hv
  obtain ⟨w, hw, rfl⟩ := List.mem_map.mp hd
  obtain ⟨b, rs, e1, e2, al2⟩ := any_listD an
  exact ⟨b, rs, w, e1, hw, e2, al2⟩
theorem dl_at {H : Hp} {p b : Addr} {o : HO} (e : del H p b = some o) : b ≠ p ∧ H b = some o := by
  have ne : b ≠ p := fun z => by rw [z, del_same] at e; cases e
  rw [del_ne ne] at e
  exact ⟨ne, e⟩
theorem grow_free {H H2 : Hp} {p b : Addr} {o : HO} (g : Grow p H H2) (hp : H2 p = some o) (h : H2 b = none) : H b = none := by
  cases e : H b with
  | none => rfl
  | some u =>
    have ne : b ≠ p := fun z => by rw [z, hp] at h; cases h
    rw [g b u ne e] at h
    cases h
/-- what was new since later is new since earlier -/
theorem nw_nw {H H2 H3 : Hp} {p D G : Addr} {o u z : HO} (g : Grow p H H2) (hp : H2 p = some o) (hG : H2 G = some u) : Same (del (nw H2 H3) D) (del (nw H (upd H3 G z)) G) := fun b y e => by
  obtain ⟨h1, h2, h3⟩ := dnw_at e
  have ne : b ≠ G := fun z => by rw [z, hG] at h1; cases h1
  rw [del_ne ne]
  show (if H b = none then (upd H3 G z) b else none) = some y
  rw [if_pos (grow_free g hp h1), upd_ne ne]
  exact h2
theorem dnw_grow {H H1 H2 : Hp} {p D : Addr} {o : HO} (hp : H p = some o) (k : Grow p H1 H2) : Same (del (nw H H1) D) (del (nw H H2) D) := fun b u e => by
  by_cases z : b = D
  · rw [z, del_same] at e; cases e
  · rw [del_ne z] at e ⊢
    exact nw_grow hp k b u e
theorem ap_add {H H2 H3 : Hp} {p G D : Addr} {o u z : HO} {acc ac : List V} {ws : List (List (List Int))} {w : List (List Int)} (hp : H p = some o) (g3 : Grow p H2 H3) (hG : H2 G = some u) (hD : H2 D = none) (al : AnyL (del (nw H H2) G) acc (ws.map sheetL)) (ap : Ap H2 acc) (eD : H3 D = some (.lst ac)) (al2 : AnyL (del (nw H2 H3) D) ac (w.map lstI)) : Ap (upd H3 G z) (acc ++ [.ref D]) := by
  have old : ∀ b, V.ref b ∈ acc → ∃ (rs : List V) (w : List (List Int)), H b = none ∧ H2 b = some (.lst rs) ∧ b ≠ G ∧ AnyL (del (nw H H2) G) rs (w.map lstI) := fun b hb => by
    obtain ⟨b', rs, w, e1, _, e2, al⟩ := sheets_mem al _ hb
    cases e1
    obtain ⟨h1, h2, h3⟩ := dnw_at e2
    exact ⟨rs, w, h1, h2, h3, al⟩
  have DG : D ≠ G := fun y => by rw [y, hG] at hD; cases hD
  have nD : V.ref D ∉ acc := fun y => by
    obtain ⟨rs, w, _, h2, _⟩ := old D y
    rw [hD] at h2
    cases h2
  refine ⟨?_, fun b rs hb e r hr hm => ?_⟩
  · rw [List.nodup_append]
    refine ⟨ap.1, by simp, fun a ha b hb => ?_⟩
    rw [List.mem_singleton.mp hb]
    exact fun y => nD (by rw [← y]; exact ha)
  · rcases List.mem_append.mp hb with hb | hb
    · obtain ⟨rs2, w2, h1, h2, h3, al3⟩ := old b hb
      rw [upd_ne h3, g3 b _ (fun y => by rw [y, hp] at h1; cases h1) h2] at e
      cases e
      rcases List.mem_append.mp hm with hm | hm
      · exact ap.2 b _ hb h2 r hr hm
      · rw [List.mem_singleton.mp hm] at hr
        obtain ⟨c, e4, e5, _, e6⟩ := rows_mem al3 _ hr
        cases e5
        rw [(dnw_at e6).2.1] at hD
        cases hD
    · cases List.mem_singleton.mp hb
      rw [upd_ne DG, eD] at e
      cases e
      obtain ⟨c, e4, rfl, _, e6⟩ := rows_mem al2 _ hr
      obtain ⟨h1, h2, h3⟩ := dnw_at e6
      rcases List.mem_append.mp hm with hm | hm
      · obtain ⟨rs2, w2, _, h5, _⟩ := old c hm
        rw [h1] at h5
        cases h5
      · cases List.mem_singleton.mp hm
        exact h3 rfl
def spGrown : Sp := fun vs H Q _ => ∃ p v x q ss ms n, vs = [.ref p, v] ∧ Bx H p n ∧ n ≤ 500000 ∧ Any (del H p) v (draftD x q ss ms) ∧ Good x q ss ms ∧
  ∀ G acc (ws : List (List (List Int))) H', H G = none → Grow p H H' → Bx H' p (n + 216) → H' G = some (.lst acc) → AnyL (del (nw H H') G) acc (ws.map sheetL) → Ap H' acc → ws.map (redM q) = ms → (∀ w, w ∈ ws → smallM w) → Q (.ref G) H'
theorem grow_item {e q t : Int} (h0 : 0 ≤ e) (h1 : e < q) (hq : q < 20) (t0 : 0 ≤ t) (t1 : t < 5) : (e + q * (t - 2) * (10 ^ Int.toNat 27)).fmod q = e ∧ (e + q * (t - 2) * (10 ^ Int.toNat 27)).natAbs.log2 < 400 := by
  have e1 : (10 : Int) ^ Int.toNat 27 = 1000000000000000000000000000 := by decide
  rw [e1]
  constructor
  · rw [Int.fmod_eq_emod_of_nonneg _ (by omega), Int.mul_assoc, Int.add_mul_emod_self_left]
    exact Int.emod_eq_of_lt h0 h1
  · have b : (e + q * (t - 2) * 1000000000000000000000000000).natAbs < 10 ^ 40 := by
      have h2 : -60 ≤ q * (t - 2) ∧ q * (t - 2) ≤ 60 := by
        rcases (by omega : t = 0 ∨ t = 1 ∨ t = 2 ∨ t = 3 ∨ t = 4) with z | z | z | z | z <;> subst z <;> omega
      generalize q * (t - 2) = u at h2 ⊢
      omega
    exact log2_small b
end Rw

set_option Elab.async false
set_option linter.all false
set_option maxRecDepth 100000
set_option maxHeartbeats 4000000
/-! TkCE: a draft under change: its lists are new and apart. -/
namespace Rw
open PySem PySem.Spec PyProof.Rows L2
theorem Lt.grow {p : Addr} {H H' : Hp} {xs : List V} (g : Grow p H H') (h : H p = some (.lst xs)) : Lt H H' := fun b o e n => g b o (fun z => by rw [z, h] at e; exact n xs (Option.some.inj e).symm) e
def ShAt (H : Hp) (bs : List Addr) (ns : List (List (List Int))) : Prop := bs.length = ns.length ∧ ∀ (i : Nat) (b : Addr) (m : List (List Int)), bs[i]? = some b → ns[i]? = some m → ∃ rs, H b = some (.lst rs) ∧ AnyL H rs (m.map tupI)
theorem ShAt.lt {H H' : Hp} {bs : List Addr} {ns : List (List (List Int))} (h : ShAt H bs ns) (k : Lt H H') (e : ∀ b o, b ∈ bs → H b = some o → H' b = some o) : ShAt H' bs ns :=
  ⟨h.1, fun i b m hb hm => by
    obtain ⟨rs, h1, h2⟩ := h.2 i b m hb hm
    exact ⟨rs, e b _ (List.mem_of_getElem? hb) h1, anyL_lt k _ _ h2 (noL_rowsT m)⟩⟩
/-- a draft whose lists are new -/
structure Ot (H0 H : Hp) (F A M : Addr) (bs : List Addr) (y : Str) (q : Int) (ts : List Nat) (ns : List (List (List Int))) : Prop where
  f : H F = some (.lst [.str y, .int q, .ref A, .ref M])
  a : H A = some (.lst (ts.map fun s => V.int (s : Nat)))
  m : H M = some (.lst (bs.map V.ref))
  nf : H0 F = none
  na : H0 A = none
  nm : H0 M = none
  nb : ∀ b, b ∈ bs → H0 b = none
  fa : F ≠ A
  fm : F ≠ M
  am : A ≠ M
  bx : ∀ b, b ∈ bs → b ≠ F ∧ b ≠ A ∧ b ≠ M
  nd : bs.Nodup
  sh : ShAt H bs ns
section
variable {H0 H H' : Hp} {p F A M : Addr} {bs : List Addr} {y : Str} {q : Int} {ts : List Nat} {ns : List (List (List Int))}
theorem Ot.grow {xs : List V} {o : HO} (h : Ot H0 H F A M bs y q ts ns) (hp : H0 p = some o) (hq : H p = some (.lst xs)) (g : Grow p H H') : Ot H0 H' F A M bs y q ts ns := by
  have ne : ∀ b, H0 b = none → b ≠ p := fun b hb z => by rw [z, hp] at hb; cases hb
  exact ⟨g _ _ (ne _ h.nf) h.f, g _ _ (ne _ h.na) h.a, g _ _ (ne _ h.nm) h.m, h.nf, h.na, h.nm, h.nb, h.fa, h.fm, h.am, h.bx, h.nd, h.sh.lt (Lt.grow g hq) fun b o hb e => g _ _ (ne _ (h.nb b hb)) e⟩
theorem Ot.keep (h : Ot H0 H F A M bs y q ts ns) (k : Same H H') : Ot H0 H' F A M bs y q ts ns :=
  ⟨k _ _ h.f, k _ _ h.a, k _ _ h.m, h.nf, h.na, h.nm, h.nb, h.fa, h.fm, h.am, h.bx, h.nd, h.sh.lt (Lt.of k) fun b o _ e => k _ _ e⟩
theorem sheets_any {M0 : Hp} : ∀ {bs : List Addr} {ns : List (List (List Int))}, bs.length = ns.length → (∀ (i : Nat) (b : Addr) (m : List (List Int)), bs[i]? = some b → ns[i]? = some m → ∃ rs, M0 b = some (.lst rs) ∧ AnyL M0 rs (m.map tupI)) → AnyL M0 (bs.map V.ref) (ns.map sheetD)
  | [], [], _, _ => .nil
  | b :: bs, m :: ns, hl, h => by
    obtain ⟨rs, e1, e2⟩ := h 0 b m rfl rfl
    exact .cons (.lst e1 e2) (sheets_any (by simpa using hl) fun i b' m' h1 h2 => h (i + 1) b' m' (by simpa using h1) (by simpa using h2))
theorem Ot.any {xs : List V} {o : HO} (h : Ot H0 H F A M bs y q ts ns) (hp : H0 p = some o) (hq : H p = some (.lst xs)) : Any (del H p) (.ref F) (draftD y q ts ns) := by
  have ne : ∀ b, H0 b = none → b ≠ p := fun b hb z => by rw [z, hp] at hb; cases hb
  refine .lst (by rw [del_ne (ne _ h.nf)]; exact h.f) (.cons (.str y) (.cons (.int q) (.cons (.lst (by rw [del_ne (ne _ h.na)]; exact h.a) (nats_anyL ts)) (.cons (.lst (by rw [del_ne (ne _ h.nm)]; exact h.m) (sheets_any h.sh.1 fun i b m h1 h2 => ?_)) .nil))))
  obtain ⟨rs, e1, e2⟩ := h.sh.2 i b m h1 h2
  exact ⟨rs, by rw [del_ne (ne _ (h.nb b (List.mem_of_getElem? h1)))]; exact e1, anyL_noL hq _ _ e2 (noL_rowsT m)⟩
end
def spOther : Sp := fun vs H Q _ => ∃ p v x q ss ms n, vs = [.ref p, v] ∧ Bx H p n ∧ n ≤ 500000 ∧ Any (del H p) v (draftD x q ss ms) ∧ Good x q ss ms ∧
  ∀ l H' y q2 ts ns, Good y q2 ts ns → Grow p H H' → Bx H' p (n + 10) → Any (del H' p) (.ref l) (draftD y q2 ts ns) → Q (.ref l) H'
end Rw

set_option Elab.async false
set_option linter.all false
set_option maxRecDepth 100000
set_option maxHeartbeats 4000000
/-! TkCF: drafts changed in one thing: what stays right. -/
namespace Rw
open PySem PySem.Spec PyProof.Rows L2
theorem shnew_add {H1 H2 H3 : Hp} {M l : Addr} {bs : List Addr} {ms : List (List (List Int))} {m : List (List Int)} {rs : List V} (s1 : Same H1 H2) (nd : bs.Nodup) (nb : ∀ b, b ∈ bs → H1 b = none ∧ b ≠ M ∧ ∃ o, H2 b = some o) (sh : ShAt H2 bs ms) (hM : H1 M = none) (eM : H2 M = some (.lst (bs.map V.ref))) (hl : H2 l = none) (k : Same H2 H3) (el : H3 l = some (.lst rs)) (al : AnyL H3 rs (m.map tupI)) :
    ∃ bs2 : List Addr, Same H1 (upd H3 M (.lst (bs.map V.ref ++ [.ref l]))) ∧ (upd H3 M (.lst (bs.map V.ref ++ [.ref l]))) M = some (.lst (bs2.map V.ref)) ∧ bs2.Nodup ∧ (∀ b, b ∈ bs2 → H1 b = none ∧ b ≠ M ∧ ∃ o, (upd H3 M (.lst (bs.map V.ref ++ [.ref l]))) b = some o) ∧ ShAt (upd H3 M (.lst (bs.map V.ref ++ [.ref l]))) bs2 (ms ++ [m]) := by
  have lM : l ≠ M := fun z => by rw [z, eM] at hl; cases hl
  have k3 := k _ _ eM
  have lt : Lt H3 (upd H3 M (.lst (bs.map V.ref ++ [.ref l]))) := Lt.put k3
  refine ⟨bs ++ [l], fun b o e => ?_, by rw [List.map_append]; exact upd_same, ?_, fun b hb => ?_, ?_, fun i b m' h1 h2 => ?_⟩
  · rw [upd_ne (ne_of_none e hM)]
    exact k _ _ (s1 _ _ e)
  · rw [List.nodup_append]
    refine ⟨nd, by simp, fun a ha b hb => ?_⟩
    rw [List.mem_singleton.mp hb]
    intro z
    obtain ⟨_, _, o, e⟩ := nb a ha
    rw [z, hl] at e
    cases e
  · rcases List.mem_append.mp hb with z | z
    · obtain ⟨h1, h2, o, e⟩ := nb b z
      exact ⟨h1, h2, o, by rw [upd_ne h2]; exact k _ _ e⟩
    · rw [List.mem_singleton.mp z]
      exact ⟨s1.free hl, lM, _, by rw [upd_ne lM]; exact el⟩
  · rw [List.length_append, List.length_append, sh.1] <;> rfl
  · by_cases hi : i < bs.length
    · rw [List.getElem?_append_left hi] at h1
      rw [List.getElem?_append_left (by rw [← sh.1]; exact hi)] at h2
      obtain ⟨rs', e1, e2⟩ := sh.2 i b m' h1 h2
      obtain ⟨_, bM, _⟩ := nb b (List.mem_of_getElem? h1)
      exact ⟨rs', by rw [upd_ne bM]; exact k _ _ e1, anyL_lt ((Lt.of k).trans lt) _ _ e2 (noL_rowsT _)⟩
    · rw [List.getElem?_append_right (by omega)] at h1
      rw [List.getElem?_append_right (by rw [← sh.1]; omega)] at h2
      have h0 : i - bs.length = 0 := by
        have := (List.getElem?_eq_some_iff.mp h1).1
        simp at this
        omega
      rw [h0] at h1
      rw [← sh.1, h0] at h2
      have e1 : l = b := by simpa using h1
      have e2 : m = m' := by simpa using h2
      subst e1
      subst e2
      exact ⟨rs, by rw [upd_ne lM]; exact el, anyL_lt lt _ _ al (noL_rowsT _)⟩
theorem bx_on {H H' : Hp} {p : Addr} {n : Nat} (b : Bx H p n) (k : ∀ o, H p = some o → H' p = some o) : Bx H' p n := by
  obtain ⟨c1, c2, c3, h1, rest⟩ := b
  exact ⟨c1, c2, c3, k _ h1, rest⟩
theorem ne_unit {K : PySem.W.Frag} {H : Hp} {v u : V} {r : List Int} {Q : VK} (hr : r.length ≤ 1000) (a : Any H v (tupI r)) (b : Any H u (.tuple [])) (k : Q (.bl (!r.isEmpty)) H) : rNeD K v u H Q := by
  have d1 : (tupI r).depth ≤ 64 := by
    have : PyData.depthAll (r.map PyData.int) ≤ 3 := dep_le fun d hd => by
      obtain ⟨s, _, rfl⟩ := List.mem_map.mp hd
      exact dep_int _
    unfold tupI
    simp only [PyData.depth]
    omega
  refine ne_two a b (lay_tupI r) (lay_tup fun d hd => nomatch hd) d1 (by decide) ?_
  have e : PyData.eqv (tupI r) (.tuple []) = r.isEmpty := by
    have := eqv_tupI r []
    unfold tupI at this ⊢
    rw [List.map_nil] at this
    rw [this]
    cases r with
    | nil => rfl
    | cons a t => exact decide_eq_false fun z => nomatch z
  rw [e]
  exact k
/-! ### the next prime -/
def nextK : List (Key × V) := [(.inl 2, .int 3), (.inl 3, .int 5), (.inl 5, .int 7), (.inl 7, .int 11), (.inl 11, .int 13), (.inl 13, .int 2)]
theorem next_val {q : Int} (h : q ∈ primesL) : ∃ r, r ∈ primesL ∧ some (V.int r) = valV (mergeK [] nextK) (.inl q) := by
  simp only [primesL, List.mem_cons, List.not_mem_nil, or_false] at h
  rcases h with z | z | z | z | z | z <;> subst z
  · exact ⟨3, by decide, rfl⟩
  · exact ⟨5, by decide, rfl⟩
  · exact ⟨7, by decide, rfl⟩
  · exact ⟨11, by decide, rfl⟩
  · exact ⟨13, by decide, rfl⟩
  · exact ⟨2, by decide, rfl⟩
theorem draft_mod {y : Str} {q r : Int} {ts : List Nat} {ns : List (List (List Int))} (d : Draft y q 6 ts ns) (hr : 0 < r) : Draft y r 6 ts (ns.map (redM r)) := by
  refine ⟨d.sl, d.sb, by rw [List.length_map]; exact d.ml, fun i m hm => ?_⟩
  rw [List.getElem?_map] at hm
  cases e : ns[i]? with
  | none => rw [e] at hm; cases hm
  | some m0 =>
    rw [e] at hm
    cases Option.some.inj hm
    have o := d.mo i m0 e
    refine ⟨by unfold redM; rw [List.length_map]; exact o.h, fun x hx => ?_⟩
    obtain ⟨x0, h0, rfl⟩ := List.mem_map.mp hx
    refine ⟨by unfold redR; rw [List.length_map]; exact (o.w x0 h0).1, fun e he => ?_⟩
    obtain ⟨e0, _, rfl⟩ := List.mem_map.mp he
    rw [Int.fmod_eq_emod_of_nonneg _ (by omega)]
    exact ⟨Int.emod_nonneg _ (by omega), Int.emod_lt_of_pos _ hr⟩
theorem draft_item {y : Str} {q v : Int} {ts : List Nat} {ns : List (List (List Int))} {k j : Nat} {m : List (List Int)} {r : List Int} (d : Draft y q 6 ts ns) (hm : ns[k]? = some m) (hr : m[j]? = some r) (v0 : 0 ≤ v) (v1 : v < q) : Draft y q 6 ts (ns.set k (m.set j (r.set 0 v))) := by
  refine ⟨d.sl, d.sb, by rw [List.length_set]; exact d.ml, fun i m' h => ?_⟩
  by_cases z : k = i
  · subst z
    rw [List.getElem?_set_self (List.getElem?_eq_some_iff.mp hm).1] at h
    cases Option.some.inj h
    have o := d.mo k m hm
    refine ⟨by rw [List.length_set]; exact o.h, fun x hx => ?_⟩
    rcases List.mem_or_eq_of_mem_set hx with h1 | h1
    · exact o.w x h1
    · subst h1
      obtain ⟨w1, w2⟩ := o.w r (List.mem_of_getElem? hr)
      refine ⟨by rw [List.length_set]; exact w1, fun e he => ?_⟩
      rcases List.mem_or_eq_of_mem_set he with h2 | h2
      · exact w2 e h2
      · rw [h2]; exact ⟨v0, v1⟩
  · rw [List.getElem?_set_ne z] at h
    exact d.mo i m' h
theorem nodup_inj {α : Type} : ∀ {l : List α} (_ : l.Nodup) {i j : Nat} {a : α} (_ : l[i]? = some a) (_ : l[j]? = some a), i = j
  | [], _, i, j, a, h, _ => by simp at h
  | x :: l, nd, 0, 0, a, _, _ => rfl
  | x :: l, nd, 0, j + 1, a, h1, h2 => by
    have e : x = a := by simpa using h1
    subst e
    exact absurd (List.mem_of_getElem? (by simpa using h2)) (List.nodup_cons.mp nd).1
  | x :: l, nd, i + 1, 0, a, h1, h2 => by
    have e : x = a := by simpa using h2
    subst e
    exact absurd (List.mem_of_getElem? (by simpa using h1)) (List.nodup_cons.mp nd).1
  | x :: l, nd, i + 1, j + 1, a, h1, h2 => by
    rw [nodup_inj (List.nodup_cons.mp nd).2 (i := i) (j := j) (by simpa using h1) (by simpa using h2)]
/-- one sheet's row exchanged -/
theorem ShAt.row {H : Hp} {bs : List Addr} {ns : List (List (List Int))} {k j : Nat} {b t : Addr} {m : List (List Int)} {r : List Int} {rs : List V} (h : ShAt H bs ns) (nd : bs.Nodup) (hb : bs[k]? = some b) (hm : ns[k]? = some m) (eb : H b = some (.lst rs)) (al : AnyL H rs (m.map tupI)) (et : H t = some (.tup (r.map V.int))) : ShAt (upd H b (.lst (rs.set j (.ref t)))) bs (ns.set k (m.set j r)) := by
  have lt : Lt H (upd H b (.lst (rs.set j (.ref t)))) := Lt.put eb
  refine ⟨by rw [List.length_set]; exact h.1, fun i b' m' h1 h2 => ?_⟩
  by_cases z : k = i
  · subst z
    rw [hb] at h1
    cases Option.some.inj h1
    rw [List.getElem?_set_self (List.getElem?_eq_some_iff.mp hm).1] at h2
    cases Option.some.inj h2
    refine ⟨_, upd_same, anyL_lt lt _ _ ?_ (noL_rowsT _)⟩
    rw [List.map_set]
    exact anyL_set al (tupI_any et)
  · rw [List.getElem?_set_ne z] at h2
    obtain ⟨rs', e1, e2⟩ := h.2 i b' m' h1 h2
    have ne : b' ≠ b := fun y => by
      subst y
      have i1 := (List.getElem?_eq_some_iff.mp h1)
      have i2 := (List.getElem?_eq_some_iff.mp hb)
      obtain ⟨l1, g1⟩ := i1
      obtain ⟨l2, g2⟩ := i2
      exact z (nodup_inj nd h1 hb).symm
    exact ⟨rs', by rw [upd_ne ne]; exact e1, anyL_lt lt _ _ e2 (noL_rowsT _)⟩
theorem draft_flip {y z : Str} {q : Int} {ts : List Nat} {ns : List (List (List Int))} (d : Draft y q 6 ts ns) (hl : z.length = y.length) (h0 : ∀ s, s ∈ ts → s = 0) : Draft z q 6 ts ns := by
  have g0 : ∀ i : Nat, ts[i]?.getD 0 = 0 := fun i => by
    cases e : ts[i]? with
    | none => rfl
    | some s => exact h0 s (List.mem_of_getElem? e)
  refine ⟨by rw [hl]; exact d.sl, d.sb, by rw [hl]; exact d.ml, fun i m hm => ?_⟩
  have := d.mo i m hm
  rw [g0, g0] at this ⊢
  exact this
theorem draft_low {y : Str} {q : Int} {ts : List Nat} {ns : List (List (List Int))} {s : Nat} (d : Draft y q 6 ts ns) (hl : ts.length = 1) (hs : s ≤ 6) : Draft y q 6 (ts.set 0 s) ns := by
  have l0 : y.length = 0 := by have := d.sl; omega
  have n0 : ns = [] := List.length_eq_zero_iff.mp (by rw [d.ml]; exact l0)
  refine ⟨by rw [List.length_set]; exact d.sl, fun t ht => ?_, d.ml, fun i m hm => ?_⟩
  · rcases List.mem_or_eq_of_mem_set ht with h | h
    · exact d.sb t h
    · omega
  · rw [n0] at hm
    cases hm
def flipK : List (Key × V) := [(.inr ">", .str "<"), (.inr "<", .str ">")]
theorem flip_val {c : Nat} (h : isArr c = true) : ∃ u : Nat, isArr u = true ∧ some (V.str ⟨#[u]⟩) = valV (mergeK [] flipK) (.inr ⟨#[c]⟩) := by
  unfold isArr at h
  rw [Bool.or_eq_true, beq_iff_eq, beq_iff_eq] at h
  rcases h with z | z <;> subst z
  · exact ⟨60, by decide, by decide⟩
  · exact ⟨62, by decide, by decide⟩
theorem flip_pat {y : Str} {u : Nat} (py : Pat y 6) (hy : y.length ≠ 0) (hu : isArr u = true) : Pat ((⟨#[u]⟩ : Str) ++ cutS y (some 1) none) 6 ∧ ((⟨#[u]⟩ : Str) ++ cutS y (some 1) none).length = y.length := by
  have e : ((⟨#[u]⟩ : Str) ++ cutS y (some 1) none).cps.toList = u :: y.cps.toList.drop 1 := by
    show (#[u] ++ (cutS y (some 1) none).cps).toList = _
    rw [Array.toList_append]
    have e1 : HT.sIx y.length 0 (some 1) = 1 := by
      have := HT.sIx_nat y.length 0 1
      rw [Nat.min_eq_left (by omega)] at this
      exact this
    have e2 : HT.sIx y.length y.length none = y.length := HT.sIx_none _ _
    show [u] ++ ((y.cps.toList.drop (HT.sIx y.length 0 (some 1))).take (HT.sIx y.length y.length none - HT.sIx y.length 0 (some 1))) = _
    rw [e1, e2, List.take_of_length_le (by rw [List.length_drop, str_len]; omega)] <;> rfl
  have l : ((⟨#[u]⟩ : Str) ++ cutS y (some 1) none).length = y.length := by
    rw [← str_len, e, List.length_cons, List.length_drop, str_len]
    omega
  refine ⟨⟨by rw [l]; exact py.l, ?_⟩, l⟩
  rw [e, List.all_cons, hu, Bool.true_and]
  exact List.all_eq_true.mpr fun c hc => List.all_eq_true.mp py.a c (List.mem_of_mem_drop hc)
end Rw

set_option Elab.async false
set_option linter.all false
set_option maxRecDepth 100000
set_option maxHeartbeats 4000000
/-! TkCG: rows made of what was handed in; what was handed in is changed. -/
namespace Rw
open PySem PySem.Spec PyProof.Rows L2
theorem good_of {x : Str} {q : Int} {ds dm : PyData} (px : Pat x 6) (hq : q ∈ primesL) (hs : sizesOk x.length ds = true) (hl : isSeqD dm = true) (l : (itemsD dm).length = x.length) (hm : ∀ k, k < x.length → matOk x ds dm k = true) : rowGood x q ds dm = true := by
  unfold rowGood
  have e1 : isPatD (.str x) = true := by
    show (decide (x.length ≤ 6) && x.cps.toList.all isArr) = true
    rw [decide_eq_true px.l, px.a] <;> rfl
  have e2 : isPr (.int q) = true := decide_eq_true hq
  have e3 : mapsOk x.length dm = true := by
    unfold mapsOk
    rw [Bool.and_eq_true]
    exact ⟨hl, decide_eq_true (by rw [l])⟩
  rw [e1, e2, hs, e3, bad_none hm] <;> rfl
theorem sheetL_is {q : Int} {h w : Nat} {u : List (List Int)} (k : MatOk q h w (redM q u)) : isMatD (h : Nat) (w : Nat) (sheetL u) = true := by
  unfold isMatD
  rw [Bool.and_eq_true, Bool.and_eq_true]
  have lh := k.h
  unfold redM at lh
  rw [List.length_map] at lh
  refine ⟨rfl, decide_eq_true (by show (((u.map lstI).length : Nat) : Int) = _; rw [List.length_map, lh]), List.all_eq_true.mpr fun d hd => ?_⟩
  obtain ⟨r, hr, rfl⟩ := List.mem_map.mp hd
  have lw := (k.w (redR q r) (List.mem_map_of_mem hr)).1
  unfold redR at lw
  rw [List.length_map] at lw
  unfold isVecD
  rw [Bool.and_eq_true, Bool.and_eq_true]
  refine ⟨rfl, decide_eq_true (by show (((r.map PyData.int).length : Nat) : Int) = _; rw [List.length_map, lw]), List.all_eq_true.mpr fun e he => ?_⟩
  obtain ⟨n, _, rfl⟩ := List.mem_map.mp he
  rfl
section
variable {x : Str} {q : Int} {ss : List Nat} {ms ws : List (List (List Int))}
theorem grown_good (g : Good x q ss ms) (e : ws.map (redM q) = ms) : rowGood x q (.list (ss.map natD)) (.list (ws.map sheetL)) = true := by
  have lw : ws.length = x.length := by rw [← g.d.ml, ← e, List.length_map]
  refine good_of g.p g.q (nats_ok g.d.sl g.d.sb) rfl (by show (ws.map sheetL).length = _; rw [List.length_map, lw]) fun k hk => ?_
  have hk2 : k < ws.length := by omega
  have h1 : ms[k]? = some (redM q ws[k]) := by rw [← e, List.getElem?_map, List.getElem?_eq_getElem hk2] <;> rfl
  have h2 : atD (.list (ws.map sheetL)) k = sheetL ws[k] := atD_get (by
    show (ws.map sheetL)[k]? = _
    rw [List.getElem?_map, List.getElem?_eq_getElem hk2] <;> rfl)
  unfold matOk
  rw [h2, nats_sz, nats_sz]
  exact sheetL_is (g.d.mo k _ h1)
theorem rows_red (u : List (List Int)) : rowsM q (sheetL u) = (redM q u).map tupI := by
  unfold rowsM redM
  show (u.map lstI).map (fun r => PyData.tuple ((itemsD r).map (modD q))) = _
  rw [List.map_map, List.map_map]
  refine List.map_congr_left fun r _ => ?_
  show PyData.tuple ((r.map PyData.int).map (modD q)) = .tuple ((redR q r).map .int)
  unfold redR
  rw [List.map_map, List.map_map]
  rfl
theorem grown_rows (e : ws.map (redM q) = ms) : (itemsD (.list (ws.map sheetL))).map (rowsM q) = ms.map fun m => m.map tupI := by
  show (ws.map sheetL).map (rowsM q) = _
  rw [← e, List.map_map, List.map_map]
  exact List.map_congr_left fun u _ => rows_red u
theorem fit_lst {r : List Int} (l : r.length ≤ 1000) (s : smallR r) : Fit1 (lstI r) := ⟨by show (r.map PyData.int).length ≤ _; rw [List.length_map]; exact l, fun n hn => by
  obtain ⟨e, he, h⟩ := List.mem_map.mp (show PyData.int n ∈ r.map PyData.int from hn)
  injection h with h
  subst h
  exact s e he⟩
theorem grown_fit (g : Good x q ss ms) (e : ws.map (redM q) = ms) (sm : ∀ w, w ∈ ws → smallM w) : FitM (.list (ws.map sheetL)) := by
  have lw : ws.length = x.length := by rw [← g.d.ml, ← e, List.length_map]
  have lx := g.p.l
  refine ⟨by show (ws.map sheetL).length ≤ _; rw [List.length_map]; omega, fun d hd => ?_⟩
  obtain ⟨u, hu, rfl⟩ := List.mem_map.mp (show d ∈ ws.map sheetL from hd)
  obtain ⟨k, hk⟩ := List.getElem?_of_mem hu
  have h1 : ms[k]? = some (redM q u) := by rw [← e, List.getElem?_map, hk] <;> rfl
  have o := g.d.mo k _ h1
  have lh : u.length ≤ 6 := by
    have := o.h
    unfold redM at this
    rw [List.length_map] at this
    rw [this]
    exact get_le g.d.sb _
  refine ⟨⟨by show (u.map lstI).length ≤ _; rw [List.length_map]; omega, fun n hn => ?_⟩, fun r hr => ?_⟩
  · obtain ⟨r, _, h⟩ := List.mem_map.mp (show PyData.int n ∈ u.map lstI from hn)
    cases h
  · obtain ⟨r, h2, rfl⟩ := List.mem_map.mp (show r ∈ u.map lstI from hr)
    refine fit_lst ?_ (sm u hu r h2)
    have := (o.w (redR q r) (List.mem_map_of_mem h2)).1
    unfold redR at this
    rw [List.length_map] at this
    rw [this]
    exact Nat.le_trans (get_le g.d.sb _) (by decide)
theorem twin_good (g : Good x q ss ms) : rowGood x q (.tuple (ss.map natD)) (.tuple (ms.map sheetD)) = true := by
  have e3 : sizesOk x.length (.tuple (ss.map natD)) = true := by
    have := nats_ok g.d.sl g.d.sb
    unfold sizesOk at this ⊢
    rw [Bool.and_eq_true] at this ⊢
    exact ⟨rfl, this.2⟩
  refine good_of g.p g.q e3 rfl (by show (ms.map sheetD).length = _; rw [List.length_map, g.d.ml]) fun k hk => ?_
  have hk2 : k < ms.length := by rw [g.d.ml]; exact hk
  have h1 : ms[k]? = some ms[k] := List.getElem?_eq_getElem hk2
  have h2 : atD (.tuple (ms.map sheetD)) k = sheetD ms[k] := atD_get (by
    show (ms.map sheetD)[k]? = _
    rw [List.getElem?_map, h1] <;> rfl)
  unfold matOk
  have n1 : ∀ u, szL (.tuple (ss.map natD)) u = szL (.list (ss.map natD)) u := fun u => rfl
  rw [h2, n1, n1, nats_sz, nats_sz]
  exact mat_is (g.d.mo k _ h1)
theorem twin_fit (g : Good x q ss ms) : FitM (.tuple (ms.map sheetD)) := by
  have f := draft_fitM g.d g.p g.q (Nat.le_refl _)
  exact ⟨f.len, f.sub⟩
theorem sameRow_comm (y : Str) (p : Int) (ts : List Nat) (ns : List (List (List Int))) : sameRow x q ss ms y p ts ns = sameRow y p ts ns x q ss ms := by
  unfold sameRow
  rw [decide_eq_decide.mpr (show (x = y) ↔ (y = x) from eq_comm), decide_eq_decide.mpr (show (q = p) ↔ (p = q) from eq_comm), decide_eq_decide.mpr (show (ss = ts) ↔ (ts = ss) from eq_comm), decide_eq_decide.mpr (show (ms = ns) ↔ (ns = ms) from eq_comm)]
theorem sameRow_self : sameRow x q ss ms x q ss ms = true := by
  unfold sameRow
  rw [decide_eq_true rfl, decide_eq_true rfl, decide_eq_true rfl, decide_eq_true rfl] <;> rfl
/-- a row with sizes 0 alone -/
theorem zero_good (px : Pat x 6) (hq : q ∈ primesL) : Good x q (List.replicate (x.length + 1) 0) (List.replicate x.length []) := by
  refine ⟨⟨List.length_replicate, fun s hs => by rw [List.eq_of_mem_replicate hs]; omega, List.length_replicate, fun i m hm => ?_⟩, px, hq⟩
  have hi := (List.getElem?_eq_some_iff.mp hm)
  obtain ⟨l, e⟩ := hi
  rw [List.getElem_replicate] at e
  subst e
  have z : ∀ j : Nat, (List.replicate (x.length + 1) 0)[j]?.getD 0 = 0 := fun j => by
    rw [List.getElem?_replicate]
    split <;> rfl
  rw [z, z]
  exact ⟨rfl, fun r hr => nomatch hr⟩
end
theorem draft_rd {H : Hp} {p D : Addr} {x : Str} {q : Int} {ss : List Nat} {ms : List (List (List Int))} (a : Any (del H p) (.ref D) (draftD x q ss ms)) : ∃ v2 v3, H D = some (.lst [.str x, .int q, v2, v3]) ∧ Any H v2 (.list (ss.map natD)) ∧ Any H v3 (mapsD ms) ∧ Any H (.ref D) (draftD x q ss ms) := by
  obtain ⟨dp, v0, v1, v2, v3, e0, ed, a0, a1, a2, a3⟩ := any_list4 a
  cases e0
  cases a0
  cases a1
  exact ⟨v2, v3, (dl_at ed).2, a2.keep same_del, a3.keep same_del, a.keep same_del⟩
theorem bars_len {n : Nat} (h : n ≤ 7) : (barsL n).length ≤ 49 := by
  have h1 := pre_len n n
  have h3 : n * n ≤ 7 * 7 := Nat.mul_le_mul h h
  exact Nat.le_trans h1 h3
theorem pat_is {x : Str} (px : Pat x 6) : isPatD (.str x) = true := by
  show (decide (x.length ≤ 6) && x.cps.toList.all isArr) = true
  rw [decide_eq_true px.l, px.a] <;> rfl
/-! ### bars -/
theorem eqv_bar (a b : Nat × Nat) : PyData.eqv (barD a) (barD b) = decide (a = b) := by
  obtain ⟨a1, a2⟩ := a
  obtain ⟨b1, b2⟩ := b
  unfold barD
  rw [PyData.eqv, PyData.eqvAll, PyData.eqvAll, PyData.eqvAll, Bool.and_true]
  have h1 := eqv_nat a1 b1
  have h2 := eqv_nat a2 b2
  unfold natD at h1 h2
  rw [h1, h2]
  by_cases e1 : a1 = b1
  · by_cases e2 : a2 = b2
    · rw [decide_eq_true e1, decide_eq_true e2, decide_eq_true (by rw [e1, e2])] <;> rfl
    · rw [decide_eq_true e1, decide_eq_false e2, decide_eq_false (fun z => e2 (Prod.mk.inj z).2)] <;> rfl
  · rw [decide_eq_false e1, decide_eq_false (fun z => e1 (Prod.mk.inj z).1), Bool.false_and]
theorem same_bars {K : PySem.W.Frag} {H : Hp} {v u : V} {l : List (Nat × Nat)} {Q : VK} (a : Any H v (.list (l.map barD))) (b : Any H u (.list (l.map barD))) (k : Q (.bl false) H) : rNeD K v u H Q := by
  have c : (PyData.list (l.map barD)).canLay0 = true := lay_list fun d hd => by
    obtain ⟨z, _, rfl⟩ := List.mem_map.mp hd
    refine lay_tup fun e he => ?_
    rcases List.mem_cons.mp he with y | he
    · rw [y]; first | rfl | simp only [PyData.canLay0]
    · rw [List.mem_singleton.mp he]
      first | rfl | simp only [PyData.canLay0]
  have dp : (PyData.list (l.map barD)).depth ≤ 64 := by
    have : PyData.depthAll (l.map barD) ≤ 20 := dep_le fun d hd => by
      obtain ⟨z, _, rfl⟩ := List.mem_map.mp hd
      have : PyData.depthAll [.int (z.1 : Nat), .int (z.2 : Nat)] ≤ 3 := dep_le fun e he => by
        rcases List.mem_cons.mp he with y | he
        · rw [y]; exact dep_int _
        · rw [List.mem_singleton.mp he]
          exact dep_int _
      unfold barD
      simp only [PyData.depth]
      omega
    simp only [PyData.depth]
    omega
  refine ne_two a b c c dp dp ?_
  rw [PyData.eqv, eqvAll_map barD eqv_bar, decide_eq_true rfl]
  exact k
/-! ### what was handed in is changed -/
structure GAt (H0 H1 : Hp) (G : Addr) (acc : List V) : Prop where
  nd : acc.Nodup
  s : ∀ v, v ∈ acc → ∃ b rs, v = .ref b ∧ H0 b = none ∧ b ≠ G ∧ H1 b = some (.lst rs) ∧ ∀ r, r ∈ rs → r ∉ acc ∧ ∃ c xs, r = .ref c ∧ H0 c = none ∧ c ≠ G ∧ H1 c = some (.lst xs) ∧ xs.length ≤ 1000
theorem gat_of {H0 H1 : Hp} {G : Addr} {acc : List V} {ws : List (List (List Int))} (al : AnyL (del (nw H0 H1) G) acc (ws.map sheetL)) (ap : Ap H1 acc) (sm : ∀ w, w ∈ ws → ∀ r, r ∈ w → r.length ≤ 1000) : GAt H0 H1 G acc := ⟨ap.1, fun v hv => by
  obtain ⟨b, rs, w, rfl, hw, eb, al2⟩ := sheets_mem al v hv
  obtain ⟨h1, h2, h3⟩ := dnw_at eb
  refine ⟨b, rs, rfl, h1, h3, h2, fun r hr => ⟨ap.2 b rs hv h2 r hr, ?_⟩⟩
  obtain ⟨c, e, rfl, he, ec⟩ := rows_mem al2 r hr
  obtain ⟨c1, c2, c3⟩ := dnw_at ec
  exact ⟨c, _, rfl, c1, c3, c2, by rw [List.length_map]; exact sm w hw e he⟩⟩
structure MI (H0 H1 Hs : Hp) (p G : Addr) (N : Nat) (acc : List V) (i L : Nat) (H : Hp) : Prop where
  g : Grow p H0 H
  b : Bx H p N
  c : H G = some (.lst acc)
  t : Lt Hs H
  e : ∀ j b rs, i ≤ j → acc[j]? = some (.ref b) → H1 b = some (.lst rs) → H b = some (.lst rs)
  f : ∀ b rs r c, V.ref b ∈ acc → H1 b = some (.lst rs) → r ∈ rs → r = .ref c → ∃ xs, H c = some (.lst xs) ∧ xs.length ≤ L
section
variable {H0 H1 Hs H : Hp} {p G : Addr} {N i L : Nat} {acc : List V} {o : HO}
theorem MI.row {b c : Addr} {rs xs : List V} {y : V} (g : GAt H0 H1 G acc) (hp : H0 p = some o) (m : MI H0 H1 Hs p G N acc i L H) (hb : V.ref b ∈ acc) (eb : H1 b = some (.lst rs)) (hc : V.ref c ∈ rs) (ec : H c = some (.lst xs)) (lx : xs.length ≤ L) : MI H0 H1 Hs p G N acc i (L + 1) (upd H c (.lst (xs ++ [y]))) := by
  obtain ⟨b', rs', e1, h1, h2, h3, h4⟩ := g.s _ hb
  cases e1
  rw [eb] at h3
  cases h3
  obtain ⟨n1, c', xs', e2, c0, cG, _⟩ := h4 _ hc
  cases e2
  have cp : p ≠ c := fun z => by rw [← z, hp] at c0; cases c0
  refine ⟨fun d u ne e => ?_, bx_on m.b fun u e => by rw [upd_ne cp]; exact e, by rw [upd_ne cG.symm]; exact m.c, m.t.trans (Lt.put ec), fun j d ds hj hd ed => ?_, fun d ds r u hd ed hr er => ?_⟩
  · rw [upd_ne (ne_of_none e c0)]
    exact m.g d u ne e
  · have : d ≠ c := fun z => n1 (by rw [← z]; exact List.mem_of_getElem? hd)
    rw [upd_ne this]
    exact m.e j d ds hj hd ed
  · obtain ⟨zs, e5, l5⟩ := m.f d ds r u hd ed hr er
    by_cases z : u = c
    · rw [z]
      exact ⟨_, upd_same, by rw [List.length_append]; show xs.length + 1 ≤ _; omega⟩
    · exact ⟨zs, by rw [upd_ne z]; exact e5, by omega⟩
theorem MI.mono {L' : Nat} (m : MI H0 H1 Hs p G N acc i L H) (h : L ≤ L') : MI H0 H1 Hs p G N acc i L' H := ⟨m.g, m.b, m.c, m.t, m.e, fun b rs r c hb eb hr er => by
  obtain ⟨xs, e, l⟩ := m.f b rs r c hb eb hr er
  exact ⟨xs, e, by omega⟩⟩
theorem MI.sheet {b : Addr} {rs : List V} {y : V} (g : GAt H0 H1 G acc) (hp : H0 p = some o) (m : MI H0 H1 Hs p G N acc i L H) (hb : acc[i]? = some (.ref b)) (eb : H b = some (.lst rs)) : MI H0 H1 Hs p G N acc (i + 1) L (upd H b (.lst (rs ++ [y]))) := by
  have hm := List.mem_of_getElem? hb
  obtain ⟨b', rs', e1, h1, h2, h3, h4⟩ := g.s _ hm
  cases e1
  have bp : p ≠ b := fun z => by rw [← z, hp] at h1; cases h1
  refine ⟨fun d u ne e => ?_, bx_on m.b fun u e => by rw [upd_ne bp]; exact e, by rw [upd_ne h2.symm]; exact m.c, m.t.trans (Lt.put eb), fun j d ds hj hd ed => ?_, fun d ds r u hd ed hr er => ?_⟩
  · rw [upd_ne (ne_of_none e h1)]
    exact m.g d u ne e
  · have : d ≠ b := fun z => by
      rw [z] at hd
      have := nodup_inj g.nd hd hb
      omega
    rw [upd_ne this]
    exact m.e j d ds (by omega) hd ed
  · obtain ⟨d', ds', e5, _, _, e6, h7⟩ := g.s _ hd
    cases e5
    rw [ed] at e6
    cases e6
    have n1 := (h7 r hr).1
    obtain ⟨zs, e5, l5⟩ := m.f d ds r u hd ed hr er
    have : u ≠ b := fun z => n1 (by rw [er, z]; exact hm)
    exact ⟨zs, by rw [upd_ne this]; exact e5, l5⟩
end
end Rw

set_option Elab.async false
set_option linter.all false
set_option maxRecDepth 100000
set_option maxHeartbeats 4000000
/-! TkFA: a row with one arrow and one place more. -/
namespace Rw
open PySem PySem.Spec PyProof.Rows L2
theorem lenT (x : Str) : x.cps.toList.length = x.length := Array.length_toList
theorem catT_list (x y : Str) : (x ++ y).cps.toList = x.cps.toList ++ y.cps.toList := by
  show (x.cps ++ y.cps).toList = _
  rw [Array.toList_append]
theorem catT_len (x y : Str) : (x ++ y).length = x.length + y.length := by
  rw [← lenT, catT_list, List.length_append, lenT, lenT]
/-- the sign of an arrow that leads on -/
def arrS (r : Bool) : Str := if r = true then ">" else "<"
theorem arrS_list (r : Bool) : (arrS r).cps.toList = [if r = true then 62 else 60] := by cases r <;> rfl
theorem arrS_len (r : Bool) : (arrS r).length = 1 := by cases r <;> rfl
theorem more_len (x : Str) (r : Bool) : (x ++ arrS r).length = x.length + 1 := by rw [catT_len, arrS_len]
theorem more_old {x : Str} {r : Bool} {i : Nat} (h : i < x.length) : isR (x ++ arrS r) i = isR x i := by
  unfold isR
  rw [catT_list, List.getElem?_append_left (by rw [lenT]; exact h)]
theorem more_new (x : Str) (r : Bool) : isR (x ++ arrS r) x.length = r := by
  unfold isR
  rw [catT_list, List.getElem?_append_right (by rw [lenT]; exact Nat.le_refl _), lenT, Nat.sub_self, arrS_list]
  cases r <;> rfl
theorem more_st {x : Str} {r : Bool} {i : Nat} (h : i < x.length) : stA (x ++ arrS r) i = stA x i ∧ goA (x ++ arrS r) i = goA x i := by
  unfold stA goA
  rw [more_old h]
  exact ⟨rfl, rfl⟩
theorem more_pat {x : Str} {r : Bool} (p : Pat x 6) (h : x.length < 6) : Pat (x ++ arrS r) 6 := by
  refine ⟨by rw [more_len]; omega, ?_⟩
  rw [catT_list, List.all_append, p.a, arrS_list]
  cases r <;> rfl
/-- the last size, and the measures that one more arrow asks for -/
def lastS (ss : List Nat) : Nat := ss[ss.length - 1]?.getD 0
def highS (r : Bool) (ss : List Nat) (n : Nat) : Nat := if r = true then lastS ss else n
def wideS (r : Bool) (ss : List Nat) (n : Nat) : Nat := if r = true then n else lastS ss
def moreSz (ss : List Nat) (n : Nat) : PyData := .tuple (ss.map natD ++ [natD n])
def moreMp (ms : List (List (List Int))) (d : PyData) : PyData := .list (ms.map sheetD ++ [d])
theorem sz_old {ss : List Nat} {n j : Nat} (h : j < ss.length) : szL (moreSz ss n) j = ((ss[j]?.getD 0 : Nat) : Int) := by
  unfold szL atD
  show intN ((ss.map natD ++ [natD n])[j]?.getD .none) = _
  rw [List.getElem?_append_left (by rw [List.length_map]; exact h), List.getElem?_map]
  cases ss[j]? <;> rfl
theorem sz_new {ss : List Nat} {n : Nat} : szL (moreSz ss n) ss.length = (n : Int) := by
  unfold szL atD
  show intN ((ss.map natD ++ [natD n])[ss.length]?.getD .none) = _
  rw [List.getElem?_append_right (by rw [List.length_map]; exact Nat.le_refl _), List.length_map, Nat.sub_self] <;> rfl
theorem more_good {x : Str} {q : Int} {ss : List Nat} {ms : List (List (List Int))} {r : Bool} {n : Nat} {d : PyData} (g : Good x q ss ms) (h : x.length < 6) (hn : n ≤ 6) :
    isPatD (.str (x ++ arrS r)) = true ∧ isPr (.int q) = true ∧ sizesOk (x ++ arrS r).length (moreSz ss n) = true ∧ mapsOk (x ++ arrS r).length (moreMp ms d) = true ∧
    badAt (x ++ arrS r) (moreSz ss n) (moreMp ms d) = (if isMatD (highS r ss n : Nat) (wideS r ss n : Nat) d = true then none else some x.length) ∧ atD (moreMp ms d) x.length = d := by
  have pm := more_pat (r := r) g.p h
  have l1 : ss.length = x.length + 1 := g.d.sl
  have l2 : ms.length = x.length := g.d.ml
  have e6 : atD (moreMp ms d) x.length = d := by
    unfold atD
    show ((ms.map sheetD ++ [d])[x.length]?).getD .none = d
    rw [List.getElem?_append_right (by rw [List.length_map, l2]; exact Nat.le_refl _), List.length_map, l2, Nat.sub_self] <;> rfl
  refine ⟨?_, decide_eq_true g.q, ?_, ?_, ?_, e6⟩
  · show (decide ((x ++ arrS r).length ≤ 6) && (x ++ arrS r).cps.toList.all isArr) = true
    rw [decide_eq_true pm.l, pm.a] <;> rfl
  · unfold sizesOk
    rw [Bool.and_eq_true, Bool.and_eq_true]
    refine ⟨rfl, decide_eq_true (by show (ss.map natD ++ [natD n]).length = _; rw [List.length_append, List.length_map, l1, more_len] <;> rfl), List.all_eq_true.mpr fun e he => ?_⟩
    obtain ⟨s, hs, rfl⟩ : ∃ s, s ≤ 6 ∧ e = natD s := by
      rcases List.mem_append.mp he with z | z
      · obtain ⟨s, hs, rfl⟩ := List.mem_map.mp z
        exact ⟨s, g.d.sb s hs, rfl⟩
      · exact ⟨n, hn, List.mem_singleton.mp z⟩
    show (decide ((0 : Int) ≤ (s : Nat)) && decide (((s : Nat) : Int) ≤ 6)) = true
    rw [Bool.and_eq_true]
    exact ⟨decide_eq_true (by omega), decide_eq_true (by omega)⟩
  · unfold mapsOk
    rw [Bool.and_eq_true]
    exact ⟨rfl, decide_eq_true (by show (ms.map sheetD ++ [d]).length = _; rw [List.length_append, List.length_map, l2, more_len] <;> rfl)⟩
  · have old : ∀ j, j < x.length → matOk (x ++ arrS r) (moreSz ss n) (moreMp ms d) j = true := fun j hj => by
      obtain ⟨s1, s2⟩ := more_st (r := r) hj
      have hj2 : j < ms.length := by rw [l2]; exact hj
      have h1 : ms[j]? = some ms[j] := List.getElem?_eq_getElem hj2
      have ed : atD (moreMp ms d) j = sheetD ms[j] := by
        unfold atD
        show ((ms.map sheetD ++ [d])[j]?).getD .none = _
        rw [List.getElem?_append_left (by rw [List.length_map]; exact hj2), List.getElem?_map, h1] <;> rfl
      have a1 := stA_le x j
      have a2 := goA_le x j
      unfold matOk
      rw [s1, s2, sz_old (by omega), sz_old (by omega), ed]
      exact mat_is (g.d.mo j _ h1)
    have new : matOk (x ++ arrS r) (moreSz ss n) (moreMp ms d) x.length = isMatD (highS r ss n : Nat) (wideS r ss n : Nat) d := by
      have el : lastS ss = ss[x.length]?.getD 0 := by unfold lastS; rw [l1, Nat.add_sub_cancel]
      unfold matOk stA goA highS wideS
      rw [e6, more_new]
      cases r with
      | true =>
        rw [if_pos rfl, if_pos rfl, if_pos rfl, if_pos rfl, sz_old (j := x.length) (by omega), el, show x.length + 1 = ss.length by omega, sz_new]
      | false =>
        rw [if_neg (by decide), if_neg (by decide), if_neg (by decide), if_neg (by decide), sz_old (j := x.length) (by omega), el, show x.length + 1 = ss.length by omega, sz_new]
    cases e : isMatD (highS r ss n : Nat) (wideS r ss n : Nat) d with
    | true =>
      rw [if_pos rfl]
      refine bad_none fun j hj => ?_
      rw [more_len] at hj
      by_cases hj2 : j < x.length
      · exact old j hj2
      · rw [show j = x.length by omega, new, e]
    | false =>
      rw [if_neg (by decide)]
      exact bad_some (by rw [more_len]; omega) (by rw [new, e]) old
end Rw

set_option Elab.async false
set_option linter.all false
set_option maxRecDepth 100000
set_option maxHeartbeats 4000000
/-! TkDA: vectors mixed, matrices joined and exchanged: the promises. -/
namespace Rw
open PySem PySem.Spec PyProof.Rows L2
def spWid : Sp := fun vs H Q _ => ∃ v d w, vs = [v, .int w] ∧ Any H v d ∧ Fit d ∧ ∀ H', Same H H' → Q (.bl (isMatD (itemsD d).length w d)) H'
def intD : PyData → Int
  | .int n => n | _ => 0
def cellD (e : PyData) (c : Nat) : Int := intD ((itemsD e)[c]?.getD .none)
def prodsL (dv dm : PyData) (c : Nat) : List Int := ((itemsD dv).zip (itemsD dm)).map fun q => intD q.1 * cellD q.2 c
/-- the sum of rows, each times its factor -/
def mixL (p : Int) (dv dm : PyData) (w : Nat) : List Int := (List.range w).map fun c => (prodsL dv dm c).sum.fmod p
def colL (p : Int) (dm : PyData) (c : Nat) : List Int := (itemsD dm).map fun e => (cellD e c).fmod p
def spMixed : Sp := fun vs H Q _ => ∃ (p : Int) (va vm : V) (dv dm : PyData) (w : Nat), vs = [.int p, va, vm, .int (w : Int)] ∧ p ≠ 0 ∧ Any H va dv ∧ Any H vm dm ∧ Fit1 dv ∧ Fit dm ∧ isVecD (itemsD dm).length dv = true ∧ isMatD (itemsD dm).length w dm = true ∧ w ≤ 1000 ∧
  ∀ t H', H t = none → Same H H' → H' t = some (.tup ((mixL p dv dm w).map V.int)) → Q (.ref t) H'
def spLed (CP CV CM : Addr) : Sp := fun vs H Q E => ∃ (pv va vm : V) (dp dv dm : PyData) (w : Nat), vs = [pv, va, vm, .int (w : Int)] ∧ Any H pv dp ∧ Any H va dv ∧ Any H vm dm ∧ Fit dv ∧ Fit dm ∧ w ≤ 1000 ∧
  (isPr dp = false → Thrown CP pv H E) ∧ (isPr dp = true → isVecD (itemsD dv).length dv = false → Thrown CV va H E) ∧
  (isPr dp = true → isVecD (itemsD dv).length dv = true → isMatD (itemsD dv).length w dm = false → Thrown CM vm H E) ∧
  (∀ p, dp = .int p → p ∈ primesL → isVecD (itemsD dv).length dv = true → isMatD (itemsD dv).length w dm = true → ∀ t H', H t = none → Same H H' → H' t = some (.tup ((mixL p dv dm w).map V.int)) → Q (.ref t) H')
def spJoined (CP CM : Addr) : Sp := fun vs H Q E => ∃ (pv va vm : V) (dp dv dm : PyData) (w : Nat), vs = [pv, va, vm, .int (w : Int)] ∧ Any H pv dp ∧ Any H va dv ∧ Any H vm dm ∧ Fit dv ∧ Fit dm ∧ w ≤ 1000 ∧
  (isPr dp = false → Thrown CP pv H E) ∧ (isPr dp = true → isMatD (itemsD dm).length w dm = false → Thrown CM vm H E) ∧
  (isPr dp = true → isMatD (itemsD dm).length w dm = true → isMatD (itemsD dv).length (itemsD dm).length dv = false → Thrown CM va H E) ∧
  (∀ p, dp = .int p → p ∈ primesL → isMatD (itemsD dm).length w dm = true → isMatD (itemsD dv).length (itemsD dm).length dv = true → ∀ l acc H', H l = none → Same H H' → H' l = some (.lst acc) → AnyL (del H' l) acc ((itemsD dv).map fun e => tupI (mixL p e dm w)) → Q (.ref l) H')
def spExch (CP CM : Addr) : Sp := fun vs H Q E => ∃ (pv vm : V) (dp dm : PyData) (w : Nat), vs = [pv, vm, .int (w : Int)] ∧ Any H pv dp ∧ Any H vm dm ∧ Fit dm ∧ w ≤ 1000 ∧
  (isPr dp = false → Thrown CP pv H E) ∧ (isPr dp = true → isMatD (itemsD dm).length w dm = false → Thrown CM vm H E) ∧
  (∀ p, dp = .int p → p ∈ primesL → isMatD (itemsD dm).length w dm = true → ∀ l acc H', H l = none → Same H H' → H' l = some (.lst acc) → AnyL (del H' l) acc ((List.range w).map fun c => tupI (colL p dm c)) → Q (.ref l) H')
theorem pr_int {d : PyData} (e : isPr d = true) : ∃ p, d = .int p ∧ p ∈ primesL := by
  cases d with
  | int n => exact ⟨n, rfl, of_decide_eq_true e⟩
  | _ => cases e
theorem mulW_ok {a b : Int} (h1 : a.natAbs.log2 < 400) (h2 : b.natAbs.log2 < 400) : CMulW a b := by
  show a.natAbs.log2 + b.natAbs.log2 < 1000000
  omega
/-- the sums of the first rows, each times its factor -/
def totL (dv dm : PyData) (w i : Nat) : List Int := (List.range w).map fun c => ((prodsL dv dm c).take i).sum
theorem totL_len (dv dm : PyData) (w i : Nat) : (totL dv dm w i).length = w := by
  unfold totL
  rw [List.length_map, List.length_range]
theorem totL_at {dv dm : PyData} {w i c : Nat} (h : c < w) : (totL dv dm w i)[c]? = some ((prodsL dv dm c).take i).sum := by
  unfold totL
  rw [List.getElem?_map, List.getElem?_range h] <;> rfl
theorem tot_succ {dv dm : PyData} {i c : Nat} {x : Int} (h : (prodsL dv dm c)[i]? = some x) : ((prodsL dv dm c).take (i + 1)).sum = ((prodsL dv dm c).take i).sum + x := by
  rw [List.take_add_one, h]
  simp
theorem totL_zero (dv dm : PyData) (w : Nat) : (totL dv dm w 0).map V.int = (List.replicate w [V.int 0]).flatten := by
  have h : ∀ w, (List.replicate w [V.int 0]).flatten = List.replicate w (V.int 0) := fun w => by simp
  rw [h]
  unfold totL
  rw [List.map_map]
  apply List.ext_getElem
  · simp
  · intro j h1 h2
    simp
end Rw

set_option Elab.async false
set_option linter.all false
set_option maxRecDepth 100000
set_option maxHeartbeats 4000000
/-! TkFB: the promises about one map more. -/
namespace Rw
open PySem PySem.Spec PyProof.Rows L2
def isArD : PyData → Bool
  | .str z => decide (z = ">") || decide (z = "<")
  | _ => false
theorem arD_of {d : PyData} (h : isArD d = true) : ∃ r, d = .str (arrS r) := by
  cases d with
  | str z =>
    have h2 : (decide (z = ">") || decide (z = "<")) = true := h
    rw [Bool.or_eq_true, decide_eq_true_iff, decide_eq_true_iff] at h2
    rcases h2 with e | e
    · exact ⟨true, by rw [e] <;> rfl⟩
    · exact ⟨false, by rw [e] <;> rfl⟩
  | _ => cases h
theorem arD_is (r : Bool) : isArD (.str (arrS r)) = true := by cases r <;> decide
theorem arr_tab2 {v1 v2 : Value} (z : Str) : (lookS [(">", v1), ("<", v2)] z).isSome = isArD (.str z) := by
  unfold lookS
  show _ = (decide (z = ">") || decide (z = "<"))
  by_cases h1 : z = ">"
  · subst h1
    simp
  · by_cases h2 : z = "<"
    · subst h2
      simp
    · have h3 : ¬ ((">" : String) : Str) = z := fun e => h1 e.symm
      have h4 : ¬ (("<" : String) : Str) = z := fun e => h2 e.symm
      simp [h1, h2, h3, h4]
def spCSize (CS : Addr) : Sp := fun vs H Q E => ∃ v d, vs = [v] ∧ Any H v d ∧ (isSzD d = true → Q .non H) ∧ (isSzD d = false → Thrown CS v H E)
def spCArrow (CW CG : Addr) : Sp := fun vs H Q E => ∃ x v d, vs = [.str x, v] ∧ x.length ≤ 6 ∧ Any H v d ∧ (isArD d = false → Thrown CW v H E) ∧ (isArD d = true → x.length = 6 → Thrown CG (.int 7) H E) ∧ (isArD d = true → x.length < 6 → Q .non H)
def spGrow (C CW CG CS CM : Addr) : Sp := fun vs H Q E => ∃ a va vn vm x p ss ms da dn dm, vs = [.ref a, va, vn, vm] ∧ RowOf C H a x p ss ms ∧ Good x p ss ms ∧ Any H va da ∧ Any H vn dn ∧ Any H vm dm ∧ Fit dm ∧
  (isArD da = false → Thrown CW va H E) ∧ (isArD da = true → x.length = 6 → Thrown CG (.int 7) H E) ∧ (isArD da = true → x.length < 6 → isSzD dn = false → Thrown CS vn H E) ∧
  (∀ r (n : Nat) v H1, da = .str (arrS r) → x.length < 6 → dn = natD n → n ≤ 6 → isMatD (highS r ss n : Nat) (wideS r ss n : Nat) dm = false → Same H H1 → Any H1 v dm → Thrown CM v H1 E) ∧
  ∀ r (n : Nat) o H', da = .str (arrS r) → x.length < 6 → dn = natD n → n ≤ 6 → isMatD (highS r ss n : Nat) (wideS r ss n : Nat) dm = true → H o = none → Same H H' →
    RowAt C H' o (x ++ arrS r) p ((ss ++ [n]).map natD) (ms.map (fun m => m.map tupI) ++ [rowsM p dm]) → Q (.ref o) H'
theorem sz_of {d : PyData} (h : isSzD d = true) : ∃ n : Nat, d = natD n ∧ n ≤ 6 := by
  cases d with
  | int i =>
    have h2 : (decide ((0 : Int) ≤ i) && decide (i ≤ 6)) = true := h
    rw [Bool.and_eq_true] at h2
    have a1 := of_decide_eq_true h2.1
    have a2 := of_decide_eq_true h2.2
    exact ⟨i.toNat, by show PyData.int i = .int (i.toNat : Nat); rw [Int.toNat_of_nonneg a1], by omega⟩
  | _ => cases h
end Rw

set_option Elab.async false
set_option linter.all false
set_option maxRecDepth 100000
set_option maxHeartbeats 4000000
/-! TkFC: xs[::s] with s 1 or -1; drawn vectors and rows with great numbers. -/
namespace Rw
open PySem PySem.Spec PyProof.Rows L2
theorem pick_one (items : Array Value) : slicePick items none none (some 1) = items := by
  have e : sliceBounds none none (none : Option Int) items.size = (((0 : Nat) : Int), ((items.size : Nat) : Int), 1) := by
    unfold sliceBounds
    simp
  show slicePick items none none none = items
  rw [PySem.W.kmk_pick_nat items e]
  have h : items.toList.length = items.size := Array.length_toList
  rw [List.drop_zero, Nat.sub_zero, ← h, List.take_length]
def tStepL (K : PySem.W.Frag) (te ts : TE) : TE := fun σ H Q => te σ H fun x H1 => tPart ts σ H1 fun z H2 => ∃ (a : Addr) (xs : List V) (r : Bool), x = .ref a ∧ SqL K H2 a xs ∧ z = some (if r = true then -1 else 1) ∧ ∀ p, H2 p = none → Q (.ref p) (upd H2 p (.lst (if r = true then xs.reverse else xs)))
theorem pe_stepL {X : Cx} {e st : PySem.Expr} {te ts : TE} {p3 pos : Pos} (he : PE X e te) (hs : PE X st ts)
    (hq : ∀ (a b : Addr), subscripted (.Slice none none (some st) p3) false (.ref a) (.ref b) = operate [.ref a, .ref b] (getItem (.ref a) (.ref b)) := by intros; with_unfolding_all rfl) : PE X (.Subscript e (.Slice none none (some st) p3) pos) (tStepL X.K te ts) := by
  refine ⟨fun pins s σ H Q I h => ?_⟩
  refine Subscript_ (thn (he.run pins s σ H _ I h) fun v s1 ⟨x, H1, I1, r1, q1⟩ => ?_)
  have hst : PO X (some st) (tPart ts) := po_some hs
  refine wpAny_Slice (thn (po_none.run pins s1 σ H1 (fun o H2 => o = none ∧ H2 = H1) I1 ⟨rfl, rfl⟩) fun vl s2 ⟨l, H2, I2, pl, el, e2⟩ => ?_)
  subst el e2
  refine thn (po_none.run pins s2 σ H2 (fun o H3 => o = none ∧ H3 = H2) I2 ⟨rfl, rfl⟩) fun vu s3 ⟨u, H3, I3, pu, eu, e3⟩ => ?_
  subst eu e3
  refine thn (hst.run pins s3 σ H3 _ I3 q1) fun vs s4 ⟨o, H4, I4, ps, a, xs, r, ex, hx, eo, q⟩ => ?_
  subst ex eo
  cases r1
  have I5 : Inv X pins σ H4 { s4 with heap := s4.heap.push { cls := .type "slice", data := .fields #[vl, vu, vs] } } := I4.kept (t' := s4.toks) fun b ob q => Heap.get?_push_of_some _ q
  obtain ⟨its, rr, ht, hz⟩ := I5.list hx
  have hlen := rr.length
  show wpAny (model X.prog X.w) X.A (subscriptTail e (.Slice none none (some st) p3) (.ref a) (.ref s4.heap.objs.size)) (EP X pins σ Q) X.xe { s4 with heap := s4.heap.push { cls := .type "slice", data := .fields #[vl, vu, vs] } }
  refine tail_any (ops := [.ref a, .ref s4.heap.objs.size]) ht.isList.typeIs (PySem.slot_list_getitem.lookup) ?_ (hq _ _)
  refine wpAny_getItem_list_slice ht.isList (Heap.IsSliceOf.new _ vl vu vs) pl pu ps (by cases r <;> decide) ?_ (by rw [List.size_toArray]; omega)
  cases r with
  | true =>
    rw [if_pos rfl, PySem.W.krv_pick]
    refine ⟨.ref _, _, I5.laid (t' := s4.toks) (o := .lst xs.reverse) (fun b ob q => Heap.get?_push_of_some _ q) (Nat.le_refl _) ?_, rfl, q _ (I5.hok.fresh (Nat.le_refl _))⟩
    exact ⟨by rw [List.length_reverse]; exact hz, _, 0, rr.reverse, Heap.get?_push_size _ rfl⟩
  | false =>
    rw [if_neg (by decide), pick_one]
    refine ⟨.ref _, _, I5.laid (t' := s4.toks) (o := .lst xs) (fun b ob q => Heap.get?_push_of_some _ q) (Nat.le_refl _) ?_, rfl, q _ (I5.hok.fresh (Nat.le_refl _))⟩
    exact ⟨hz, _, 0, rr, Heap.get?_push_size _ rfl⟩
end Rw

set_option Elab.async false
set_option linter.all false
set_option maxRecDepth 100000
set_option maxHeartbeats 4000000
/-! TkFD: drawn vectors and webs, with great numbers; the row of a web. -/
namespace Rw
open PySem PySem.Spec PyProof.Rows L2
def Big (e : Int) : Prop := e.natAbs < 10 ^ 29
structure BigM (k w : Nat) (m : List (List Int)) : Prop where
  h : m.length = k
  w : ∀ r, r ∈ m → r.length = w ∧ ∀ e, e ∈ r → Big e
structure Web (x : Str) (q : Int) (high : Nat) (ss : List Nat) (ms : List (List (List Int))) : Prop where
  sl : ss.length = x.length + 1
  sb : ∀ s, s ∈ ss → s ≤ high
  ml : ms.length = x.length
  mo : ∀ i m, ms[i]? = some m → BigM (ss[stA x i]?.getD 0) (ss[goA x i]?.getD 0) m
def spDigit : Sp := fun vs H Q _ => ∃ (p : Addr) (q : Int) (n : Nat), vs = [.ref p, .int q] ∧ q ∈ primesL ∧ Bx H p n ∧ n ≤ 900000 ∧ ∀ e H', Big e → Grow p H H' → Bx H' p (n + 3) → Q (.int e) H'
def spVecs : Sp := fun vs H Q _ => ∃ (p : Addr) (q : Int) (w k n : Nat), vs = [.ref p, .int q, .int (w : Nat), .int (k : Nat)] ∧ q ∈ primesL ∧ w ≤ 6 ∧ k ≤ 6 ∧ Bx H p n ∧ n ≤ 850000 ∧
  ∀ l acc m H', H l = none → Grow p H H' → Bx H' p (n + 300) → H' l = some (.lst acc) → AnyL H' acc (m.map tupI) → BigM k w m → Q (.ref l) H'
def spWeb : Sp := fun vs H Q _ => ∃ (p : Addr) (most high n : Nat), vs = [.ref p, .int (most : Nat), .int (high : Nat)] ∧ most ≤ 6 ∧ high ≤ 6 ∧ Bx H p n ∧ n ≤ 800000 ∧
  ∀ l x q ss ms H', Web x q high ss ms → Pat x most → q ∈ primesL → Grow p H H' → Bx H' p (n + 3000) → Any (del H' p) (.ref l) (draftD x q ss ms) → Q (.ref l) H'
def spMade (C : Addr) : Sp := fun vs H Q _ => ∃ v x q high ss ms, vs = [v] ∧ Any H v (draftD x q ss ms) ∧ Web x q high ss ms ∧ Pat x 6 ∧ q ∈ primesL ∧ high ≤ 6 ∧ ∀ a H', H a = none → Same H H' → RowOf C H' a x q ss (ms.map (redM q)) → Q (.ref a) H'
def spShape : Sp := fun vs H Q _ => ∃ (r : Bool) (a b : Nat), vs = [.str (arrS r), .int (a : Nat), .int (b : Nat)] ∧ ∀ t H', Same H H' → H' t = some (.tup [.int ((if r = true then a else b : Nat) : Int), .int ((if r = true then b else a : Nat) : Int)]) → Q (.ref t) H'
theorem tups_lt {H H' : Hp} {acc : List V} {m : List (List Int)} (a : AnyL H acc (m.map tupI)) (k : Lt H H') : AnyL H' acc (m.map tupI) := anyL_lt k _ _ a (noLs_of fun d hd => by
  obtain ⟨r, _, rfl⟩ := List.mem_map.mp hd
  exact noL_tupI r)
theorem grow_lt {p : Addr} {H H' : Hp} {n : Nat} (b : Bx H p n) (g : Grow p H H') : Lt H H' := fun c o e nl => by
  obtain ⟨xs, hp⟩ := bx_at b
  exact g c o (fun z => by rw [z, hp] at e; exact nl xs (Option.some.inj e).symm) e
theorem tup_row {H : Hp} {acc : List V} {m : List (List Int)} {j : Nat} (a : AnyL H acc (m.map tupI)) (h : j < m.length) : ∃ t r, acc[j]? = some (.ref t) ∧ r ∈ m ∧ H t = some (.tup (r.map V.int)) := by
  have hl := anyL_len a
  rw [List.length_map] at hl
  have h2 : acc[j]? = some acc[j] := List.getElem?_eq_getElem (by omega)
  obtain ⟨d, hd, ad⟩ := anyL_at a h2
  rw [List.getElem?_map, List.getElem?_eq_getElem h] at hd
  cases Option.some.inj hd
  generalize acc[j] = v at ad h2
  cases ad with
  | tup e al => exact ⟨_, _, h2, List.getElem_mem h, by rw [e, anyL_ints al]⟩
theorem big_sm {e : Int} (h : Big e) : smallB (.int e) = true := decide_eq_true (Nat.lt_trans h (by decide))
theorem bigM_sheet {k w : Nat} {m : List (List Int)} (b : BigM k w m) (hk : k ≤ 6) (hw : w ≤ 6) (f : List Int → PyData) (hf : ∀ r, f r = .tuple (r.map .int) ∨ f r = .list (r.map .int)) : SheetT (.list (m.map f)) := by
  refine sheet_list (by rw [List.length_map, b.h]; exact hk) fun d hd => ?_
  obtain ⟨r, hr, rfl⟩ := List.mem_map.mp hd
  obtain ⟨h1, h2⟩ := b.w r hr
  have cell : ∀ d, d ∈ r.map PyData.int → Cell d := fun d hd => by
    obtain ⟨e, he, rfl⟩ := List.mem_map.mp hd
    exact cell_int (Nat.lt_trans (h2 e he) (by decide))
  have lr : (r.map PyData.int).length ≤ 6 := by rw [List.length_map, h1]; exact hw
  rcases hf r with z | z
  · rw [z]
    exact ⟨tm_tup lr fun d hd => (cell d hd).tm, fit1_of (ds := r.map PyData.int) rfl (by omega) fun d hd => (cell d hd).sm, rfl⟩
  · rw [z]
    exact row_list lr cell
theorem isMat_f {k w : Nat} {m : List (List Int)} (h : m.length = k) (hw : ∀ r, r ∈ m → r.length = w) (f : List Int → PyData) (hf : ∀ r, f r = .tuple (r.map .int) ∨ f r = .list (r.map .int)) : isMatD (k : Nat) (w : Nat) (.list (m.map f)) = true := by
  unfold isMatD
  rw [Bool.and_eq_true, Bool.and_eq_true]
  refine ⟨rfl, decide_eq_true (by show (((m.map f).length : Nat) : Int) = _; rw [List.length_map, h]), List.all_eq_true.mpr fun d hd => ?_⟩
  obtain ⟨r, hr, rfl⟩ := List.mem_map.mp hd
  have key : isSeqD (f r) = true ∧ itemsD (f r) = r.map .int := by
    rcases hf r with z | z <;> rw [z] <;> exact ⟨rfl, rfl⟩
  unfold isVecD
  rw [Bool.and_eq_true, Bool.and_eq_true, key.1, key.2]
  refine ⟨rfl, decide_eq_true (by rw [List.length_map, hw r hr]), List.all_eq_true.mpr fun e he => ?_⟩
  obtain ⟨n, _, rfl⟩ := List.mem_map.mp he
  rfl
theorem rows_redF (q : Int) (m : List (List Int)) (f : List Int → PyData) (hf : ∀ r, f r = .tuple (r.map .int) ∨ f r = .list (r.map .int)) : rowsM q (.list (m.map f)) = (redM q m).map tupI := by
  unfold rowsM redM redR tupI
  show (m.map f).map _ = _
  rw [List.map_map, List.map_map]
  refine List.map_congr_left fun r _ => ?_
  have key : itemsD (f r) = r.map .int := by rcases hf r with z | z <;> rw [z] <;> rfl
  show PyData.tuple ((itemsD (f r)).map (modD q)) = .tuple ((r.map fun e => e.fmod q).map .int)
  rw [key, List.map_map, List.map_map] <;> rfl
theorem tupI_or (r : List Int) : tupI r = .tuple (r.map .int) ∨ tupI r = .list (r.map .int) := .inl rfl
theorem red_mat {q : Int} {k w : Nat} {m : List (List Int)} (hq : q ∈ primesL) (b : BigM k w m) : MatOk q k w (redM q m) := by
  have pp := prime_pos hq
  refine ⟨by unfold redM; rw [List.length_map, b.h], fun r hr => ?_⟩
  unfold redM at hr
  obtain ⟨r0, h0, rfl⟩ := List.mem_map.mp hr
  unfold redR
  refine ⟨by rw [List.length_map]; exact (b.w r0 h0).1, fun e he => ?_⟩
  obtain ⟨e0, _, rfl⟩ := List.mem_map.mp he
  rw [fmod_pos (by omega)]
  exact ⟨Int.emod_nonneg _ (by omega), Int.emod_lt_of_pos _ (by omega)⟩
theorem web_red {x : Str} {q : Int} {high : Nat} {ss : List Nat} {ms : List (List (List Int))} (w : Web x q high ss ms) (p : Pat x 6) (hq : q ∈ primesL) (h6 : high ≤ 6) : Good x q ss (ms.map (redM q)) := by
  refine ⟨⟨w.sl, fun s hs => Nat.le_trans (w.sb s hs) h6, by rw [List.length_map]; exact w.ml, fun i m hm => ?_⟩, p, hq⟩
  rw [List.getElem?_map] at hm
  cases e : ms[i]? with
  | none => rw [e] at hm; cases hm
  | some m0 =>
    rw [e] at hm
    cases Option.some.inj hm
    exact red_mat hq (w.mo i m0 e)
theorem web_le {x : Str} {q : Int} {high : Nat} {ss : List Nat} {ms : List (List (List Int))} (w : Web x q high ss ms) (j : Nat) : ss[j]?.getD 0 ≤ high := get_le w.sb j
theorem web_good {x : Str} {q : Int} {high : Nat} {ss : List Nat} {ms : List (List (List Int))} (d : Web x q high ss ms) (px : Pat x 6) (hq : q ∈ primesL) (m6 : high ≤ 6) : rowGood x q (.list (ss.map natD)) (.list (ms.map sheetD)) = true := by
  unfold rowGood
  have e1 : isPatD (.str x) = true := by
    show (decide (x.length ≤ 6) && x.cps.toList.all isArr) = true
    rw [decide_eq_true px.l, px.a] <;> rfl
  have e2 : isPr (.int q) = true := decide_eq_true hq
  have e3 : mapsOk x.length (.list (ms.map sheetD)) = true := by
    unfold mapsOk
    rw [Bool.and_eq_true]
    exact ⟨rfl, decide_eq_true (by show (ms.map sheetD).length = _; rw [List.length_map, d.ml])⟩
  have e4 : badAt x (.list (ss.map natD)) (.list (ms.map sheetD)) = none := bad_none fun j hj => by
    have hj2 : j < ms.length := by rw [d.ml]; exact hj
    have h1 : ms[j]? = some ms[j] := List.getElem?_eq_getElem hj2
    unfold matOk
    rw [draft_at h1, nats_sz, nats_sz]
    have b := d.mo j _ h1
    exact isMat_f b.h (fun r hr => (b.w r hr).1) tupI tupI_or
  rw [e1, e2, nats_ok d.sl (fun s hs => Nat.le_trans (d.sb s hs) m6), e3, e4] <;> rfl
theorem web_rows {q : Int} {ms : List (List (List Int))} : (itemsD (.list (ms.map sheetD))).map (rowsM q) = (ms.map (redM q)).map fun m => m.map tupI := by
  show (ms.map sheetD).map (rowsM q) = _
  rw [List.map_map, List.map_map]
  exact List.map_congr_left fun m _ => rows_redF q m tupI tupI_or
theorem web_sheet {x : Str} {q : Int} {high : Nat} {ss : List Nat} {ms : List (List (List Int))} (d : Web x q high ss ms) (m6 : high ≤ 6) : ∀ e, e ∈ ms.map sheetD → SheetT e := by
  intro e he
  obtain ⟨m, hm, rfl⟩ := List.mem_map.mp he
  obtain ⟨i, hi⟩ := List.getElem?_of_mem hm
  exact bigM_sheet (d.mo i m hi) (Nat.le_trans (web_le d _) m6) (Nat.le_trans (web_le d _) m6) tupI tupI_or
theorem web_fitM {x : Str} {q : Int} {high : Nat} {ss : List Nat} {ms : List (List (List Int))} (d : Web x q high ss ms) (px : Pat x 6) (m6 : high ≤ 6) : FitM (.list (ms.map sheetD)) :=
  ⟨by show (ms.map sheetD).length ≤ _; rw [List.length_map, d.ml]; have := px.l; omega, fun e he => (web_sheet d m6 e he).f⟩
theorem digit_big {q a : Int} {c : Int} (hq : q ∈ primesL) (a0 : 0 ≤ a) (a1 : a < q) (h : c.natAbs ≤ 10 ^ 27) : Big (a + q * c) := by
  have pp := prime_pos hq
  unfold Big
  have h1 : (q * c).natAbs = q.natAbs * c.natAbs := Int.natAbs_mul q c
  have h2 : (a + q * c).natAbs ≤ a.natAbs + (q * c).natAbs := Int.natAbs_add_le a (q * c)
  have h3 : q.natAbs * c.natAbs ≤ 13 * 10 ^ 27 := Nat.mul_le_mul (by omega) h
  have h4 : (10 : Nat) ^ 29 = 100 * 10 ^ 27 := by decide
  omega
theorem arrT_at {x : Str} {m i : Nat} (p : Pat x m) (h : i < x.length) : ∃ c, x.cps.toList[i]? = some c ∧ isArr c = true := by
  have h2 : i < x.cps.toList.length := by rw [lenT]; exact h
  exact ⟨_, List.getElem?_eq_getElem h2, List.all_eq_true.mp p.a _ (List.getElem_mem h2)⟩
theorem signT_eq {x : Str} {i c : Nat} (h : x.cps.toList[i]? = some c) (a : isArr c = true) : decide (V.str ⟨#[c]⟩ = V.str "<") = !isR x i := by
  have e : isR x i = (c == 62) := by
    unfold isR
    rw [h] <;> rfl
  have h2 : c = 62 ∨ c = 60 := by
    have : (c == 62 || c == 60) = true := a
    simpa using this
  rw [e]
  rcases h2 with z | z <;> subst z <;> decide
end Rw

set_option Elab.async false
set_option linter.all false
set_option maxRecDepth 100000
set_option maxHeartbeats 4000000
/-! TkFE: what is due where one map more is refused; the odd things. -/
namespace Rw
open PySem PySem.Spec PyProof.Rows L2
def isGt : PyData → Bool
  | .str z => decide (z = ">")
  | _ => false
def growDue (x : Str) (ss : List Nat) (da dn dm : PyData) : PyData :=
  if isArD da = true then (if x.length = 6 then wD "large" (.int 7) else if isSzD dn = true then (if isMatD (highS (isGt da) ss (intN dn).toNat : Nat) (wideS (isGt da) ss (intN dn).toNat : Nat) dm = true then .list [.str "told"] else wD "matrix" dm) else wD "size" dn) else wD "arrow" da
theorem isGt_arrS (r : Bool) : isGt (.str (arrS r)) = r := by cases r <;> decide
def spGrowC (C : Addr) : Sp := fun vs H Q _ => ∃ a va vn vm x p ss ms da dn dm, vs = [.ref a, va, vn, vm] ∧ RowOf C H a x p ss ms ∧ Good x p ss ms ∧ Any H va da ∧ Any H vn dn ∧ Any H vm dm ∧ Fit dm ∧ ∀ l H', H l = none → Same H H' → Any H' (.ref l) (growDue x ss da dn dm) → Q (.ref l) H'
def spRefusedG (C : Addr) : Sp := fun vs H Q _ => ∃ v a x p ss ms, ∃ (r : Bool) (n : Nat), vs = [v, .ref a, .str (arrS r), .int (n : Nat)] ∧ RowOf C H a x p ss ms ∧ Good x p ss ms ∧ n ≤ 6 ∧ ∀ H', Same H H' → Q (.bl true) H'
theorem atI_neg1 {α : Type} {xs : List α} {v : α} (h : xs[xs.length - 1]? = some v) : atI xs (-1) = some v := by
  have hne : xs ≠ [] := fun z => by rw [z] at h; cases h
  have e : xs = xs.dropLast ++ [v] := by
    have h2 := List.dropLast_concat_getLast hne
    rw [List.getLast_eq_getElem] at h2
    have hl : xs.length - 1 < xs.length := Nat.sub_lt (List.length_pos_iff.mpr hne) (by decide)
    rw [List.getElem?_eq_getElem hl] at h
    rw [← Option.some.inj h]
    exact h2.symm
  rw [e]
  exact atI_last _ _
theorem flat_one {α : Type} (v : α) : ∀ k : Nat, (List.replicate k [v]).flatten = List.replicate k v
  | 0 => rfl
  | k + 1 => by
    rw [List.replicate_succ, List.flatten_cons, flat_one v k, List.replicate_succ] <;> rfl
/-! ### small things -/
def fitB (d : PyData) : Bool := decide ((itemsD d).length ≤ 1000) && (itemsD d).all fun e => smallB e && (decide ((itemsD e).length ≤ 1000) && (itemsD e).all smallB)
theorem fit_ofB {d : PyData} (h : fitB d = true) : Fit d := by
  unfold fitB at h
  rw [Bool.and_eq_true, decide_eq_true_iff, List.all_eq_true] at h
  obtain ⟨h1, h2⟩ := h
  have h3 : ∀ e ∈ itemsD d, smallB e = true ∧ (itemsD e).length ≤ 1000 ∧ ∀ x ∈ itemsD e, smallB x = true := fun e he => by
    have := h2 e he
    rw [Bool.and_eq_true, Bool.and_eq_true, decide_eq_true_iff, List.all_eq_true] at this
    exact ⟨this.1, this.2.1, this.2.2⟩
  exact ⟨fit1_of rfl h1 fun x hx => (h3 x hx).1, fun e he => fit1_of rfl (h3 e he).2.1 (h3 e he).2.2⟩
def tqB (n : Nat) (d : PyData) : Bool := d.showable && (decide (d.depth ≤ 3 + n) && decide (d.shown.length ≤ 80 * 13 ^ n))
theorem tq_ofB {n : Nat} {d : PyData} (h : tqB n d = true) : Tq n d := by
  unfold tqB at h
  rw [Bool.and_eq_true, Bool.and_eq_true, decide_eq_true_iff, decide_eq_true_iff] at h
  exact ⟨h.1, h.2.1, h.2.2⟩
def oddArrs : List PyData := [.none, .int 3, .str "", .str "><", .str ">>", .str "x", .list [.str ">"], .bool true, .dict [], .str " >"]
theorem oddArrs_ok : ∀ d ∈ oddArrs, isArD d = false ∧ Tq 1 d ∧ Fit d := by
  have c : ∀ d ∈ oddArrs, isArD d = false ∧ tqB 1 d = true ∧ fitB d = true := by decide +kernel
  intro d hd
  obtain ⟨h1, h2, h3⟩ := c d hd
  exact ⟨h1, tq_ofB h2, fit_ofB h3⟩
def oddSzs : List PyData := [.none, .int (-1), .int 7, .bool true, .str "2", .list [.int 2], .int (10 ^ Int.toNat 29)]
theorem oddSzs_ok : ∀ d ∈ oddSzs, isSzD d = false ∧ Tq 1 d ∧ Fit d := by
  have c : ∀ d ∈ oddSzs, isSzD d = false ∧ tqB 1 d = true ∧ fitB d = true := by decide +kernel
  intro d hd
  obtain ⟨h1, h2, h3⟩ := c d hd
  exact ⟨h1, tq_ofB h2, fit_ofB h3⟩
def zeroR (w : Nat) : List Int := List.replicate w 0
def zeroM (h w : Nat) : List (List Int) := List.replicate h (zeroR w)
def oddM1 (h w : Nat) : List PyData := [.none, .int 3, .str "0", .dict [], .bool true, .list ((zeroM h w).map tupI ++ [tupI (zeroR w)]), .list (List.replicate (h + 1) (tupI (zeroR (w + 1))))]
def oddM2 (h w : Nat) : List PyData := [.list ((zeroM (h - 1) w).map tupI), .list (List.replicate h .none), .list (List.replicate h (.tuple (List.replicate (max 1 w) (.bool true)))), .list ((zeroM (h - 1) w).map tupI ++ [.tuple ((zeroR w).map .int ++ [.str "0"])])]
theorem oddM1_ok {h w : Nat} (hh : h ≤ 6) (hw : w ≤ 6) : ∀ d ∈ oddM1 h w, isMatD h w d = false ∧ Tq 2 d ∧ Fit d := by
  have c : ∀ h ∈ List.range 7, ∀ w ∈ List.range 7, ∀ d ∈ oddM1 h w, isMatD h w d = false ∧ tqB 2 d = true ∧ fitB d = true := by decide +kernel
  intro d hd
  obtain ⟨h1, h2, h3⟩ := c h (List.mem_range.mpr (by omega)) w (List.mem_range.mpr (by omega)) d hd
  exact ⟨h1, tq_ofB h2, fit_ofB h3⟩
theorem oddM2_ok {h w : Nat} (h0 : 0 < h) (hh : h ≤ 6) (hw : w ≤ 6) : ∀ d ∈ oddM2 h w, isMatD h w d = false ∧ Tq 2 d ∧ Fit d := by
  have c : ∀ h ∈ List.range 7, 0 < h → ∀ w ∈ List.range 7, ∀ d ∈ oddM2 h w, isMatD h w d = false ∧ tqB 2 d = true ∧ fitB d = true := by decide +kernel
  intro d hd
  obtain ⟨h1, h2, h3⟩ := c h (List.mem_range.mpr (by omega)) h0 w (List.mem_range.mpr (by omega)) d hd
  exact ⟨h1, tq_ofB h2, fit_ofB h3⟩
theorem anyL_rep {H : Hp} {v : V} {d : PyData} (a : Any H v d) : ∀ k : Nat, AnyL H (List.replicate k v) (List.replicate k d)
  | 0 => .nil
  | k + 1 => .cons a (anyL_rep a k)
theorem any_zero {H : Hp} {t : Addr} {w : Nat} (h : H t = some (.tup (List.replicate w (.int 0)))) : Any H (.ref t) (tupI (zeroR w)) := .tup h (by
  unfold zeroR
  rw [List.map_replicate]
  exact anyL_rep (.int 0) w)
end Rw

set_option Elab.async false
set_option linter.all false
set_option maxRecDepth 100000
set_option maxHeartbeats 4000000
/-! TkFF: a matrix handed in as lists and tuples; the web with one map more. -/
namespace Rw
open PySem PySem.Spec PyProof.Rows L2
/-- rows of numbers, each a list or a tuple -/
inductive Like : List PyData → List (List Int) → Prop
  | nil : Like [] []
  | cons {d : PyData} {r : List Int} {ds : List PyData} {m : List (List Int)} : d = tupI r ∨ d = lstI r → Like ds m → Like (d :: ds) (r :: m)
theorem Like.snoc {ds : List PyData} {m : List (List Int)} {d : PyData} {r : List Int} (a : Like ds m) (h : d = tupI r ∨ d = lstI r) : Like (ds ++ [d]) (m ++ [r]) := by
  induction a with
  | nil => exact .cons h .nil
  | cons k _ ih => exact .cons k ih
theorem Like.len {ds : List PyData} {m : List (List Int)} (a : Like ds m) : ds.length = m.length := by
  induction a with
  | nil => rfl
  | cons k _ ih => rw [List.length_cons, List.length_cons, ih]
theorem Like.mem {ds : List PyData} {m : List (List Int)} (a : Like ds m) : ∀ d, d ∈ ds → ∃ r, r ∈ m ∧ (d = tupI r ∨ d = lstI r) := by
  induction a with
  | nil => intro d hd; cases hd
  | cons k _ ih =>
    intro d hd
    rcases List.mem_cons.mp hd with z | z
    · rw [z]; exact ⟨_, List.mem_cons_self, k⟩
    · obtain ⟨r, hr, h⟩ := ih d z
      exact ⟨r, List.mem_cons_of_mem _ hr, h⟩
theorem like_tups : ∀ m : List (List Int), Like (m.map tupI) m
  | [] => .nil
  | r :: m => .cons (.inl rfl) (like_tups m)
theorem like_items {d : PyData} {r : List Int} (h : d = tupI r ∨ d = lstI r) : isSeqD d = true ∧ itemsD d = r.map .int := by
  rcases h with z | z <;> rw [z] <;> exact ⟨rfl, rfl⟩
theorem like_row {k w : Nat} {m : List (List Int)} {d : PyData} {r : List Int} (b : BigM k w m) (hw : w ≤ 6) (hr : r ∈ m) (h : d = tupI r ∨ d = lstI r) : RowT d := by
  obtain ⟨h1, h2⟩ := b.w r hr
  have cell : ∀ d, d ∈ r.map PyData.int → Cell d := fun d hd => by
    obtain ⟨e, he, rfl⟩ := List.mem_map.mp hd
    exact cell_int (Nat.lt_trans (h2 e he) (by decide))
  have lr : (r.map PyData.int).length ≤ 6 := by rw [List.length_map, h1]; exact hw
  rcases h with z | z
  · rw [z]
    exact ⟨tm_tup lr fun d hd => (cell d hd).tm, fit1_of (ds := r.map PyData.int) rfl (by omega) fun x hx => (cell x hx).sm, rfl⟩
  · rw [z]
    exact row_list lr cell
theorem like_sheet {k w : Nat} {m : List (List Int)} {ds : List PyData} (a : Like ds m) (b : BigM k w m) (hk : k ≤ 6) (hw : w ≤ 6) : SheetT (.list ds) ∧ SheetT (.tuple ds) := by
  have l : ds.length ≤ 6 := by rw [a.len, b.h]; exact hk
  have h : ∀ d, d ∈ ds → RowT d := fun d hd => by
    obtain ⟨r, hr, z⟩ := a.mem d hd
    exact like_row b hw hr z
  exact ⟨sheet_list l h, sheet_tup l h⟩
theorem like_isMat {k w : Nat} {m : List (List Int)} {ds : List PyData} {D : PyData} (a : Like ds m) (b : BigM k w m) (s : isSeqD D = true) (i : itemsD D = ds) : isMatD (k : Nat) (w : Nat) D = true := by
  unfold isMatD
  rw [i, Bool.and_eq_true, Bool.and_eq_true]
  refine ⟨s, decide_eq_true (by rw [a.len, b.h]), List.all_eq_true.mpr fun d hd => ?_⟩
  obtain ⟨r, hr, z⟩ := a.mem d hd
  obtain ⟨h1, h2⟩ := like_items z
  unfold isVecD
  rw [Bool.and_eq_true, Bool.and_eq_true, h1, h2]
  refine ⟨rfl, decide_eq_true (by rw [List.length_map, (b.w r hr).1]), List.all_eq_true.mpr fun e he => ?_⟩
  obtain ⟨n, _, rfl⟩ := List.mem_map.mp he
  rfl
theorem like_rowsL {q : Int} {m : List (List Int)} {ds : List PyData} (a : Like ds m) : ds.map (fun r => PyData.tuple ((itemsD r).map (modD q))) = (redM q m).map tupI := by
  induction a with
  | nil => rfl
  | @cons d r ds m k _ ih =>
    obtain ⟨_, h2⟩ := like_items k
    show PyData.tuple ((itemsD d).map (modD q)) :: ds.map (fun r => PyData.tuple ((itemsD r).map (modD q))) = tupI (redR q r) :: (redM q m).map tupI
    rw [ih, h2, List.map_map]
    unfold tupI redR
    rw [List.map_map] <;> rfl
theorem like_rows {q : Int} {m : List (List Int)} {ds : List PyData} {D : PyData} (a : Like ds m) (i : itemsD D = ds) : rowsM q D = (redM q m).map tupI := by
  unfold rowsM
  rw [i]
  exact like_rowsL a
/-- the web with one map more -/
theorem more_web {x : Str} {q : Int} {ss : List Nat} {ms : List (List (List Int))} {r : Bool} {n : Nat} {m : List (List Int)} (w : Web x q 3 ss ms) (n6 : n ≤ 6) (b : BigM (highS r ss n) (wideS r ss n) m) : Web (x ++ arrS r) q 6 (ss ++ [n]) (ms ++ [m]) := by
  have l1 := w.sl
  have l2 := w.ml
  refine ⟨by rw [List.length_append, more_len, l1] <;> rfl, fun s hs => ?_, by rw [List.length_append, more_len, l2] <;> rfl, fun i m' hi => ?_⟩
  · rcases List.mem_append.mp hs with z | z
    · exact Nat.le_trans (w.sb s z) (by decide)
    · rw [List.mem_singleton.mp z]; exact n6
  · have old : ∀ j, j ≤ x.length → (ss ++ [n])[j]?.getD 0 = ss[j]?.getD 0 := fun j hj => by rw [List.getElem?_append_left (by omega)]
    have new : (ss ++ [n])[x.length + 1]?.getD 0 = n := by
      rw [List.getElem?_append_right (by omega), l1, Nat.sub_self] <;> rfl
    by_cases h : i < x.length
    · obtain ⟨s1, s2⟩ := more_st (r := r) h
      rw [s1, s2, old _ (by have := stA_le x i; omega), old _ (by have := goA_le x i; omega)]
      rw [List.getElem?_append_left (by omega)] at hi
      exact w.mo i m' hi
    · have hlt := (List.getElem?_eq_some_iff.mp hi).1
      rw [List.length_append, List.length_cons, List.length_nil, l2] at hlt
      have ei : i = x.length := by omega
      subst ei
      rw [List.getElem?_append_right (by omega), l2, Nat.sub_self] at hi
      cases Option.some.inj hi
      have el : lastS ss = ss[x.length]?.getD 0 := by unfold lastS; rw [l1, Nat.add_sub_cancel]
      have e1 : (ss ++ [n])[stA (x ++ arrS r) x.length]?.getD 0 = highS r ss n := by
        unfold stA highS
        rw [more_new]
        cases r with
        | true => rw [if_pos rfl, if_pos rfl, old _ (Nat.le_refl _), el]
        | false => rw [if_neg (by decide), if_neg (by decide), new]
      have e2 : (ss ++ [n])[goA (x ++ arrS r) x.length]?.getD 0 = wideS r ss n := by
        unfold goA wideS
        rw [more_new]
        cases r with
        | true => rw [if_pos rfl, if_pos rfl, new]
        | false => rw [if_neg (by decide), if_neg (by decide), old _ (Nat.le_refl _), el]
      rw [e1, e2]
      exact b
theorem last_le {ss : List Nat} {k : Nat} (h : ∀ s, s ∈ ss → s ≤ k) : lastS ss ≤ k := get_le h _
theorem high_le {ss : List Nat} {n : Nat} {r : Bool} (h : ∀ s, s ∈ ss → s ≤ 3) (hn : n ≤ 6) : highS r ss n ≤ 6 := by
  have := last_le h
  unfold highS
  split <;> omega
theorem wide_le {ss : List Nat} {n : Nat} {r : Bool} (h : ∀ s, s ∈ ss → s ≤ 3) (hn : n ≤ 6) : wideS r ss n ≤ 6 := by
  have := last_le h
  unfold wideS
  split <;> omega
theorem same_row (x : Str) (q : Int) (ss : List Nat) (ms : List (List (List Int))) : sameRow x q ss ms x q ss ms = true := by
  unfold sameRow
  rw [decide_eq_true rfl, decide_eq_true rfl, decide_eq_true rfl, decide_eq_true rfl] <;> rfl
/-- the whole of a text, cut -/
theorem cut_all (x : Str) : cutS x (some ((0 : Nat) : Int)) (some ((x.length : Nat) : Int)) = x := by
  unfold cutS
  rw [HT.sIx_nat, HT.sIx_nat, Nat.min_self, Nat.zero_min, Nat.sub_zero, List.drop_zero, List.take_of_length_le (by rw [lenT]; exact Nat.le_refl _)]
theorem cut_more (x y : Str) : cutS (x ++ y) (some ((0 : Nat) : Int)) (some ((x.length : Nat) : Int)) = x := by
  unfold cutS
  have e1 : min x.length (x ++ y).length = x.length := by rw [catT_len]; omega
  rw [HT.sIx_nat, HT.sIx_nat, e1, Nat.zero_min, Nat.sub_zero, List.drop_zero, catT_list, ← lenT x, List.take_left']
  rfl
theorem arrS_inj {a b : Bool} (h : arrS a = arrS b) : a = b := by
  cases a <;> cases b <;> first | rfl | (exfalso; revert h; decide)
theorem szD_nat {n : Nat} (h : n ≤ 6) : isSzD (natD n) = true := by
  show (decide ((0 : Int) ≤ (n : Nat)) && decide (((n : Nat) : Int) ≤ 6)) = true
  rw [Bool.and_eq_true]
  exact ⟨decide_eq_true (by omega), decide_eq_true (by omega)⟩
theorem two_rows {C a b : Addr} {H : Hp} {x : Str} {q : Int} {ss : List Nat} {ms : List (List (List Int))} {Q : VK} (ra : RowOf C H a x q ss ms) (rb : RowOf C H b x q ss ms) (k : Q (.bl true) H) : rEqO C (spEqR C) (.ref a) (.ref b) H Q := by
  obtain ⟨d1, _, _, e1, _, _⟩ := id ra
  obtain ⟨d2, _, _, e2, _, _⟩ := id rb
  refine ⟨a, d1, _, rfl, e1, .inl ⟨b, d2, _, rfl, e2⟩, a, .ref b, x, q, ss, ms, rfl, ra, .inl ⟨b, x, q, ss, ms, rfl, rb, _, rfl, ?_⟩⟩
  rw [same_row]
  exact k
theorem grown_go {C CW CG CS CM R : Addr} {H : Hp} {x : Str} {q : Int} {ss : List Nat} {ms : List (List (List Int))} {rr : Bool} {n : Nat} {v : V} {D : PyData} {m : List (List Int)} {Q : VK} {E : XK} (ra : RowOf C H R x q ss (ms.map (redM q))) (g : Good x q ss (ms.map (redM q))) (l6 : x.length < 6) (n6 : n ≤ 6) (aD : Any H v D) (fit : Fit D)
    (mat : isMatD (highS rr ss n : Nat) (wideS rr ss n : Nat) D = true) (rows : rowsM q D = (redM q m).map tupI)
    (k : ∀ o H', H o = none → Same H H' → RowOf C H' o (x ++ arrS rr) q (ss ++ [n]) ((ms ++ [m]).map (redM q)) → Q (.ref o) H') : spGrow C CW CG CS CM [.ref R, .str (arrS rr), .int (n : Nat), v] H Q E := by
  have inj : ∀ {r2 : Bool} {n2 : Nat}, PyData.str (arrS rr) = .str (arrS r2) → natD n = natD n2 → r2 = rr ∧ n2 = n := fun e1 e2 => by
    refine ⟨(arrS_inj (PyData.str.inj e1)).symm, ?_⟩
    have := PyData.int.inj e2
    omega
  refine ⟨R, .str (arrS rr), .int (n : Nat), v, x, q, ss, ms.map (redM q), .str (arrS rr), natD n, D, rfl, ra, g, .str _, .int _, aD, fit, fun z => ?_, fun _ z => ?_, fun _ _ z => ?_, fun r2 n2 v2 H1 e1 _ e2 _ z _ _ => ?_, fun r2 n2 o H' e1 _ e2 _ _ ho k1 ro => ?_⟩
  · rw [arD_is] at z; cases z
  · omega
  · rw [szD_nat n6] at z; cases z
  · obtain ⟨rfl, rfl⟩ := inj e1 e2
    rw [mat] at z; cases z
  · obtain ⟨rfl, rfl⟩ := inj e1 e2
    refine k o H' ho k1 ?_
    rw [rows] at ro
    have e : (ms.map (redM q)).map (fun m => m.map tupI) ++ [(redM q m).map tupI] = ((ms ++ [m]).map (redM q)).map fun m => m.map tupI := by
      rw [List.map_append, List.map_append] <;> rfl
    rw [e] at ro
    exact ro
theorem inB_yes {i lo hi : Int} (h1 : lo ≤ i) (h2 : i ≤ hi) : inB (.int i) (.int lo) (.int hi) = true := by
  show (decide (lo ≤ i) && decide (i ≤ hi)) = true
  rw [Bool.and_eq_true]
  exact ⟨decide_eq_true h1, decide_eq_true h2⟩
end Rw

set_option Elab.async false
set_option linter.all false
set_option maxRecDepth 100000
set_option maxHeartbeats 4000000
/-! TkGA: streams: a row with the rows ahead of it and behind it. -/
namespace Rw
open PySem PySem.Spec PyProof.Rows L2
structure Dr where
  x : Str
  q : Int
  ss : List Nat
  ms : List (List (List Int))
def Dr.D (d : Dr) : PyData := draftD d.x d.q d.ss d.ms
abbrev RowD (C : Addr) (H : Hp) (a : Addr) (d : Dr) : Prop := RowOf C H a d.x d.q d.ss d.ms
abbrev GoodD (d : Dr) : Prop := Good d.x d.q d.ss d.ms
inductive RowsL (C : Addr) (H : Hp) : List V → List Dr → Prop
  | nil : RowsL C H [] []
  | cons {a : Addr} {d : Dr} {vs : List V} {ds : List Dr} : RowD C H a d → RowsL C H vs ds → RowsL C H (.ref a :: vs) (d :: ds)
theorem RowsL.len {C : Addr} {H : Hp} {vs : List V} {ds : List Dr} (h : RowsL C H vs ds) : vs.length = ds.length := by
  induction h with
  | nil => rfl
  | cons _ _ ih => rw [List.length_cons, List.length_cons, ih]
theorem RowsL.move {C : Addr} {H H' : Hp} {vs : List V} {ds : List Dr} (k : ∀ a d, RowD C H a d → RowD C H' a d) (h : RowsL C H vs ds) : RowsL C H' vs ds := by
  induction h with
  | nil => exact .nil
  | cons r _ ih => exact .cons (k _ _ r) ih
theorem RowsL.app {C : Addr} {H : Hp} {vs us : List V} {ds es : List Dr} (h : RowsL C H vs ds) (g : RowsL C H us es) : RowsL C H (vs ++ us) (ds ++ es) := by
  induction h with
  | nil => exact g
  | cons r _ ih => exact .cons r ih
theorem RowsL.one {C a : Addr} {H : Hp} {d : Dr} (r : RowD C H a d) : RowsL C H [.ref a] [d] := .cons r .nil
theorem RowsL.split {C : Addr} {H : Hp} {d : Dr} : ∀ {ds : List Dr} {vs : List V}, RowsL C H vs (ds ++ [d]) → ∃ us a, vs = us ++ [.ref a] ∧ RowsL C H us ds ∧ RowD C H a d
  | [], _, h => by
    cases h with
    | cons r t =>
      cases t
      exact ⟨[], _, rfl, .nil, r⟩
  | e :: ds, _, h => by
    cases h with
    | cons r t =>
      obtain ⟨us, a, rfl, h1, h2⟩ := RowsL.split (ds := ds) t
      exact ⟨_ :: us, a, rfl, .cons r h1, h2⟩
/-- the rows ahead (the oldest first), the present one, the rows behind (the one due next first) -/
structure St where
  past : List Dr
  here : Dr
  later : List Dr
def St.D (s : St) : PyData := .list [.list (s.past.map Dr.D), s.here.D, .list (s.later.map Dr.D)]
structure GoodS (n : Nat) (s : St) : Prop where
  p : ∀ d, d ∈ s.past → GoodD d
  h : GoodD s.here
  l : ∀ d, d ∈ s.later → GoodD d
  n : s.past.length + s.later.length ≤ n
def Str0 (D : Addr) (H : Hp) (a dx R tp tu : Addr) : Prop := H a = some (.ins D dx [("_row", .ref R), ("_past", .ref tp), ("_undone", .ref tu)])
structure StrIn (D C : Addr) (H : Hp) (a dx R tp tu : Addr) (ps us : List V) (s : St) : Prop where
  o : Str0 D H a dx R tp tu
  r : RowD C H R s.here
  ep : H tp = some (.tup ps)
  p : RowsL C H ps s.past
  eu : H tu = some (.tup us)
  u : RowsL C H us s.later.reverse
def StrAt (D C : Addr) (H : Hp) (a : Addr) (s : St) : Prop := ∃ dx R tp tu ps us, StrIn D C H a dx R tp tu ps us s
theorem StrAt.keep {D C a : Addr} {H H' : Hp} {s : St} (h : StrAt D C H a s) (k : Same H H') : StrAt D C H' a s := by
  obtain ⟨dx, R, tp, tu, ps, us, i⟩ := h
  exact ⟨dx, R, tp, tu, ps, us, k _ _ i.o, i.r.keep k, k _ _ i.ep, i.p.move fun _ _ r => RowAt.keep r k, k _ _ i.eu, i.u.move fun _ _ r => RowAt.keep r k⟩
theorem StrAt.lt {D C a : Addr} {H H' : Hp} {s : St} (h : StrAt D C H a s) (k : Lt H H') : StrAt D C H' a s := by
  obtain ⟨dx, R, tp, tu, ps, us, i⟩ := h
  exact ⟨dx, R, tp, tu, ps, us, k _ _ i.o (fun _ z => nomatch z), row_lt i.r k, k _ _ i.ep (fun _ z => nomatch z), i.p.move fun _ _ r => row_lt r k, k _ _ i.eu (fun _ z => nomatch z), i.u.move fun _ _ r => row_lt r k⟩
/-- a row is kept where a stream changes -/
theorem row_go {D C b dx : Addr} {fs : List (Str × V)} {H H' : Hp} (ne : C ≠ D) (e : H b = some (.ins D dx fs)) (g : Grow b H H') {a : Addr} {d : Dr} (r : RowD C H a d) : RowD C H' a d := by
  obtain ⟨dy, ts, tm, h1, h2, h3⟩ := r
  have ab : a ≠ b := fun z => by
    rw [z, e] at h1
    injection Option.some.inj h1 with h4
    exact ne h4.symm
  exact ⟨dy, ts, tm, g _ _ ab h1, h2.keeps (keeps_ins e g), h3.keeps (keeps_ins e g)⟩
theorem StrIn.lasts {D C a b dx R tp tu : Addr} {ps us : List V} {H H' : Hp} {s : St} {dy : Addr} {fs : List (Str × V)} (i : StrIn D C H a dx R tp tu ps us s) (ne : C ≠ D) (e : H b = some (.ins D dy fs)) (g : Grow b H H') : RowD C H' R s.here ∧ H' tp = some (.tup ps) ∧ RowsL C H' ps s.past ∧ H' tu = some (.tup us) ∧ RowsL C H' us s.later.reverse :=
  ⟨row_go ne e g i.r, (keeps_ins e g).t _ _ i.ep, i.p.move fun _ _ r => row_go ne e g r, (keeps_ins e g).t _ _ i.eu, i.u.move fun _ _ r => row_go ne e g r⟩
theorem StrAt.go {D C a b : Addr} {H H' : Hp} {s t : St} (h : StrAt D C H a s) (h2 : StrAt D C H b t) (ab : a ≠ b) (ne : C ≠ D) (g : Grow b H H') : StrAt D C H' a s := by
  obtain ⟨dx, R, tp, tu, ps, us, i⟩ := h
  obtain ⟨dy, _, _, _, _, _, j⟩ := h2
  obtain ⟨h1, h2, h3, h4, h5⟩ := i.lasts ne j.o g
  exact ⟨dx, R, tp, tu, ps, us, g _ _ ab i.o, h1, h2, h3, h4, h5⟩
theorem StrAt.keeps {D C a : Addr} {H H' : Hp} {s : St} (h : StrAt D C H a s) (g : Grow a H H') : Keeps H H' := by
  obtain ⟨dx, R, tp, tu, ps, us, i⟩ := h
  exact keeps_ins i.o g
theorem StrAt.ins {D C a : Addr} {H : Hp} {s : St} (h : StrAt D C H a s) : ∃ dx fs, H a = some (.ins D dx fs) := by
  obtain ⟨dx, R, tp, tu, ps, us, i⟩ := h
  exact ⟨_, _, i.o⟩
/-! ### what becomes of a row -/
def newDr (q : Int) (n : Nat) : Dr := ⟨"", q, [n], []⟩
def cutDr (d : Dr) (c : Nat) : Dr := ⟨cutS d.x (some (c : Nat)) (some (d.x.length : Nat)), d.q, d.ss.drop c, d.ms.drop c⟩
def growDr (d : Dr) (r : Bool) (n : Nat) (m : List (List Int)) : Dr := ⟨d.x ++ arrS r, d.q, d.ss ++ [n], d.ms ++ [m]⟩
theorem new_good {q : Int} {n : Nat} (hq : q ∈ primesL) (hn : n ≤ 6) : GoodD (newDr q n) :=
  ⟨⟨rfl, fun s hs => by rw [List.mem_singleton.mp hs]; exact hn, rfl, fun i m h => by simp [newDr] at h⟩, ⟨by show 0 ≤ 6; omega, rfl⟩, hq⟩
theorem cut_parts {d : Dr} {c : Nat} (g : GoodD d) (h : c ≤ d.x.length) : (d.ss.drop c).take (d.x.length + 1 - c) = d.ss.drop c ∧ (d.ms.drop c).take (d.x.length - c) = d.ms.drop c := by
  have h1 := g.d.sl
  have h2 := g.d.ml
  exact ⟨List.take_of_length_le (by rw [List.length_drop]; omega), List.take_of_length_le (by rw [List.length_drop]; omega)⟩
theorem cut_good {d : Dr} {c : Nat} (g : GoodD d) (h : c ≤ d.x.length) : GoodD (cutDr d c) := by
  obtain ⟨e1, e2⟩ := cut_parts g h
  have := part_draft g.d h (Nat.le_refl _)
  rw [e1, e2] at this
  exact ⟨this, cut_pat g.p h (Nat.le_refl _), g.q⟩
theorem cutS_end (x : Str) (c : Nat) : cutS x (some ((c : Nat) : Int)) none = cutS x (some ((c : Nat) : Int)) (some ((x.length : Nat) : Int)) := by
  unfold cutS
  have : HT.sIx x.length x.length (some ((x.length : Nat) : Int)) = x.length := by rw [HT.sIx_nat, Nat.min_self]
  rw [this] <;> rfl
theorem grow_good {d : Dr} {r : Bool} {n : Nat} {m : List (List Int)} (g : GoodD d) (l6 : d.x.length < 6) (n6 : n ≤ 6) (b : MatOk d.q (highS r d.ss n) (wideS r d.ss n) m) : GoodD (growDr d r n m) := by
  obtain ⟨x, q, ss, ms⟩ := d
  have w := g.d
  have l1 : ss.length = x.length + 1 := w.sl
  have l2 : ms.length = x.length := w.ml
  refine ⟨⟨by show (ss ++ [n]).length = (x ++ arrS r).length + 1; rw [List.length_append, more_len, l1] <;> rfl, fun s hs => ?_, by show (ms ++ [m]).length = (x ++ arrS r).length; rw [List.length_append, more_len, l2] <;> rfl, fun i m' hi => ?_⟩, more_pat g.p l6, g.q⟩
  · rcases List.mem_append.mp hs with z | z
    · exact w.sb s z
    · rw [List.mem_singleton.mp z]; exact n6
  · show MatOk q ((ss ++ [n])[stA (x ++ arrS r) i]?.getD 0) ((ss ++ [n])[goA (x ++ arrS r) i]?.getD 0) m'
    have hi : (ms ++ [m])[i]? = some m' := hi
    have old : ∀ j, j ≤ x.length → (ss ++ [n])[j]?.getD 0 = ss[j]?.getD 0 := fun j hj => by rw [List.getElem?_append_left (by omega)]
    have new : (ss ++ [n])[x.length + 1]?.getD 0 = n := by
      rw [List.getElem?_append_right (by omega), l1, Nat.sub_self] <;> rfl
    by_cases h : i < x.length
    · obtain ⟨s1, s2⟩ := more_st (r := r) h
      rw [s1, s2, old _ (st_le2 h), old _ (go_le h)]
      rw [List.getElem?_append_left (by omega)] at hi
      exact w.mo i m' hi
    · have hlt := (List.getElem?_eq_some_iff.mp hi).1
      rw [List.length_append, List.length_cons, List.length_nil, l2] at hlt
      have ei : i = x.length := by omega
      subst ei
      rw [List.getElem?_append_right (by omega), l2, Nat.sub_self] at hi
      cases Option.some.inj hi
      have el : lastS ss = ss[x.length]?.getD 0 := by unfold lastS; rw [l1, Nat.add_sub_cancel]
      have e1 : (ss ++ [n])[stA (x ++ arrS r) x.length]?.getD 0 = highS r ss n := by
        unfold stA highS
        rw [more_new]
        cases r with
        | true => rw [if_pos rfl, if_pos rfl, old _ (Nat.le_refl _), el]
        | false => rw [if_neg (by decide), if_neg (by decide), new]
      have e2 : (ss ++ [n])[goA (x ++ arrS r) x.length]?.getD 0 = wideS r ss n := by
        unfold goA wideS
        rw [more_new]
        cases r with
        | true => rw [if_pos rfl, if_pos rfl, new]
        | false => rw [if_neg (by decide), if_neg (by decide), old _ (Nat.le_refl _), el]
      rw [e1, e2]
      exact b
/-! ### what is promised -/
def spIniS (D C CP CS : Addr) : Sp := fun vs H Q _ => ∃ a dx q n, vs = [.ref a, .int q, .int (n : Nat)] ∧ H a = some (.ins D dx []) ∧ q ∈ primesL ∧ n ≤ 6 ∧ ∀ H', Grow a H H' → StrAt D C H' a ⟨[], newDr q n, []⟩ → Q .non H'
def spDo (D C : Addr) : Sp := fun vs H Q _ => ∃ a R s d, vs = [.ref a, .ref R] ∧ StrAt D C H a s ∧ s.past.length ≤ 100 ∧ RowD C H R d ∧ ∀ H', Grow a H H' → StrAt D C H' a ⟨s.past ++ [s.here], d, []⟩ → Q .non H'
def spGrowM (D C CW CG CS CM : Addr) : Sp := fun vs H Q E => ∃ a va vn vm s da dn dm m, vs = [.ref a, va, vn, vm] ∧ StrAt D C H a s ∧ GoodD s.here ∧ s.past.length ≤ 100 ∧ Any H va da ∧ Any H vn dn ∧ Any H vm dm ∧ Fit dm ∧
  (isArD da = false → Thrown CW va H E) ∧ (isArD da = true → s.here.x.length = 6 → Thrown CG (.int 7) H E) ∧ (isArD da = true → s.here.x.length < 6 → isSzD dn = false → Thrown CS vn H E) ∧
  (∀ r (n : Nat) v H1, da = .str (arrS r) → s.here.x.length < 6 → dn = natD n → n ≤ 6 → isMatD (highS r s.here.ss n : Nat) (wideS r s.here.ss n : Nat) dm = false → Same H H1 → Any H1 v dm → Thrown CM v H1 E) ∧
  ∀ r (n : Nat), da = .str (arrS r) → s.here.x.length < 6 → dn = natD n → n ≤ 6 → isMatD (highS r s.here.ss n : Nat) (wideS r s.here.ss n : Nat) dm = true → rowsM s.here.q dm = m.map tupI ∧ ∀ H', Grow a H H' → StrAt D C H' a ⟨s.past ++ [s.here], growDr s.here r n m, []⟩ → Q .non H'
def spCutM (D C CB : Addr) : Sp := fun vs H Q E => ∃ a v s d, vs = [.ref a, v] ∧ StrAt D C H a s ∧ GoodD s.here ∧ s.past.length ≤ 100 ∧ Any H v d ∧ (inB d (.int 1) (.int (s.here.x.length : Nat)) = false → Thrown CB v H E) ∧
  ∀ c : Nat, d = natD c → 1 ≤ c → c ≤ s.here.x.length → ∀ H', Grow a H H' → StrAt D C H' a ⟨s.past ++ [s.here], cutDr s.here c, []⟩ → Q .non H'
def spUndo (D C CU : Addr) : Sp := fun vs H Q E => ∃ a s, vs = [.ref a] ∧ StrAt D C H a s ∧ s.past.length ≤ 100 ∧ s.later.length ≤ 100 ∧ (s.past = [] → ThrownN CU H E) ∧
  ∀ ps d, s.past = ps ++ [d] → ∀ H', Grow a H H' → StrAt D C H' a ⟨ps, d, s.here :: s.later⟩ → Q .non H'
def spRedo (D C CV : Addr) : Sp := fun vs H Q E => ∃ a s, vs = [.ref a] ∧ StrAt D C H a s ∧ s.past.length ≤ 100 ∧ s.later.length ≤ 100 ∧ (s.later = [] → ThrownN CV H E) ∧
  ∀ d ls, s.later = d :: ls → ∀ H', Grow a H H' → StrAt D C H' a ⟨s.past ++ [s.here], d, ls⟩ → Q .non H'
def spRowS (D C : Addr) : Sp := fun vs H Q _ => ∃ a s, vs = [.ref a] ∧ StrAt D C H a s ∧ ∀ R, RowD C H R s.here → Q (.ref R) H
def spLenS (D C : Addr) : Sp := fun vs H Q _ => ∃ a s, vs = [.ref a] ∧ StrAt D C H a s ∧ s.here.ss.length ≤ 1000 ∧ Q (.int (s.here.ss.length : Nat)) H
def spUndoable (D C : Addr) : Sp := fun vs H Q _ => ∃ a s, vs = [.ref a] ∧ StrAt D C H a s ∧ s.past.length ≤ 100 ∧ Q (.int (s.past.length : Nat)) H
def spRedoable (D C : Addr) : Sp := fun vs H Q _ => ∃ a s, vs = [.ref a] ∧ StrAt D C H a s ∧ s.later.length ≤ 100 ∧ Q (.int (s.later.length : Nat)) H
/-- all but the last of a tuple -/
theorem cut_last {K : PySem.W.Frag} {H : Hp} {a : Addr} {xs : List V} {v : V} {Q : VK} (h : H a = some (.tup (xs ++ [v]))) (q : ∀ p H', Same H H' → H' p = some (.tup xs) → Q (.ref p) H') : rSlA K (.ref a) none (some (-1)) H Q := by
  have l : (xs ++ [v]).length = xs.length + 1 := by rw [List.length_append] <;> rfl
  have e2 : HT.sIx (xs ++ [v]).length (xs ++ [v]).length (some (-1)) = xs.length := by
    rw [l]
    unfold HT.sIx
    simp
    omega
  refine ⟨a, _, rfl, SqT.of h, fun e => ?_, fun _ p hp => q p _ (same_new hp) ?_⟩
  · rw [e2, l] at e
    omega
  · rw [upd_same]
    unfold cutV
    rw [e2]
    have e1 : HT.sIx (xs ++ [v]).length 0 none = 0 := rfl
    rw [e1, List.drop_zero, Nat.sub_zero, List.take_left']
    rfl
end Rw

set_option Elab.async false
set_option linter.all false
set_option maxRecDepth 100000
set_option maxHeartbeats 4000000
/-! TkGB: a method without arguments in a try's body; repr of data of any kind. -/
namespace Rw
open PySem PySem.Spec PyProof.Rows L2
section
variable {X : Cx} {CX : CXT} {C f : Addr} {m : Str} {k : Nat} {fd : FuncData} {ps : List Str} {ds : List Value} {dvs : List V} {sp : Sp} {o : Expr} {ta : TE} {apos pos : Pos}
theorem pe_methS0 {W : WX} {pl : Sem Bool} (he : PE X o ta) (c : Cls X.K C) (hm : Meth X.K C m f) (F : FnOk X.prog X.w X.K X.mg X.base CX k f fd ps sp) (hr : Room k X.A) (hb : Binds X.K fd ps ds) (hd : Vals dvs ds) (hx : ∀ σ, PassesAt CX X σ (fun cls d H' => W cls d σ H'))
    (ht : eval (.Call (.Attribute o m apos) [] [] pos) X.env = (do
      let ov ← eval o X.env
      standAt apos.atName
      let (f, first) ← holding [ov] (getMethod ov m pl)
      callWith pos f first (backTo pos (starEach [] X.env)) (backToKw pos (keywordEach [] X.env))) := by rfl) :
    PE X (.Call (.Attribute o m apos) [] [] pos) (tMethS C m sp dvs W ta tNil) := by
  refine ⟨fun pins s σ H Q I h => ?_⟩
  refine PySem.W.methodCall_KW (pl := pl) (thn (he.run pins s σ H _ I h) fun u s1 ⟨x, H1, I1, rx, a, dx, fs, ex, ea, l, q⟩ => ?_) ht
  subst ex
  obtain rfl : u = Value.ref a := rx
  refine getmeth_ok I1 ea c hm l ?_
  exact PySem.W.callWith_K0 (first := [.ref a]) I1.kIn hm.kp (run_ownS (us := [.ref a]) (vs := [.ref a]) F hr hb hd (hx σ) I1 (.cons rfl .nil) q)
end
section
variable {X : Cx}
def rReprA : List V → Hp → VK → Prop := fun xs H Q => ∃ (v : V) (d : PyData), xs = [v] ∧ Any H v d ∧ d.showable = true ∧ d.depth ≤ 60 ∧ d.shown.length ≤ sizeLine ∧ Q (.str d.shown) H
theorem call_reprA (gu : X.A.guards = some []) (hu : X.A.units + 64 < cLine) : CallR X (.builtin "repr") rReprA := by
  intro pins s σ H xs us Q I r h
  obtain ⟨v, d, rfl, an, sh, dp, sz, q⟩ := h
  cases v with
  | ref a => exact call_repr gu hu pins s σ H _ us Q I r ⟨a, d, rfl, an, sh, dp, sz, q⟩
  | _ =>
    obtain ⟨u, rfl, ru⟩ := vals1 r
    cases an <;> first
      | (cases (show u = Value.none from ru); exact PySem.P.repr_of_none ⟨V.str "None", H, I.tok _, ⟨_, rfl⟩, by simpa only [PyData.shown] using q⟩)
      | (cases (show u = Value.bool _ from ru); exact PySem.P.repr_of_bool ⟨V.str _, H, I.tok _, ⟨_, rfl⟩, by simpa only [PyData.shown] using q⟩)
      | (obtain ⟨t, rfl⟩ := (show ∃ t, u = Value.int _ t from ru); exact PySem.P.repr_of_int (by simpa [PyData.showable] using sh) ⟨V.str _, H, I.tok _, ⟨_, rfl⟩, by simpa only [PyData.shown] using q⟩)
      | (obtain ⟨t, rfl⟩ := (show ∃ t, u = Value.str _ t from ru); exact PySem.P.repr_of_str ⟨V.str _, H, I.tok _, ⟨_, rfl⟩, by simpa only [PyData.shown] using q⟩ (by simpa only [PyData.shown] using sz))
end
end Rw

set_option Elab.async false
set_option linter.all false
set_option maxRecDepth 100000
set_option maxHeartbeats 800000
/-! TkGC: data away from what changes; the deeds of streams and what is due. -/
namespace Rw
open PySem PySem.Spec PyProof.Rows L2
/-! ### a heap without some objects -/
def msk (M : List Addr) (H : Hp) : Hp := fun b => if b ∈ M then none else H b
theorem msk_out {M : List Addr} {H : Hp} {b : Addr} (h : b ∉ M) : msk M H b = H b := if_neg h
theorem msk_at {M : List Addr} {H : Hp} {b : Addr} {o : HO} (e : msk M H b = some o) : b ∉ M ∧ H b = some o := by
  unfold msk at e
  by_cases z : b ∈ M
  · rw [if_pos z] at e; cases e
  · rw [if_neg z] at e; exact ⟨z, e⟩
theorem msk_sub {M : List Addr} {H : Hp} : Same (msk M H) H := fun b o e => (msk_at e).2
theorem msk_grow {M : List Addr} {H H' : Hp} {p : Addr} (hp : p ∈ M) (g : Grow p H H') : Same (msk M H) (msk M H') := fun b o e => by
  obtain ⟨z, e⟩ := msk_at e
  rw [msk_out z]
  exact g b o (fun y => z (by rw [y]; exact hp)) e
theorem msk_same {M : List Addr} {H H' : Hp} (k : Same H H') : Same (msk M H) (msk M H') := fun b o e => by
  obtain ⟨z, e⟩ := msk_at e
  rw [msk_out z]
  exact k b o e
theorem msk_nil {H : Hp} : Same H (msk [] H) := fun b o e => by rw [msk_out (by simp)]; exact e
theorem msk_put {M : List Addr} {H : Hp} {p : Addr} {o : HO} (hp : p ∈ M) : msk M (upd H p o) = msk M H := by
  funext b
  unfold msk
  by_cases z : b ∈ M
  · rw [if_pos z, if_pos z]
  · rw [if_neg z, if_neg z, upd_ne (fun y => z (by rw [y]; exact hp))]
def MOk (M : List Addr) (H : Hp) : Prop := ∀ b, b ∈ M → ∃ o, H b = some o ∧ ∀ xs, o ≠ .tup xs
theorem MOk.new {M : List Addr} {H : Hp} {l : Addr} (m : MOk M H) (h : H l = none) : l ∉ M := fun z => by
  obtain ⟨o, e, _⟩ := m l z
  rw [h] at e
  cases e
theorem MOk.keep {M : List Addr} {H H' : Hp} (m : MOk M H) (k : Same H H') : MOk M H' := fun b hb => by
  obtain ⟨o, e, n⟩ := m b hb
  exact ⟨o, k _ _ e, n⟩
theorem MOk.grow {M : List Addr} {H H' : Hp} {p : Addr} {o : HO} (m : MOk M H) (g : Grow p H H') (hp : H' p = some o) (n : ∀ xs, o ≠ .tup xs) : MOk M H' := fun b hb => by
  by_cases z : b = p
  · rw [z]; exact ⟨o, hp, n⟩
  · obtain ⟨u, e, nu⟩ := m b hb
    exact ⟨u, g _ _ z e, nu⟩
theorem MOk.box {M : List Addr} {H H' : Hp} {p : Addr} {n : Nat} (m : MOk M H) (g : Grow p H H') (b : Bx H' p n) : MOk M H' := by
  obtain ⟨xs, e⟩ := bx_at b
  exact m.grow g e fun _ z => by cases z
theorem mok_nil {H : Hp} : MOk [] H := fun b hb => by cases hb
mutual
theorem any_msk {M : List Addr} {H : Hp} (m : MOk M H) : ∀ (d : PyData) (v : V), Any H v d → noL d = true → Any (msk M H) v d
  | .none, _, a, _ => by cases a; exact .non
  | .bool b, _, a, _ => by cases a; exact .bl b
  | .int i, _, a, _ => by cases a; exact .int i
  | .str x, _, a, _ => by cases a; exact .str x
  | .list ds, _, _, z => by cases z
  | .dict ds, _, _, z => by cases z
  | .tuple ds, _, a, z => by
    cases a with
    | tup e b =>
      rename_i q ys
      have nm : q ∉ M := fun y => by
        obtain ⟨o, eo, n⟩ := m q y
        rw [e] at eo
        exact n ys (Option.some.inj eo).symm
      exact .tup (by rw [msk_out nm]; exact e) (anyL_msk m ds _ b z)
theorem anyL_msk {M : List Addr} {H : Hp} (m : MOk M H) : ∀ (ds : List PyData) (vs : List V), AnyL H vs ds → noLs ds = true → AnyL (msk M H) vs ds
  | [], _, a, _ => by cases a; exact .nil
  | d :: ds, _, a, z => by
    have z2 : (noL d && noLs ds) = true := z
    rw [Bool.and_eq_true] at z2
    cases a with
    | cons a b => exact .cons (any_msk m d _ a z2.1) (anyL_msk m ds _ b z2.2)
end
theorem msk_new {M : List Addr} {H : Hp} {l : Addr} {o : HO} (m : MOk M H) (h : H l = none) : Same (msk M H) (msk M (upd H l o)) ∧ msk M (upd H l o) l = some o :=
  ⟨msk_same (same_new h), by rw [msk_out (m.new h)]; exact upd_same⟩
theorem list_src {K : PySem.W.Frag} {G H : Hp} {v : V} {d : PyData} (an : Any G v d) (k : Same G H) (e : isSeqD d = true) : ∃ p ys, v = .ref p ∧ (SqL K H p ys ∨ SqT K H p ys) ∧ AnyL G ys (itemsD d) := by
  cases an with
  | lst ea al => exact ⟨_, _, rfl, .inl (SqL.of (k _ _ ea)), al⟩
  | tup ea al => exact ⟨_, _, rfl, .inr (SqT.of (k _ _ ea)), al⟩
  | _ => cases e
theorem any_list1 {H : Hp} {v : V} {d0 : PyData} (h : Any H v (.list [d0])) : ∃ a v0, v = .ref a ∧ H a = some (.lst [v0]) ∧ Any H v0 d0 := by
  cases h with
  | lst e al =>
    cases al with
    | cons a0 al =>
      cases al
      exact ⟨_, _, rfl, e, a0⟩
theorem any_list2 {H : Hp} {v : V} {d0 d1 : PyData} (h : Any H v (.list [d0, d1])) : ∃ a v0 v1, v = .ref a ∧ H a = some (.lst [v0, v1]) ∧ Any H v0 d0 ∧ Any H v1 d1 := by
  cases h with
  | lst e al =>
    cases al with
    | cons a0 al =>
      cases al with
      | cons a1 al =>
        cases al
        exact ⟨_, _, _, rfl, e, a0, a1⟩
theorem any_list3 {H : Hp} {v : V} {d0 d1 d2 : PyData} (h : Any H v (.list [d0, d1, d2])) : ∃ a v0 v1 v2, v = .ref a ∧ H a = some (.lst [v0, v1, v2]) ∧ Any H v0 d0 ∧ Any H v1 d1 ∧ Any H v2 d2 := by
  cases h with
  | lst e al =>
    cases al with
    | cons a0 al =>
      cases al with
      | cons a1 al =>
        cases al with
        | cons a2 al =>
          cases al
          exact ⟨_, _, _, _, rfl, e, a0, a1, a2⟩
theorem cutV_drop {xs : List V} {c : Nat} (h : c ≤ xs.length) : cutV xs (some ((c : Nat) : Int)) none = xs.drop c := by
  unfold cutV
  rw [HT.sIx_nat, HT.sIx_none, Nat.min_eq_left h]
  exact List.take_of_length_le (by rw [List.length_drop]; omega)
theorem cutV_last {xs : List V} {v : V} : cutV (xs ++ [v]) none (some (-1)) = xs := by
  have l : (xs ++ [v]).length = xs.length + 1 := by rw [List.length_append] <;> rfl
  have e2 : HT.sIx (xs ++ [v]).length (xs ++ [v]).length (some (-1)) = xs.length := by
    rw [l]
    unfold HT.sIx
    simp
    omega
  unfold cutV
  rw [e2, HT.sIx_none, List.drop_zero, Nat.sub_zero, List.take_left']
  rfl
/-! ### deeds -/
/-- a matrix with its rows as lists -/
def asL : PyData → PyData
  | .list ds => .list (ds.map fun d => .list (itemsD d))
  | d => d
def seqsB : PyData → Bool
  | .list ds => ds.all isSeqD
  | .none => true
  | .str _ => true
  | _ => false
def wN : PyData := .list [.str "none"]
def dnD : PyData := .list [.str "done", .none]
inductive Res
  | no (d : PyData)
  | ok (t : St)
def Res.due : Res → PyData
  | .no d => d
  | .ok t => t.D
def Res.told : Res → PyData
  | .no d => d
  | .ok _ => dnD
def Res.st (s : St) : Res → St
  | .no _ => s
  | .ok t => t
/-- what is refused, and how -/
def Refuse (d : Dr) (da dn dm due : PyData) : Prop := (isArD da = false ∧ due = wD "arrow" da) ∨ (isArD da = true ∧ d.x.length = 6 ∧ due = wD "large" (.int 7)) ∨ (isArD da = true ∧ d.x.length < 6 ∧ isSzD dn = false ∧ due = wD "size" dn) ∨
  ∃ r n, da = .str (arrS r) ∧ d.x.length < 6 ∧ dn = natD n ∧ n ≤ 6 ∧ isMatD (highS r d.ss n : Nat) (wideS r d.ss n : Nat) dm = false ∧ due = wD "matrix" dm
structure Hand (dm : PyData) : Prop where
  s : seqsB dm = true
  n : (itemsD dm).length ≤ 1000
  i : ∀ e, e ∈ itemsD dm → (itemsD e).length ≤ 1000
  f : Fit (asL dm)
  q : Tq 3 (asL dm)
inductive Due (s : St) : PyData → Res → Prop
  | grow {r : Bool} {n : Nat} {w m : List (List Int)} : s.here.x.length < 6 → n ≤ 6 → MatOk s.here.q (highS r s.here.ss n) (wideS r s.here.ss n) m → redM s.here.q w = m → Hand (sheetL w) → Due s (.list [.str "grow", .str (arrS r), natD n, sheetL w]) (.ok ⟨s.past ++ [s.here], growDr s.here r n m, []⟩)
  | growNo {da dn dm due : PyData} : Hand dm → Refuse s.here da dn (asL dm) due → Due s (.list [.str "grow", da, dn, dm]) (.no due)
  | cutNo {d : PyData} : inB d (.int 1) (.int (s.here.x.length : Nat)) = false → Due s (.list [.str "cut", d]) (.no (wD "figure" d))
  | cut {c : Nat} : 1 ≤ c → c ≤ s.here.x.length → Due s (.list [.str "cut", natD c]) (.ok ⟨s.past ++ [s.here], cutDr s.here c, []⟩)
  | undoNo : s.past = [] → Due s (.list [.str "undo"]) (.no wN)
  | undo {ps : List Dr} {d : Dr} : s.past = ps ++ [d] → Due s (.list [.str "undo"]) (.ok ⟨ps, d, s.here :: s.later⟩)
  | redoNo : s.later = [] → Due s (.list [.str "redo"]) (.no wN)
  | redo {d : Dr} {ls : List Dr} : s.later = d :: ls → Due s (.list [.str "redo"]) (.ok ⟨s.past ++ [s.here], d, ls⟩)
theorem GoodS.more {n m : Nat} {s : St} (g : GoodS n s) (h : n ≤ m) : GoodS m s := ⟨g.p, g.h, g.l, Nat.le_trans g.n h⟩
theorem due_good {n : Nat} {s : St} {d : PyData} {r : Res} (g : GoodS n s) (h : Due s d r) : GoodS (n + 1) (r.st s) := by
  have gn := g.n
  have pre : ∀ e, e ∈ s.past ++ [s.here] → GoodD e := fun e he => by
    rcases List.mem_append.mp he with z | z
    · exact g.p e z
    · rw [List.mem_singleton.mp z]; exact g.h
  have ln : (s.past ++ [s.here]).length = s.past.length + 1 := by rw [List.length_append] <;> rfl
  cases h with
  | grow l6 n6 mo rd hd =>
    exact ⟨pre, grow_good g.h l6 n6 mo, fun e he => (nomatch he), by show (s.past ++ [s.here]).length + 0 ≤ n + 1; rw [ln]; omega⟩
  | cut c1 c2 => exact ⟨pre, cut_good g.h c2, fun e he => (nomatch he), by show (s.past ++ [s.here]).length + 0 ≤ n + 1; rw [ln]; omega⟩
  | undo e =>
    rename_i ps d
    have hl : s.past.length = ps.length + 1 := by rw [e, List.length_append] <;> rfl
    refine ⟨fun x hx => g.p x (by rw [e]; exact List.mem_append_left _ hx), g.p _ (by rw [e]; exact List.mem_append_right _ List.mem_cons_self), fun x hx => ?_, by show ps.length + (s.later.length + 1) ≤ n + 1; omega⟩
    rcases List.mem_cons.mp hx with z | z
    · rw [z]; exact g.h
    · exact g.l x z
  | redo e =>
    rename_i d ls
    have hl : s.later.length = ls.length + 1 := by rw [e] <;> rfl
    exact ⟨pre, g.l _ (by rw [e]; exact List.mem_cons_self), fun x hx => g.l x (by rw [e]; exact List.mem_cons_of_mem _ hx), by show (s.past ++ [s.here]).length + ls.length ≤ n + 1; rw [ln]; omega⟩
  | _ => exact g.more (by omega)
/-! ### what the law's own defs promise -/
def spShownD (C : Addr) : Sp := fun vs H Q _ => ∃ a d, vs = [.ref a] ∧ RowD C H a d ∧ GoodD d ∧ ∀ l H', Same H H' → Any H' (.ref l) d.D → Q (.ref l) H'
def spCutL : Sp := fun vs H Q _ => ∃ M v d c, vs = [v, .int (c : Nat)] ∧ MOk M H ∧ Any (msk M H) v d.D ∧ GoodD d ∧ c ≤ d.x.length ∧ ∀ l H', Same H H' → Any (msk M H') (.ref l) (cutDr d c).D → Q (.ref l) H'
def spAsL : Sp := fun vs H Q _ => ∃ M v d, vs = [v] ∧ MOk M H ∧ Any (msk M H) v d ∧ seqsB d = true ∧ (itemsD d).length ≤ 1000 ∧ (∀ e, e ∈ itemsD d → (itemsD e).length ≤ 1000) ∧ ∀ u H', Same H H' → Any (msk M H') u (asL d) →
  (∀ ds, d = .list ds → ∃ l acc, u = .ref l ∧ H l = none ∧ H' l = some (.lst acc) ∧ acc.length ≤ 1000 ∧ ∀ v, v ∈ acc → ∃ b xs, v = .ref b ∧ H b = none ∧ b ≠ l ∧ H' b = some (.lst xs) ∧ xs.length ≤ 1000) → Q u H'
def spLonger : Sp := fun vs H Q _ => ∃ M p v d n, vs = [.ref p, v] ∧ p ∈ M ∧ MOk M H ∧ Bx H p n ∧ n ≤ 500000 ∧ Any (msk M H) v d.D ∧ GoodD d ∧
  ∀ l H' r k m, k ≤ 3 → MatOk d.q (highS r d.ss k) (wideS r d.ss k) m → Grow p H H' → MOk M H' → Bx H' p (n + 100) → Any (msk M H') (.ref l) (.list [.str (arrS r), natD k, sheetD m, (growDr d r k m).D]) → Q (.ref l) H'
def spDeed : Sp := fun vs H Q _ => ∃ M p v s n N, vs = [.ref p, v] ∧ p ∈ M ∧ MOk M H ∧ Bx H p n ∧ n ≤ 400000 ∧ Any (msk M H) v s.D ∧ GoodS N s ∧ N ≤ 100 ∧
  ∀ l H' d r, Due s d r → Tq 4 r.told → Grow p H H' → MOk M H' → Bx H' p (n + 1000) → Any (msk M H') (.ref l) (.list [d, r.due]) → Q (.ref l) H'
def spWrong : Sp := fun vs H Q _ => ∃ M p v s n N, vs = [.ref p, v] ∧ p ∈ M ∧ MOk M H ∧ Bx H p n ∧ n ≤ 450000 ∧ Any (msk M H) v s.here.D ∧ GoodS N s ∧ N ≤ 100 ∧
  ∀ l H' d r, Due s d r → Tq 4 r.told → Grow p H H' → MOk M H' → Bx H' p (n + 900) → Any (msk M H') (.ref l) (.list [d, r.due]) → Q (.ref l) H'
def spDone (D C : Addr) : Sp := fun vs H Q _ => ∃ a v s d r N, vs = [.ref a, v] ∧ StrAt D C H a s ∧ GoodS N s ∧ N ≤ 100 ∧ Any H v d ∧ Due s d r ∧
  ∀ u H', Grow a H H' → StrAt D C H' a (r.st s) → Any H' (.ref u) r.told → Q (.ref u) H'
def spStands (D C : Addr) : Sp := fun vs H Q _ => ∃ a v s N, vs = [.ref a, v] ∧ StrAt D C H a s ∧ GoodS N s ∧ N ≤ 100 ∧ Any H v s.D ∧ ∀ H', Same H H' → Q (.bl true) H'
end Rw

set_option Elab.async false
set_option linter.all false
set_option maxRecDepth 100000
set_option maxHeartbeats 800000
/-! TkGD: what is handed to streams. -/
namespace Rw
open PySem PySem.Spec PyProof.Rows L2
theorem lay {M : List Addr} {H : Hp} {l : Addr} {vs : List V} {ds : List PyData} (m : MOk M H) (hl : H l = none) (al : AnyL (msk M H) vs ds) : Any (msk M (upd H l (.lst vs))) (.ref l) (.list ds) ∧ Same H (upd H l (.lst vs)) ∧ MOk M (upd H l (.lst vs)) := by
  obtain ⟨k, e⟩ := msk_new (o := .lst vs) m hl
  exact ⟨.lst e (anyL_keep k al), same_new hl, m.keep (same_new hl)⟩
theorem layT {M : List Addr} {H : Hp} {l : Addr} {vs : List V} {ds : List PyData} (m : MOk M H) (hl : H l = none) (al : AnyL (msk M H) vs ds) : Any (msk M (upd H l (.tup vs))) (.ref l) (.tuple ds) ∧ Same H (upd H l (.tup vs)) ∧ MOk M (upd H l (.tup vs)) := by
  obtain ⟨k, e⟩ := msk_new (o := .tup vs) m hl
  exact ⟨.tup e (anyL_keep k al), same_new hl, m.keep (same_new hl)⟩
theorem asL_sheet (m : List (List Int)) : asL (sheetD m) = sheetL m := by
  show PyData.list ((m.map tupI).map fun d => .list (itemsD d)) = .list (m.map lstI)
  rw [List.map_map] <;> rfl
theorem asL_far (m : List (List Int)) : asL (sheetL m) = sheetL m := by
  show PyData.list ((m.map lstI).map fun d => .list (itemsD d)) = .list (m.map lstI)
  rw [List.map_map] <;> rfl
theorem like_lsts : ∀ m : List (List Int), Like (m.map lstI) m
  | [] => .nil
  | r :: m => .cons (.inr rfl) (like_lsts m)
theorem big_of {q : Int} {h w : Nat} {m : List (List Int)} (hq : q ∈ primesL) (b : MatOk q h w m) : BigM h w m := ⟨b.h, fun r hr => ⟨(b.w r hr).1, fun e he => by
  have h1 := (b.w r hr).2 e he
  have h2 := prime_pos hq
  show e.natAbs < 10 ^ 29
  have : e.natAbs < 13 := by omega
  exact Nat.lt_trans this (by decide)⟩⟩
theorem hand_of {h w : Nat} {m : List (List Int)} (b : BigM h w m) (h6 : h ≤ 6) (w6 : w ≤ 6) {D : PyData} {ds : List PyData} (e : D = .list ds) (l : Like ds m) (ea : asL D = sheetL m) : Hand D := by
  obtain ⟨s, _⟩ := like_sheet (like_lsts m) b h6 w6
  subst e
  refine ⟨List.all_eq_true.mpr fun d hd => ?_, by show ds.length ≤ 1000; rw [l.len, b.h]; omega, fun d hd => ?_, by rw [ea]; exact s.f, by rw [ea]; exact s.tm.q.up (by decide)⟩
  · obtain ⟨r, _, z⟩ := l.mem d hd
    exact (like_items z).1
  · obtain ⟨r, hr, z⟩ := l.mem d hd
    rw [(like_items z).2, List.length_map, (b.w r hr).1]
    omega
theorem hand_sheet {h w : Nat} {m : List (List Int)} (b : BigM h w m) (h6 : h ≤ 6) (w6 : w ≤ 6) : Hand (sheetD m) := hand_of b h6 w6 rfl (like_tups m) (asL_sheet m)
theorem hand_far {h w : Nat} {m : List (List Int)} (b : BigM h w m) (h6 : h ≤ 6) (w6 : w ≤ 6) : Hand (sheetL m) := hand_of b h6 w6 rfl (like_lsts m) (asL_far m)
def oddCut (k : Nat) : List PyData := [.bool true, .none, .str "1", .int 0, natD k, .tuple [.int 1]]
theorem oddCut_ok {n : Nat} (h : n ≤ 6) : ∀ d ∈ oddCut (n + 1), inB d (.int 1) (.int (n : Nat)) = false ∧ Tq 1 d := by
  have c : ∀ n ∈ List.range 7, ∀ d ∈ oddCut (n + 1), inB d (.int 1) (.int (n : Nat)) = false ∧ tqB 1 d = true := by decide +kernel
  intro d hd
  obtain ⟨h1, h2⟩ := c n (List.mem_range.mpr (by omega)) d hd
  exact ⟨h1, tq_ofB h2⟩
def oddArr : List PyData := [.str "<<", .str "", .none, .int 1, .str "=", .list [.str ">"]]
theorem oddArr_ok : ∀ d ∈ oddArr, isArD d = false ∧ Tq 1 d := by
  have c : ∀ d ∈ oddArr, isArD d = false ∧ tqB 1 d = true := by decide +kernel
  intro d hd
  obtain ⟨h1, h2⟩ := c d hd
  exact ⟨h1, tq_ofB h2⟩
def oddSz : List PyData := [.int 7, .int (-1), .bool true, .none, .str "1", .tuple [.int 2]]
theorem oddSz_ok : ∀ d ∈ oddSz, isSzD d = false ∧ Tq 1 d := by
  have c : ∀ d ∈ oddSz, isSzD d = false ∧ tqB 1 d = true := by decide +kernel
  intro d hd
  obtain ⟨h1, h2⟩ := c d hd
  exact ⟨h1, tq_ofB h2⟩
def z7 : List Int := [0, 0, 0, 0, 0, 0, 0]
def oddMat (m : List (List Int)) : List PyData := [.list (m.map tupI ++ [tupI z7]), .none, .list [.list [.none]], .str "x"]
theorem hand_no {d : PyData} (h : seqsB d = true ∧ decide ((itemsD d).length ≤ 1000) = true ∧ ((itemsD d).all fun e => decide ((itemsD e).length ≤ 1000)) = true ∧ fitB (asL d) = true ∧ tqB 3 (asL d) = true) : Hand d :=
  ⟨h.1, of_decide_eq_true h.2.1, fun e he => of_decide_eq_true (List.all_eq_true.mp h.2.2.1 e he), fit_ofB h.2.2.2.1, tq_ofB h.2.2.2.2⟩
theorem oddMat_ok {h w : Nat} {m : List (List Int)} (b : BigM h w m) (h6 : h ≤ 6) (w6 : w ≤ 6) : ∀ d ∈ oddMat m, Hand d ∧ isMatD (h : Nat) (w : Nat) (asL d) = false := by
  intro d hd
  rcases List.mem_cons.mp hd with z | hd
  · subst z
    have ea : asL (.list (m.map tupI ++ [tupI z7])) = .list (m.map lstI ++ [lstI z7]) := by
      show PyData.list ((m.map tupI ++ [tupI z7]).map fun d => .list (itemsD d)) = _
      rw [List.map_append, List.map_map] <;> rfl
    have fz : Fit (.list [lstI z7]) := fit_ofB (by decide +kernel)
    have rz : Fit1 (lstI z7) := fz.sub _ List.mem_cons_self
    have sz : smallB (lstI z7) = true := by decide +kernel
    have tz : Tq 2 (lstI z7) := tq_ofB (by decide +kernel)
    have rows : ∀ e, e ∈ m.map lstI → RowT e := fun e he => by
      obtain ⟨r, hr, rfl⟩ := List.mem_map.mp he
      exact like_row b w6 hr (.inr rfl)
    have lm : (m.map lstI).length = h := by rw [List.length_map, b.h]
    have lm2 : (m.map lstI ++ [lstI z7]).length = h + 1 := by rw [List.length_append, lm] <;> rfl
    refine ⟨⟨List.all_eq_true.mpr fun e he => ?_, by show (m.map tupI ++ [tupI z7]).length ≤ 1000; rw [List.length_append, List.length_map, b.h]; show h + 1 ≤ 1000; omega, fun e he => ?_, ?_, ?_⟩, ?_⟩
    · rcases List.mem_append.mp he with z | z
      · obtain ⟨r, _, rfl⟩ := List.mem_map.mp z
        rfl
      · rw [List.mem_singleton.mp z] <;> rfl
    · rcases List.mem_append.mp he with z | z
      · obtain ⟨r, hr, rfl⟩ := List.mem_map.mp z
        show (r.map PyData.int).length ≤ 1000
        rw [List.length_map, (b.w r hr).1]
        omega
      · rw [List.mem_singleton.mp z]
        decide
    · rw [ea]
      refine ⟨fit1_of (ds := m.map lstI ++ [lstI z7]) rfl (by rw [lm2]; omega) fun e he => ?_, fun e he => ?_⟩
      · rcases List.mem_append.mp he with z | z
        · exact (rows e z).sm
        · rw [List.mem_singleton.mp z]; exact sz
      · rcases List.mem_append.mp (show e ∈ m.map lstI ++ [lstI z7] from he) with z | z
        · exact (rows e z).f1
        · rw [List.mem_singleton.mp z]; exact rz
    · rw [ea]
      refine tq_list (by rw [lm2]; omega) fun e he => ?_
      rcases List.mem_append.mp he with z | z
      · exact (rows e z).tm.q.up (by decide)
      · rw [List.mem_singleton.mp z]; exact tz
    · rw [ea]
      unfold isMatD
      have : decide (((itemsD (.list (m.map lstI ++ [lstI z7]))).length : Int) = (h : Nat)) = false := decide_eq_false (by
        show ¬ (((m.map lstI ++ [lstI z7]).length : Nat) : Int) = (h : Nat)
        rw [lm2]
        omega)
      rw [this, Bool.false_and, Bool.and_false]
  rcases List.mem_cons.mp hd with z | hd
  · subst z
    exact ⟨hand_no (by decide +kernel), rfl⟩
  rcases List.mem_cons.mp hd with z | hd
  · subst z
    refine ⟨hand_no (by decide +kernel), ?_⟩
    have c : ∀ h ∈ List.range 7, ∀ w ∈ List.range 7, isMatD (h : Nat) (w : Nat) (asL (.list [.list [.none]])) = false := by decide +kernel
    exact c h (List.mem_range.mpr (by omega)) w (List.mem_range.mpr (by omega))
  · rw [List.mem_singleton.mp hd]
    exact ⟨hand_no (by decide +kernel), rfl⟩
theorem tq_fig : Tq 0 (.str "figure") := tq_str (by decide +kernel) (by decide +kernel)
theorem tq_arrW : Tq 0 (.str "arrow") := tq_str (by decide +kernel) (by decide +kernel)
theorem tq_largeW : Tq 0 (.str "large") := tq_str (by decide +kernel) (by decide +kernel)
theorem tq_sizeW : Tq 0 (.str "size") := tq_str (by decide +kernel) (by decide +kernel)
theorem tq_matW : Tq 0 (.str "matrix") := tq_str (by decide +kernel) (by decide +kernel)
theorem tq_wX {n : Nat} {x : Str} {d : PyData} (hx : Tq 0 (.str x)) (h : Tq n d) : Tq (n + 1) (wD x d) := tq_list (by show 2 ≤ 12; decide) (by
  intro e he
  rcases List.mem_cons.mp he with z | z
  · rw [z]; exact hx.up (Nat.zero_le _)
  · rw [List.mem_singleton.mp z]; exact h)
theorem tq_dn : Tq 4 dnD := tq_ofB (by decide +kernel)
theorem tq_wN : Tq 4 wN := tq_ofB (by decide +kernel)
theorem tq_fine {d : PyData} (h : Tq 4 d) : d.showable = true ∧ d.depth ≤ 60 ∧ d.shown.length ≤ sizeLine :=
  ⟨h.sh, by have := h.dp; omega, Nat.le_trans h.ln (by decide +kernel)⟩
end Rw

set_option Elab.async false
set_option linter.all false
set_option maxRecDepth 100000
set_option maxHeartbeats 800000
/-! TkGE: what a deed leads to. -/
namespace Rw
open PySem PySem.Spec PyProof.Rows L2
structure Grows (s : St) (da dn dm : PyData) (res : Res) (m : List (List Int)) : Prop where
  oa : isArD da = false → res = .no (wD "arrow" da)
  ol : isArD da = true → s.here.x.length = 6 → res = .no (wD "large" (.int 7))
  os : isArD da = true → s.here.x.length < 6 → isSzD dn = false → res = .no (wD "size" dn)
  om : ∀ (r : Bool) (n : Nat), da = .str (arrS r) → s.here.x.length < 6 → dn = natD n → n ≤ 6 → isMatD (highS r s.here.ss n : Nat) (wideS r s.here.ss n : Nat) dm = false → res = .no (wD "matrix" dm)
  ok : ∀ (r : Bool) (n : Nat), da = .str (arrS r) → s.here.x.length < 6 → dn = natD n → n ≤ 6 → isMatD (highS r s.here.ss n : Nat) (wideS r s.here.ss n : Nat) dm = true → rowsM s.here.q dm = m.map tupI ∧ res = .ok ⟨s.past ++ [s.here], growDr s.here r n m, []⟩
theorem nat_inj {n k : Nat} (h : natD n = natD k) : n = k := by
  have := PyData.int.inj h
  omega
theorem grows_ok {s : St} {r : Bool} {n : Nat} {w m : List (List Int)} (g : GoodS 100 s) (l6 : s.here.x.length < 6) (n6 : n ≤ 6) (mo : MatOk s.here.q (highS r s.here.ss n) (wideS r s.here.ss n) m) (rd : redM s.here.q w = m) :
    Grows s (.str (arrS r)) (natD n) (asL (sheetL w)) (.ok ⟨s.past ++ [s.here], growDr s.here r n m, []⟩) m := by
  rw [asL_far]
  have mt : isMatD (highS r s.here.ss n : Nat) (wideS r s.here.ss n : Nat) (sheetL w) = true := sheetL_is (q := s.here.q) (by rw [rd]; exact mo)
  refine ⟨fun z => ?_, fun _ z => ?_, fun _ _ z => ?_, fun r2 n2 e1 _ e2 _ z => ?_, fun r2 n2 e1 _ e2 _ _ => ?_⟩
  · rw [arD_is] at z; cases z
  · omega
  · rw [szD_nat n6] at z; cases z
  · cases arrS_inj (PyData.str.inj e1)
    cases nat_inj e2
    rw [mt] at z; cases z
  · cases arrS_inj (PyData.str.inj e1)
    cases nat_inj e2
    exact ⟨by rw [rows_red, rd], rfl⟩
theorem grows_no {s : St} {da dn dm due : PyData} (h : Refuse s.here da dn dm due) : Grows s da dn dm (.no due) [] := by
  rcases h with ⟨h1, rfl⟩ | ⟨h1, h2, rfl⟩ | ⟨h1, h2, h3, rfl⟩ | ⟨r, n, rfl, h2, rfl, h4, h5, rfl⟩
  · refine ⟨fun _ => rfl, fun z => ?_, fun z => ?_, fun r n e => ?_, fun r n e => ?_⟩
    · rw [h1] at z; cases z
    · rw [h1] at z; cases z
    · rw [e, arD_is] at h1; cases h1
    · rw [e, arD_is] at h1; cases h1
  · refine ⟨fun z => ?_, fun _ _ => rfl, fun _ z => ?_, fun r n _ z => ?_, fun r n _ z => ?_⟩
    · rw [h1] at z; cases z
    · omega
    · omega
    · omega
  · refine ⟨fun z => ?_, fun _ z => ?_, fun _ _ _ => rfl, fun r n _ _ e n6 => ?_, fun r n _ _ e n6 => ?_⟩
    · rw [h1] at z; cases z
    · omega
    · rw [e, szD_nat n6] at h3; cases h3
    · rw [e, szD_nat n6] at h3; cases h3
  · refine ⟨fun z => ?_, fun _ z => ?_, fun _ _ z => ?_, fun r2 n2 e1 _ e2 _ _ => rfl, fun r2 n2 e1 _ e2 _ z => ?_⟩
    · rw [arD_is] at z; cases z
    · omega
    · rw [szD_nat h4] at z; cases z
    · cases arrS_inj (PyData.str.inj e1)
      cases nat_inj e2
      rw [h5] at z; cases z
theorem due_split {s : St} {d : PyData} {res : Res} (g : GoodS 100 s) (h : Due s d res) :
    (∃ da dn dm m, d = .list [.str "grow", da, dn, dm] ∧ Hand dm ∧ Grows s da dn (asL dm) res m) ∨
    (∃ dc, d = .list [.str "cut", dc] ∧ (inB dc (.int 1) (.int (s.here.x.length : Nat)) = false → res = .no (wD "figure" dc)) ∧ ∀ c : Nat, dc = natD c → 1 ≤ c → c ≤ s.here.x.length → res = .ok ⟨s.past ++ [s.here], cutDr s.here c, []⟩) ∨
    (d = .list [.str "undo"] ∧ (s.past = [] → res = .no wN) ∧ ∀ ps e, s.past = ps ++ [e] → res = .ok ⟨ps, e, s.here :: s.later⟩) ∨
    (d = .list [.str "redo"] ∧ (s.later = [] → res = .no wN) ∧ ∀ e ls, s.later = e :: ls → res = .ok ⟨s.past ++ [s.here], e, ls⟩) := by
  cases h with
  | grow l6 n6 mo rd hd => exact .inl ⟨_, _, _, _, rfl, hd, grows_ok g l6 n6 mo rd⟩
  | growNo hd rf => exact .inl ⟨_, _, _, _, rfl, hd, grows_no rf⟩
  | cutNo e => exact .inr (.inl ⟨_, rfl, fun _ => rfl, fun c ec c1 c2 => by
      rw [ec, show inB (natD c) (.int 1) (.int (s.here.x.length : Nat)) = true from inB_yes (by omega) (by omega)] at e
      cases e⟩)
  | cut c1 c2 =>
    rename_i c0
    have iy : inB (natD c0) (.int 1) (.int (s.here.x.length : Nat)) = true := inB_yes (by omega) (by omega)
    exact .inr (.inl ⟨_, rfl, fun e => (by rw [iy] at e; cases e), fun c ec _ _ => (by rw [nat_inj ec])⟩)
  | undoNo e => exact .inr (.inr (.inl ⟨rfl, fun _ => rfl, fun ps x y => by rw [e] at y; cases ps <;> cases y⟩))
  | undo e => exact .inr (.inr (.inl ⟨rfl, fun y => by rw [y] at e; exact absurd e.symm (by simp), fun ps x y => by
      rw [e] at y
      obtain ⟨rfl, z⟩ := List.append_inj' y rfl
      cases z
      rfl⟩))
  | redoNo e => exact .inr (.inr (.inr ⟨rfl, fun _ => rfl, fun x ls y => by rw [e] at y; cases y⟩))
  | redo e => exact .inr (.inr (.inr ⟨rfl, fun y => (by rw [y] at e; cases e), fun x ls y => by
      rw [e] at y
      cases y
      rfl⟩))
theorem stD_eqv {s : St} (g : GoodD s.here) : PyData.eqv s.here.D s.here.D = true := by
  unfold Dr.D
  rw [eqv_draft, same_row]
end Rw

set_option Elab.async false
set_option linter.all false
set_option maxRecDepth 100000
set_option maxHeartbeats 800000
/-! TkGF: lists read, walked and lengthened in a try's body and in its clauses (the fragment given by hand). -/
namespace Rw
open PySem PySem.Spec PyProof.Rows L2
section
variable {X : Cx}
theorem ixL (K : PySem.W.Frag) (e : X.K = K := by rfl) : IxR X (rIxL K) := by
  subst e
  exact ix_list
theorem piL (K : PySem.W.Frag) {tg l : Expr} {tl : TE} (hl : PE X l tl) (e : X.K = K := by rfl) : PI X tg l (iList K tl) := by
  subst e
  exact pi_list hl
theorem pe_app (K : PySem.W.Frag) {o e : Expr} {es : List Expr} {to : TE} {t : TA} {apos cpos : Pos} (ho : PE X o to) (ha : PA X (e :: es) t) (eK : X.K = K := by rfl)
    (hbase : attributeBase o "append" X.env (eval o X.env) = eval o X.env := by rfl)
    (hfew : ((backTo cpos (starEach (e :: es) X.env)).all (fun x => !x.1) && (backToKw cpos (keywordEach [] X.env)).all (fun x => x.1.isSome)
      && decide ((e :: es).length + ([] : List Keyword).length + (if ([] : List Keyword).isEmpty then 0 else 1) < 30)) = true := by rfl)
    (hline : (apos.endLine == cpos.line) = true := by rfl) (hs : starEach (e :: es) X.env = (false, eval e X.env) :: starEach es X.env := by rfl) (hplain : (backTo cpos (starEach es X.env)).any (·.1) = false := by rfl) :
    PE X (.Call (.Attribute o "append" apos) (e :: es) [] cpos) (tBM K "list" rAppend to t) := by
  subst eK
  exact pe_bm PySem.F.plainAttrs_list PySem.F.slot_list_append PySem.F.type_list_append mt_append ho ha hbase hfew hline hs hplain
end
end Rw

set_option Elab.async false
set_option linter.all false
set_option maxRecDepth 100000
set_option maxHeartbeats 800000
/-! TkHA: the items of a dict whose keys are tuples, walked while the dict is locked. -/
namespace Rw
open PySem PySem.Spec PyProof.Rows L2
/-- one entry of a locked dict with tuple keys, as it lies -/
theorem ent_T {X : Cx} {pins : List (Addr × Obj)} {σ : L2.St} {H : Hp} {s : Shared} {d : Addr} {o : Obj} {kvs : List (List L2.Key × V)} (I : Inv X pins σ H s) (h : H d = some (.frz o (.dT kvs))) :
    (d == sysModules) = false ∧ ∃ (es : Array DictEntry) (ep : Nat), DT.Raw s.heap d es ep ∧ o.data = .dict es ep ∧ o.ExactDict ∧ es.size = kvs.length ∧ kvs.length ≤ sizeLine ∧
      ∀ (i : Nat) (k : List L2.Key) (v : V), kvs[i]? = some (k, v) → ∃ (en : DictEntry) (q : Addr), es[i]? = some en ∧ en.key = .ref q ∧ RelV v en.val ∧ H q = some (.tup (k.map kV)) := by
  obtain ⟨g0, z0, m0, xs, rel, o2, es, ep, g1, ex, dat, ents, _⟩ := I.hok d _ h
  have same : o2 = o := Option.some.inj (g1.symm.trans g0)
  subst same
  have n1 : es.size = xs.length := size_of_entries ents
  have n2 : kvs.length = xs.length := Paired.length rel
  refine ⟨m0, es, ep, ⟨o2, g0, ex, dat⟩, dat, ex, n1.trans n2.symm, z0, fun i k v e => ?_⟩
  obtain ⟨b, hb, e1, e2, e3⟩ := paired_get rel e
  have w0 := entry_at ents i
  rw [hb] at w0
  exact ⟨_, b.2.1, w0, rfl, e3, e2⟩
/-- the pairs, each a new tuple of the key's own tuple and the value -/
def Itp (d : Addr) (o : Obj) (kvs : List (List L2.Key × V)) : It where
  go := fun i H => H d = some (.frz o (.dT kvs)) ∧ i < kvs.length
  yld := fun i H x H' => ∃ T k v q, kvs[i]? = some (k, v) ∧ H q = some (.tup (k.map kV)) ∧ x = .ref T ∧ H T = none ∧ H' = upd H T (.tup [.ref q, v])
  stop := fun i H => H d = some (.frz o (.dT kvs)) ∧ kvs.length ≤ i
theorem turn_p {P : Program} {w : World} {K : PySem.W.Frag} {d : Addr} {o : Obj} {es : Array DictEntry} {ep : Nat} {kvs : List (List L2.Key × V)} {elts : List Expr} {kk : Nat} {tpos : Pos} (it : Addr) (hod : o.data = .dict es ep) :
    Turn P w K (.Tuple elts kk tpos) (Itp d o kvs) [it] it (fun i h => ∃ ok ov, IsItemIter h it d i kvs.length ep ok ov) := by
  have mem : it ∈ [it] := List.mem_singleton.mpr rfl
  refine { mem := mem, obj := ?_, keep := ?_, item := ?_, done := ?_, self := ?_ }
  · rintro i h ⟨ok, ov, e⟩ b hb
    cases List.mem_singleton.mp hb
    exact ⟨_, e, fun v z => nomatch z⟩
  · rintro i h h' ⟨ok, ov, e⟩ k
    exact ⟨ok, ov, k it mem _ e⟩
  · rintro X rfl rfl rfl hc i pins s σ H E I fp ⟨ok, ov, e⟩ ⟨hd, hi⟩
    obtain ⟨nm, es1, ep1, raw, dat, ex, len, _, ents⟩ := ent_T I hd
    cases hod.symm.trans dat
    have hi2 : i < es.size := by rw [len]; exact hi
    obtain ⟨⟨k, v⟩, hkv⟩ : ∃ p, kvs[i]? = some p := ⟨_, List.getElem?_eq_getElem hi⟩
    obtain ⟨en, q, g1, g2, g3, g4⟩ := ents i k v hkv
    have g5 : es[i] = en := by
      rw [Array.getElem?_eq_getElem hi2] at g1
      exact Option.some.inj g1
    rw [← len] at e
    have low : it < s.heap.objs.size := Heap.lt_size e
    refine DT.nextI e raw hi2 fun h1 out tup sz old => ?_
    refine ⟨_, rfl, wpAny_letOwnedTupleGo_items (s := { s with heap := h1 }) out fun h2 back sb => ?_⟩
    have tup2 : h2.get? s.heap.objs.size = some { cls := .type "tuple", data := .seq #[es[i].key, es[i].val] } := (sb.2 _ (Nat.ne_of_gt low)).trans tup
    rw [g5] at tup2 back
    have made : ObjOk X.prog X.w (upd H s.heap.objs.size (.tup [.ref q, v])) h2 s.heap.objs.size (.tup [.ref q, v]) :=
      ⟨by show 2 ≤ sizeLine; decide, [en.key, en.val], .cons g2 (.cons g3 .nil), ⟨_, tup2, rfl, _, rfl⟩⟩
    have J := I.turnedNew (t' := s.toks) (ch := [it]) (h' := h2) (fun b ob hb z => (sb.2 b (fun y => hb (by rw [y]; exact mem))).trans (old b ob (fun y => hb (by rw [y]; exact mem)) z)) fp (Nat.le_refl _) made
    refine ⟨.ref s.heap.objs.size, _, J, rfl, ⟨_, k, v, q, hkv, g4, rfl, I.hok.fresh (Nat.le_refl _), rfl⟩, ⟨en.key, en.val, ?_⟩, fun b hb => ?_⟩
    · rw [← len]
      exact back
    · rw [List.mem_singleton.mp hb, upd_ne (Nat.ne_of_lt low)]
      exact (fp it mem).1
  · rintro X rfl rfl rfl hc i pins s σ H E I fp ⟨ok, ov, e⟩ ⟨hd, hi⟩
    obtain ⟨nm, es1, ep1, raw, dat, ex, len, _, ents⟩ := ent_T I hd
    cases hod.symm.trans dat
    obtain ⟨f0, f1, f2, f3, f4, f5⟩ := fp it mem
    rw [← len] at e hi
    exact DT.endI (I.ok.hd hc) e raw hi fun h1 eb => ⟨rfl, I.turned (t' := s.toks) (fun b ob hb z => eb b ob hb z) f0 f1 f3 f4 f5⟩
  · rintro A i s Q E ⟨ok, ov, e⟩ hq
    exact PySem.W.kcp_self e hq
/-- d.items() of a locked dict with tuple keys -/
def iItp (td : TE) : TI := fun σ H R => td σ H fun x H1 => ∃ d o kvs, x = .ref d ∧ H1 d = some (.frz o (.dT kvs)) ∧ R (Itp d o kvs) H1
theorem pi_itp {X : Cx} {e : Expr} {td : TE} {apos cpos : Pos} {elts : List Expr} {kk : Nat} {tpos : Pos} (he : PE X e td) (hb : attributeBase e "items" X.env (eval e X.env) = eval e X.env := by rfl) (hl : (apos.endLine == cpos.line) = true := by rfl) :
    PI X (.Tuple elts kk tpos) (.Call (.Attribute e "items" apos) [] [] cpos) (iItp td) := by
  constructor
  intro pins s σ H R I h
  refine wpAny_Call_method (T := "dict") (id := "dict.items") hb rfl hl F.plainAttrs_dict F.slot_dict_items F.type_dict_items (thn (he.run pins s σ H _ I h) ?_)
  rintro u s1 ⟨x, H1, J, rx, d, o, kvs, rfl, hd, q⟩
  cases rx
  obtain ⟨nm, es, ep, raw, dat, ex, len, _, ents⟩ := ent_T J hd
  refine ⟨raw.typeIs, ?_, ?_⟩
  · intro a e
    cases e
    obtain ⟨oo, g, ed, _⟩ := raw
    exact ⟨oo, g, ed.2.1⟩
  have J2 : Inv X pins σ H1 { s1 with heap := s1.heap.push { cls := .type "dict_items", data := .fields #[.ref d] } } := J.kept (t' := s1.toks) fun b ob z => Heap.get?_push_of_some _ z
  show wpAny _ _ (callWith cpos (.builtin "dict.items") [.ref d] [] []) _ X.xe s1
  refine method_meetsIn F.slot_dict_items F.entry_dict_items rfl (PySem.evalArgs_none ⟨rfl, raw.typeIs, F.args_dict_items_1 _, _, DT.meetsItems (es := es) (ep := ep) nm, ⟨raw, ?_⟩⟩)
  refine DT.iterI (d := d) ⟨_, Heap.get?_push_size _ rfl, rfl, rfl⟩ (raw.push _) (pi_one (tk := s1.toks) J2 _ (turn_p _ dat) ⟨.none, .none, ?_⟩ q)
  rw [← len]
  exact Heap.get?_push_size _ rfl
theorem walk_itp {d : Addr} {o : Obj} {kvs : List (List L2.Key × V)} : Walk (Itp d o kvs) kvs.length (fun H => H d = some (.frz o (.dT kvs))) (fun i H x H' => ∃ T k v q, kvs[i]? = some (k, v) ∧ H q = some (.tup (k.map kV)) ∧ x = .ref T ∧ H T = none ∧ H' = upd H T (.tup [.ref q, v])) :=
  ⟨fun i H hi q => ⟨q, hi⟩, fun H q => ⟨q, Nat.le_refl _⟩, fun i H x H' hi q y => y⟩
end Rw

set_option Elab.async false
set_option linter.all false
set_option maxRecDepth 100000
set_option maxHeartbeats 1500000
/-! TkHB: a dict with tuple keys made by a comprehension. -/
namespace Rw
open PySem PySem.Spec PyProof.Rows L2
section
variable {X : Cx}
/-- a tuple of ints and texts put as a key -/
theorem put_T {pins : List (Addr × Obj)} {σ : L2.St} {H : Hp} {s : Shared} {E : Value → Shared → Prop} {D q : Addr} {kvs : List (List L2.Key × V)} {k : List L2.Key} {v : V} {r : Value} {Q : Unit → Shared → Prop} (hu : X.A.units < cLine) (I : Inv X pins σ H s)
    (e : H D = some (.dT kvs)) (eq : H q = some (.tup (k.map kV))) (l : kvs.length < sizeLine) (rv : RelV v r) (h : ∀ s', Inv X pins σ (upd H D (.dT (putK kvs k v))) s' → Q () s') : wpAny (model X.prog X.w) X.A (dictSet D (.ref q) r) Q E s := by
  obtain ⟨_, nm, xs, rel, raw⟩ := dt_of I.hok e
  have few : xs.length ≤ sizeLine := by
    have := Paired.length rel
    omega
  have most : (putK kvs k v).length ≤ sizeLine := Nat.le_trans (length_putK kvs k v) l
  refine wpAny_dictSet_heap (hsz := few) hu (key_of I.hok eq) raw fun h1 raw1 sb => h _ ?_
  obtain ⟨ob, es, ep, g1, g2, g3, g4, _, g5⟩ := raw1
  refine d_write I (by rw [e]; exact True.intro) sb ⟨ob, g1⟩ ⟨most, nm, _, (rel.put k eq rv).keeps fun c ys ec => ?_, ob, es, ep, g1, g2, g3, g4, g5⟩
  have ne : c ≠ D := fun z => by rw [z, e] at ec; cases ec
  rw [upd_ne ne]
  exact ec
/-- what {k: v for target in iter if ..} asks, its keys tuples: D the new dict -/
def tDcT (wi : TI) (g : TG) (tt : TT) (tk tv : TE) (vs : List Nat) : TE := fun σ H Q => wi σ H fun J H1 => ∀ D, H1 D = none →
  ∃ W : Nat → Nat → Hp → Prop, (∃ m, W 0 m (upd H1 D (.dT []))) ∧ ∀ i m G, W i m G → (J.stop i G ∧ Q (.ref D) G) ∨ (J.go i G ∧ ∃ Nx : Hp → Prop, (∀ G', Nx G' → ∃ m', m' < m ∧ W (i + 1) m' G') ∧
    ∀ x G', J.yld i G x G' → g x (wipe σ vs) G' fun σ2 G2 => wipe σ2 vs = wipe σ vs ∧ tt σ2 G2 fun b G3 =>
      if b = true then tk σ2 G3 fun y G4 => tv σ2 G4 fun z G5 => ∃ kvs k q, y = .ref q ∧ G5 q = some (.tup (k.map kV)) ∧ G5 D = some (.dT kvs) ∧ kvs.length < sizeLine ∧ Nx (upd G5 D (.dT (putK kvs k z))) else Nx G3)
theorem pe_dcT {kx vx tg iter : Expr} {ifs : List Expr} {scope : Scope} {own : List (Str × Nat)} {pos : Pos} {wi : TI} {g : TG} {tt : TT} {tk tv : TE} (hu : X.A.units < cLine) (hc : X.calm = true) (hN : X.N.Nodup) (hi : PI X tg iter wi) (ok : BlkOk X.N X.env.scope scope own)
    (hg : ∀ (s : Shared) (H : Hp) (C : Addr) (cl : List (Str × Addr)) (fp : List Addr), PG (X.blk s H scope (compEnvC scope cl C X.env) fp) tg g)
    (ht : ∀ (s : Shared) (H : Hp) (C : Addr) (cl : List (Str × Addr)) (fp : List Addr), PTs (X.blk s H scope (compEnvC scope cl C X.env) fp) ifs tt) (hk : ∀ (s : Shared) (H : Hp) (C : Addr) (cl : List (Str × Addr)) (fp : List Addr), PE (X.blk s H scope (compEnvC scope cl C X.env) fp) kx tk)
    (he : ∀ (s : Shared) (H : Hp) (C : Addr) (cl : List (Str × Addr)) (fp : List Addr), PE (X.blk s H scope (compEnvC scope cl C X.env) fp) vx tv)
    (hs : ∀ x, foldedSetIterable iter X.env x = pure x := by intro _; rfl) : PE X (.DictComp kx vx [⟨tg, iter, ifs, 0⟩] scope pos) (tDcT wi g tt tk tv (own.map (·.2))) := by
  constructor
  intro pins s σ H Q I h
  rw [arm_eval_DictComp]
  have cells : ∀ y ∈ scope.names, y.2 = .free → ∃ c, X.env.cells.lookup y.1 = some c := fun y hy e => (ok.free y hy e).elim (fun k => I.ok.has _ (.inl k)) fun k => I.ok.has _ (.inr k)
  refine wpAny_comprehension_free (use := none) rfl hs (closure_ok cells) ok.kind (fun y hy e => by rw [ok.uniq y hy, e]) (thn (hi.run pins s σ H _ I h) fun src s1 w1 => thn w1 fun itr s2 w2 => ?_)
  obtain ⟨it, fp, tn, J, G, rfl, I2, T, st2, f2, q⟩ := w2
  refine wpAny_newObj_type ?_
  refine newEnv_comp ?_
  obtain ⟨D, eD⟩ : ∃ D, s2.heap.objs.size = D := ⟨_, rfl⟩
  have freeD : G D = none := I2.hok.fresh (Nat.le_of_eq eD)
  obtain ⟨W, ⟨m0, first⟩, turn⟩ := q D freeD
  rw [eD]
  -- the dict is laid
  have I3 : Inv X pins σ (upd G D (.dT [])) { s2 with heap := s2.heap.push { cls := .type "dict", data := .dict #[] } } := by
    refine I2.laid (t' := s2.toks) (fun b o e => Heap.get?_push_of_some _ e) (Nat.le_of_eq eD) ?_
    have := dt_empty (P := X.prog) (w := X.w) (H := upd G D (.dT [])) s2.heap I2.big
    rw [eD] at this
    exact this
  obtain ⟨s3, e3⟩ : ∃ s3 : Shared, s3 = { s2 with heap := s2.heap.push { cls := .type "dict", data := .dict #[] } } := ⟨_, rfl⟩
  have hp3 : s3.heap = s2.heap.push { cls := .type "dict", data := .dict #[] } := by rw [e3]
  rw [← e3] at I3 ⊢
  have low : ∀ b ∈ fp, b < s2.heap.objs.size := fun b hb => (T.obj _ _ st2 b hb).elim fun o e => Heap.lt_size e.1
  have ne0 : ∀ b ∈ fp, b ≠ D := fun b hb z => Nat.lt_irrefl D (by have := low b hb; rw [eD, z] at this; exact this)
  have f3 : ∀ b ∈ fp, FpOk X pins (upd G D (.dT [])) b ∧ b < s3.heap.objs.size := fun b hb =>
    ⟨⟨by rw [upd_ne (ne0 b hb)]; exact (f2 b hb).1, (f2 b hb).2⟩, by rw [hp3, Heap.size_push]; exact Nat.lt_succ_of_lt (low b hb)⟩
  have st3 : tn 0 s3.heap := T.keep _ _ _ st2 fun b _ o e => by rw [hp3]; exact Heap.get?_push_of_some _ e
  have B4 := block_start I3 ok hN f3
  have qg := hg s3 (upd G D (.dT [])) s3.heap.objs.size (cellsFrom (s3.heap.objs.size + 1) scope.names (cloFrom X.env.cells scope.names [])) fp
  have qt := ht s3 (upd G D (.dT [])) s3.heap.objs.size (cellsFrom (s3.heap.objs.size + 1) scope.names (cloFrom X.env.cells scope.names [])) fp
  have qk := hk s3 (upd G D (.dT [])) s3.heap.objs.size (cellsFrom (s3.heap.objs.size + 1) scope.names (cloFrom X.env.cells scope.names [])) fp
  have qe := he s3 (upd G D (.dT [])) s3.heap.objs.size (cellsFrom (s3.heap.objs.size + 1) scope.names (cloFrom X.env.cells scope.names [])) fp
  have off : ∀ b ∈ fp, (upd G D (.dT [])) b = none := fun b hb => (f3 b hb).1.1
  obtain ⟨ce, ece⟩ : ∃ ce, ce = compEnvC scope (cellsFrom (s3.heap.objs.size + 1) scope.names (cloFrom X.env.cells scope.names [])) s3.heap.objs.size X.env := ⟨_, rfl⟩
  have loc : ce.locals = s3.heap.objs.size := by rw [ece] <;> rfl
  show codeAny (model X.prog X.w) X.A (.compStart (.DictComp kx vx [⟨tg, iter, ifs, 0⟩] scope pos) 0 (.ref it) (.ref D) (compEnvC scope (cellsFrom (s3.heap.objs.size + 1) scope.names (cloFrom X.env.cells scope.names [])) s3.heap.objs.size X.env)) (compPost (model X.prog X.w) X.A X.xe none (EP X pins σ Q) (.ref D) s3.heap.objs.size) { s3 with heap := pushCells (s3.heap.push { cls := .type "dict", data := .dict #[] }) scope.names }
  rw [← ece] at B4 qg qt qk qe ⊢
  obtain ⟨G3, eG3⟩ : ∃ G3, G3 = upd G D (.dT []) := ⟨_, rfl⟩
  rw [← eG3] at I3 B4 qg qt qk qe first off f3
  obtain ⟨s4, e4⟩ : ∃ s4 : Shared, s4 = { s3 with heap := pushCells (s3.heap.push { cls := .type "dict", data := .dict #[] }) scope.names } := ⟨_, rfl⟩
  rw [← e4] at B4 ⊢
  have st4 : tn 0 s4.heap := T.keep _ _ _ st3 fun b _ o e => by rw [e4]; exact pushCells_keeps _ _ _ _ (Heap.get?_push_of_some _ e)
  have own4 : ∀ {τ : L2.St} {G' : Hp} {s' : Shared}, Inv (X.blk s3 G3 scope ce fp) [] τ G' s' → (∀ b ∈ fp, G' b = none) → ∀ b ∈ fp, FpOk (X.blk s3 G3 scope ce fp) [] G' b := fun {τ G' s'} L hn b hb =>
    ⟨hn b hb, (L.ok.exf b hb).1, L.ok.exfs b hb, .inl hb, (L.ok.exf b hb).2, fun p hp => absurd (show p ∈ ([] : List (Addr × Obj)) ++ [] from hp) (by simp)⟩
  have loop : codeAny (model X.prog X.w) X.A (.compLoop (.DictComp kx vx [⟨tg, iter, ifs, 0⟩] scope pos) 0 (.ref it) (.ref D) ce) (compPost (model X.prog X.w) X.A X.xe none (EP X pins σ Q) (.ref D) s3.heap.objs.size) s4 := by
    refine compLoop_anyD (fun n s' => ∃ i G', Inv (X.blk s3 G3 scope ce fp) [] (wipe σ (own.map (·.2))) G' s' ∧ tn i s'.heap ∧ (∀ b ∈ fp, G' b = none) ∧ W i n G') ?_ m0 ⟨0, G3, B4, st4, off, first⟩
    rintro n s5 ⟨i, G5, I5, st5, n5, w5⟩
    rcases turn i n G5 w5 with ⟨over, res⟩ | ⟨more, Nx, hNx, step⟩
    · refine thnF (T.done (X.blk s3 G3 scope ce fp) rfl rfl rfl hc i [] s5 _ G5 (fun _ _ => False) I5 (own4 I5 n5) st5 over) ?_
      rintro r s6 ⟨rfl, I6⟩
      have back : Inv X pins σ G5 s6 := I3.call' (ch := fp) I6.os I6.base I6.hok I6.bare fun b hb =>
        let z := (f3 b hb).1.2
        ⟨z.2.2.1, z.1, z.2.2.2.1, z.2.2.2.2⟩
      have nl : G5 s3.heap.objs.size = none := by rw [← loc]; exact I6.free
      obtain ⟨mm, hn, _⟩ := I6.loc
      have hn : s6.heap.Ns ce.locals mm := hn
      rw [loc] at hn
      obtain ⟨f0, f1, f2', f3', f4, f5⟩ := I3.fpOk (Nat.le_refl _) nl
      exact ⟨mm, hn, fun h'' sb => ⟨.ref D, G5, back.turned (t' := s6.toks) (fun b o hb e => (sb.2 b hb).trans e) f0 f1 f3' f4 f5, rfl, res⟩⟩
    · refine thnF (T.item (X.blk s3 G3 scope ce fp) rfl rfl rfl hc i [] s5 _ G5 (fun _ _ => False) I5 (own4 I5 n5) st5 more) ?_
      rintro r s6 ⟨u, rfl, h6⟩
      refine thnF h6 ?_
      rintro _ s7 ⟨x, G7, I7, r7, y7, st7, n7⟩
      have I7p := I7.pinned (own4 I7 n7) (T.obj _ _ st7)
      refine thnF (qg.run _ s7 _ G7 x u _ I7p r7 (step x G7 y7)) ?_
      rintro _ s8 ⟨τ, G8, I8, wip, q8⟩
      refine thnF (qt.run _ s8 τ G8 _ I8 q8) ?_
      rintro b s9 ⟨G9, I9, q9⟩
      have finish : ∀ {s' : Shared} {G' : Hp}, Inv (X.blk s3 G3 scope ce fp) ([] ++ pinsAt fp s7.heap) τ G' s' → Nx G' → ∃ m, m < n ∧ ∃ i G', Inv (X.blk s3 G3 scope ce fp) [] (wipe σ (own.map (·.2))) G' s' ∧ tn i s'.heap ∧ (∀ b ∈ fp, G' b = none) ∧ W i m G' := fun {s' G'} I' nx => by
        obtain ⟨m', hm, w'⟩ := hNx G' nx
        have same : ∀ b ∈ fp, ∀ o, s7.heap.get? b = some o → s'.heap.get? b = some o ∧ G' b = none := fun b hb o e =>
          have z := I'.pin (b, o) (List.mem_append_right _ (List.mem_append_right _ (mem_pinsAt hb e))); ⟨z.1, z.2.1⟩
        have len : (wipe σ (own.map (·.2))).length = τ.length := by rw [← wip, wipe_length]
        refine ⟨m', hm, i + 1, G', (I'.unpinned (pins := [])).weak len (fun j v e => ?_), T.keep _ _ _ st7 fun b hb o e => (same b hb o e).1, fun b hb => ?_, w'⟩
        · rw [← wip] at e
          exact (wipe_some e).1
        · obtain ⟨ob, eb, _⟩ := T.obj _ _ st7 b hb
          exact (same b hb ob eb).2
      cases b with
      | false => exact finish I9 q9
      | true =>
        have q9' : tk τ G9 _ := q9
        refine thnF (qk.run _ s9 τ G9 _ I9 q9') ?_
        rintro z s10 ⟨yk, G10, I10, r10, q10⟩
        refine thnF (qe.run _ s10 τ G10 _ I10 q10) ?_
        rintro z2 s11 ⟨yv, G11, I11, r11, kvs, k, qa, rfl, hq, hD11, hz, nx⟩
        cases r10
        exact put_T (X := X.blk s3 G3 scope ce fp) hu I11 hD11 hq hz r11 fun s12 I12 => finish I12 nx
  refine codeAny_compStart_dict loop ?_
  exact T.self X.A 0 _ _ _ st4 loop
end
end Rw

set_option Elab.async false
set_option linter.all false
set_option maxRecDepth 100000
set_option maxHeartbeats 4000000
/-! TkEB: enumerate of a text. -/
namespace Rw
open PySem PySem.Spec PyProof.Rows L2
/-- the signs of a text, each in a new pair with its number -/
def ItES (x : Str) : It :=
  ⟨fun i _ => i < x.cps.size, fun i H v H' => ∃ T c, v = .ref T ∧ H T = none ∧ H' = upd H T (.tup [.int (i : Nat), .str ⟨#[c]⟩]) ∧ x.cps[i]? = some c, fun i _ => x.cps.size ≤ i⟩
theorem turn_enumS {P : Program} {w : World} {K : PySem.W.Frag} {elts : List Expr} {kk : Nat} {tpos : Pos} (x : Str) (t : Tok) (e it : Addr) :
    Turn P w K (.Tuple elts kk tpos) (ItES x) [e, it] e (fun i h => i ≤ x.cps.size ∧ (∃ old, IsEnum h e it ((i : Nat) : Int) old) ∧ h.IsStrIter it (strIterType x) x t i ∧ e ≠ it) where
  mem := by simp
  obj := fun i h st b hb => by
    obtain ⟨_, ⟨old, he⟩, ⟨o, e1, c, d⟩, _⟩ := st
    have e' : b = e ∨ b = it := by simpa using hb
    rcases e' with z | z
    · rw [z]; exact ⟨_, he, fun v q => nomatch q⟩
    · rw [z]; exact ⟨o, e1, fun v z => by rw [d] at z; cases z⟩
  keep := fun i h h' st k => let ⟨l, ⟨old, he⟩, ⟨o, ho, r⟩, hne⟩ := st; ⟨l, ⟨old, k e (by simp) _ he⟩, ⟨o, k it (by simp) o ho, r⟩, hne⟩
  item := by
    intro X hP hw hK hc i pins s σ H E I hf st hg
    subst hP hw hK
    obtain ⟨_, ⟨old, he⟩, hit, hne⟩ := st
    have hel : e < s.heap.objs.size := Heap.lt_size he
    have hil : it < s.heap.objs.size := by obtain ⟨_, q, _⟩ := hit; exact Heap.lt_size q
    have hd : X.A.in1.handled = none := I.ok.hd hc
    have hef : e ∉ [it] := by simp; exact hne
    refine wpAny_pyNext_enum_itemD (Draws.text hd it x t) he hit hg hne hef fun x1 h' tk e1 ho hs' hT hsz hk => ?_
    obtain ⟨c, u, hcx, rfl⟩ := e1
    refine ⟨_, rfl, wpAny_letOwnedTupleGo_enum (s := { s with heap := h', toks := tk + 1 }) ho fun h'' he' sb => ?_⟩
    have hT2 : h''.get? s.heap.objs.size = some { cls := .type "tuple", data := .seq #[.int i tk, .str ⟨#[c]⟩ u] } := (sb.2 _ (Nat.ne_of_gt hel)).trans hT
    have new : ObjOk X.prog X.w (upd H s.heap.objs.size (.tup [.int (i : Nat), .str ⟨#[c]⟩])) h'' s.heap.objs.size (.tup [.int (i : Nat), .str ⟨#[c]⟩]) :=
      ⟨by show 2 ≤ sizeLine; decide, [.int i tk, .str ⟨#[c]⟩ u], .cons ⟨_, rfl⟩ (.cons ⟨_, rfl⟩ .nil), ⟨_, hT2, rfl, _, rfl⟩⟩
    have I1 : Inv X pins σ (upd H s.heap.objs.size (.tup [.int (i : Nat), .str ⟨#[c]⟩])) { s with heap := h'', toks := tk + 1 } :=
      I.turnedNew (t' := tk + 1) (ch := [e, it]) (fun b ob hb q => (sb.2 b (fun z => hb (by simp [z]))).trans (hk b ob (fun z => hb (by simp [z])) (fun z => hb (by simp [z])) q)) hf (Nat.le_refl _) new
    obtain ⟨oo, eo, co, dd⟩ := hs'
    have he2 : IsEnum h'' e it ((i + 1 : Nat) : Int) (.str ⟨#[c]⟩ u) := by
      have e1 : ((i + 1 : Nat) : Int) = (i : Int) + 1 := by omega
      rw [e1]; exact he'
    refine ⟨.ref s.heap.objs.size, _, I1, rfl, ⟨_, c, rfl, I.hok.fresh (Nat.le_refl _), rfl, hcx⟩, ⟨Nat.succ_le_of_lt hg, ⟨.str ⟨#[c]⟩ u, he2⟩, ⟨oo, (sb.2 it (Ne.symm hne)).trans eo, co, dd⟩, hne⟩, fun b hb => ?_⟩
    · have hb' : b < s.heap.objs.size := by
        have e' : b = e ∨ b = it := by simpa using hb
        rcases e' with z | z
        · rw [z]; exact hel
        · rw [z]; exact hil
      rw [upd_ne (Nat.ne_of_lt hb')]
      exact (hf b hb).1
  done := by
    intro X hP hw hK hc i pins s σ H E I hf st hg
    subst hP hw hK
    obtain ⟨hl, ⟨old, he⟩, hit, hne⟩ := st
    obtain ⟨f0, f1, f2, f3, f4, f5⟩ := hf it (by simp)
    have hd : X.A.in1.handled = none := I.ok.hd hc
    have ei : i = x.cps.size := Nat.le_antisymm hl hg
    subst ei
    refine wpAny_pyNext_enum_endD (Draws.text hd it x t) he hit fun h' eb => ⟨rfl, I.turned (t' := s.toks) (fun b o hb q => eb b o hb q) f0 f1 f3 f4 f5⟩
  self := fun A i s Q E st h => let ⟨_, ⟨_, he⟩, _⟩ := st; wpAny_pyIter_enum he h
def iEnumS (ta : TA) : TI := fun σ H R => ta σ H fun vs H1 => ∃ x, vs = [.str x] ∧ R (ItES x) H1
theorem pi_enumS {X : Cx} {e : Expr} {ta : TA} {p pos tpos : Pos} {elts : List Expr} {kk : Nat} (hg : Gl X "enumerate") (hm : X.mg "enumerate" = none) (ha : PA X [e] ta) (hs : starEach [e] X.env = [(false, eval e X.env)] := by rfl) :
    PI X (.Tuple elts kk tpos) (.Call (.Name "enumerate" p) [e] [] pos) (iEnumS ta) := by
  refine ⟨fun pins s σ H R I h => ?_⟩
  refine Call_ (ld_blt I hg hm boot_enumerate (PyProof.Rows.callWith_type1 (thn (ha.run pos pins s σ H _ I h) fun us s1 ⟨vs, H1, I1, r1, q1⟩ => ?_) hs rfl))
  obtain ⟨x, ex, q⟩ := q1
  subst ex
  obtain ⟨u, rfl, t, rfl⟩ := vals1 r1
  refine call_enum1 (begins_text x t) trivial fun h' he hit hsz hk => wpAny_pyIter_enum he ?_
  have I2 : Inv X pins σ H1 { s1 with heap := h' } := I1.kept (t' := s1.toks) hk
  refine ⟨s1.heap.objs.size + 1, [s1.heap.objs.size + 1, s1.heap.objs.size], _, _, H1, rfl, I2, turn_enumS x t (s1.heap.objs.size + 1) s1.heap.objs.size, ⟨Nat.zero_le _, ⟨.none, he⟩, ⟨_, hit, rfl, rfl⟩, Nat.succ_ne_self _⟩, fun b hb => ?_, q⟩
  have e' : b = s1.heap.objs.size + 1 ∨ b = s1.heap.objs.size := by simpa using hb
  have hle : s1.heap.objs.size ≤ b := by
    rcases e' with z | z
    · rw [z]; exact Nat.le_add_right _ _
    · rw [z]; exact Nat.le_refl _
  exact I1.fpOk hle (I1.hok.fresh hle)
theorem walk_enumS {x : Str} : Walk (ItES x) x.cps.size (fun _ => True) (YPair (fun i => some (.int (i : Nat))) (fun i => (x.cps[i]?).map fun c => .str ⟨#[c]⟩)) := by
  refine ⟨fun i _ hi _ => hi, fun _ _ => Nat.le_refl _, fun i H v H' _ _ y => ?_⟩
  obtain ⟨T, c, h1, h2, h3, h4⟩ := y
  exact ⟨T, .int (i : Nat), .str ⟨#[c]⟩, h1, h2, h3, rfl, by show (x.cps[i]?).map _ = _; rw [h4] <;> rfl⟩
end Rw

set_option Elab.async false
set_option linter.all false
set_option maxRecDepth 100000
set_option maxHeartbeats 4000000
/-! TkEC: replacing signs by signs in a text: a token must be out. -/
namespace Rw
open PySem PySem.Spec PyProof.Rows L2
/-- behind it a token is out -/
def PEK (X : Cx) (e : Expr) (t : TE) : Prop :=
  ∀ (pins : List (Addr × Obj)) (s : Shared) (σ : L2.St) (H : Hp) (Q : VK), Inv X pins σ H s → t σ H Q → wpAny (model X.prog X.w) X.A (eval e X.env) (fun u s1 => 1 ≤ s1.toks ∧ EP X pins σ Q u s1) X.xe s
section
variable {X : Cx} {e : Expr} {te : TE} {rest : List Stmt} {u : TS}
theorem pek_len {p pos : Pos} {ta : TA} (hg : Gl X "len") (hm : X.mg "len" = none) (ha : PA X [e] ta) (he : starEach [e] X.env = [(false, eval e X.env)] := by rfl) (hpl : (backTo pos (starEach [] X.env)).any (·.1) = false := by rfl) :
    PEK X (.Call (.Name "len" p) [e] [] pos) (tCB (fun xs H Q => ∃ z, xs = [.str z] ∧ z.length ≤ sizeLine ∧ Q (.int z.length) H) ta) := by
  intro pins s σ H Q I h
  refine wpAny_Call_Name_kw (ld_blt I hg hm boot_len ?_ (by decide) (by decide))
  refine PyProof.Rows.callWith_builtin1 (thn (ha.run pos pins s σ H _ I h) fun us s1 ⟨vs, H1, I1, r1, z, ez, hz, q1⟩ => ?_) he hpl
  subst ez
  obtain ⟨u, rfl, t, rfl⟩ := vals1 r1
  have hn := line63
  exact len_str (by omega) ⟨Nat.le_add_left _ _, .int z.length, H1, I1.tok _, ⟨_, rfl⟩, q1⟩
theorem pss_setK {i : Nat} {x : Str} {pos' pos : Pos} (hN : X.N.Nodup) (hi : X.N[i]? = some x) (hx : Loc X.env.scope x) (he : PEK X e te) (h2 : PSsT X rest u)
    (hs : swapsWith e (some (.Name x pos')) pos.line X.env = pure false := by rfl) (hf : X.fn x = true ∨ X.env.scope.names.lookup x = some .local := by first | exact .inl rfl | exact .inr rfl | assumption) :
    PSs X (.Assign [.Name x pos'] e pos :: rest) (tSeq (tAsg te (gName i)) u) := by
  refine ⟨fun pins s σ H D I h => ?_⟩
  refine wpAny_execs_cons (wpAny_Assign_Name (wpAny_mono (he pins s σ H _ I h) (fun v s1 q => ?_) fun _ _ z => z) hs)
  obtain ⟨hk, y, H1, I1, r1, q1⟩ := q
  refine wpAny_mono (PySem.wpAny_toks (store_ok (Q := fun _ s2 => Inv X pins (σ.set i (some y)) H1 s2) I1 hN hi hx r1 (fun _ I2 => I2) hf)) (fun _ s2 q => ?_) fun _ _ z => z.2
  exact h2 pins s2 _ H1 D (Nat.le_trans hk q.1) q.2 q1
theorem pst_set {i : Nat} {x : Str} {pos' pos : Pos} (hN : X.N.Nodup) (hi : X.N[i]? = some x) (hx : Loc X.env.scope x) (he : PET X e te)
    (hs : swapsWith e (some (.Name x pos')) pos.line X.env = pure false := by rfl) (hf : X.fn x = true ∨ X.env.scope.names.lookup x = some .local := by first | exact .inl rfl | exact .inr rfl | assumption) :
    PST X (.Assign [.Name x pos'] e pos) (tAsg te (gName i)) := by
  intro pins s σ H D h0 I h
  refine wpAny_Assign_Name (wpAny_mono (he pins s σ H _ h0 I h) (fun v s1 q => ?_) fun _ _ z => z) hs
  obtain ⟨y, H1, I1, r1, q1⟩ := q
  exact store_ok I1 hN hi hx r1 (fun s2 I2 => ⟨_, H1, I2, q1⟩) hf
theorem pet_of (he : PE X e te) : PET X e te := fun pins s σ H Q _ I h => he.run pins s σ H Q I h
def tReplL (y z : Str) (te : TE) : TE := fun σ H Q => te σ H fun v H1 => ∃ x : Str, v = .str x ∧ x.length + (x.length + 1) * z.length ≤ 16777216 ∧ Q (.str (Txt.replace x y z)) H1
theorem pet_repl {y z : Str} {j0 j1 : Nat} {c0 c1 apos pos : Pos} (he : PET X e te) (hyz : (y == z) = false := by decide)
    (hst : starEach [.Constant (.str y) j0 c0, .Constant (.str z) j1 c1] X.env = [(false, eval (.Constant (.str y) j0 c0) X.env), (false, eval (.Constant (.str z) j1 c1) X.env)] := by rfl)
    (hbase : attributeBase e "replace" X.env (eval e X.env) = eval e X.env := by rfl) (hline : (apos.endLine == pos.line) = true := by rfl) :
    PET X (.Call (.Attribute e "replace" apos) [.Constant (.str y) j0 c0, .Constant (.str z) j1 c1] [] pos) (tReplL y z te) := by
  intro pins s σ H Q h0 I h
  refine PySem.Call_method2 hbase hst hline (wpAny_mono (PySem.wpAny_toks (he pins s σ H _ h0 I h)) (fun v s1 q => ?_) fun _ _ z => z.2)
  obtain ⟨hk, w, H1, I1, r1, x, rfl, hb, q1⟩ := q
  obtain ⟨tx, rfl⟩ := r1
  have h1 : 1 ≤ s1.toks := Nat.le_trans h0 hk
  refine ⟨"str", _, F.plainAttrs_str, F.slot_str_replace, F.type_str_replace, typeIs_str _ _ _, (fun _ e => nomatch e), Calls.callWith_builtin rfl (Calls.evalArgs_plain (Calls.spliced_cons ?_))⟩
  refine Calls.Constant_str (Calls.spliced_cons (Calls.Constant_str (Calls.spliced_nil ?_)))
  exact PySem.SC.replace (Nat.pos_iff_ne_zero.mp h1) (Nat.succ_ne_zero _) (Nat.ne_of_lt (Nat.lt_succ_self _)) hyz hb fun t' k => ⟨.str (Txt.replace x y z), H1, I1.tok k, ⟨t', rfl⟩, q1⟩
end
theorem repl_map (c d : Nat) : ∀ l : List Nat, StrLaws.replL [c] [d] l = l.map fun a => if a = c then d else a
  | [] => StrLaws.replL_nil
  | a :: r => by
    have ih := repl_map c d r
    unfold StrLaws.replL at ih ⊢
    rw [StrLaws.replS, List.map_cons]
    by_cases h : a = c
    · subst h
      rw [if_pos (by rfl), if_pos rfl]
      show [d] ++ StrLaws.replS [a] [d] 0 r = _
      rw [ih] <;> rfl
    · rw [if_neg (fun z => h (by simpa using z)), if_neg h, ih]
theorem repl_sign {x y z : Str} {c d : Nat} (hy : y.cps.toList = [c]) (hz : z.cps.toList = [d]) : (Txt.replace x y z).cps.toList = x.cps.toList.map fun a => if a = c then d else a := by
  have hl : 1 ≤ y.length := by
    have : y.cps.toList.length = 1 := by rw [hy] <;> rfl
    rw [Array.length_toList] at this
    exact Nat.le_of_eq this.symm
  rw [StrLaws.replace_list hl, hy, hz, repl_map]
end Rw

set_option Elab.async false
set_option linter.all false
set_option maxRecDepth 100000
set_option maxHeartbeats 4000000
/-! TkED: bars as data; which bar leads into which. -/
namespace Rw
open PySem PySem.Spec PyProof.Rows L2
def isTupD : PyData → Bool
  | .tuple _ => true | _ => false
theorem kit_tup {K : PySem.W.Frag} (d : PyData) : PySem.W.kitOne K (.type (kindS d)) (.type "tuple") = some (isTupD d) := by
  cases d with
  | none => exact kit_ty (show kitB "NoneType" "tuple" = some false by decide +kernel)
  | bool b => exact kit_ty (show kitB "bool" "tuple" = some false by decide +kernel)
  | int i => exact kit_ty (show kitB "int" "tuple" = some false by decide +kernel)
  | str x => exact kit_ty (show kitB "str" "tuple" = some false by decide +kernel)
  | list xs => exact kit_ty (show kitB "list" "tuple" = some false by decide +kernel)
  | tuple xs => exact kit_ty (show kitB "tuple" "tuple" = some true by decide +kernel)
  | dict kvs => exact kit_ty (show kitB "dict" "tuple" = some false by decide +kernel)
/-- a bar of a pattern with k arrows -/
def isBarD (k : Nat) : PyData → Bool
  | .tuple [a, b] => inB a (.int 0) (.int (k : Nat)) && inB b a (.int (k : Nat))
  | _ => false
theorem bar_of {k : Nat} {d : PyData} (h : isBarD k d = true) : ∃ b e : Nat, d = barD (b, e) ∧ b ≤ e ∧ e ≤ k := by
  match d, h with
  | .tuple [a, b], h =>
    have h2 : (inB a (.int 0) (.int (k : Nat)) && inB b a (.int (k : Nat))) = true := h
    rw [Bool.and_eq_true] at h2
    obtain ⟨h3, h4⟩ := h2
    cases a with
    | int i =>
      cases b with
      | int j =>
        have h5 : (decide ((0 : Int) ≤ i) && decide (i ≤ (k : Nat))) = true := h3
        have h6 : (decide (i ≤ j) && decide (j ≤ (k : Nat))) = true := h4
        rw [Bool.and_eq_true] at h5 h6
        have a1 := of_decide_eq_true h5.1
        have a2 := of_decide_eq_true h6.1
        have a3 := of_decide_eq_true h6.2
        refine ⟨i.toNat, j.toNat, ?_, by omega, by omega⟩
        show PyData.tuple [.int i, .int j] = .tuple [.int (i.toNat : Nat), .int (j.toNat : Nat)]
        rw [Int.toNat_of_nonneg a1, Int.toNat_of_nonneg (by omega)]
      | _ => cases h4
    | _ => cases h3
theorem bar_is {k b e : Nat} (h1 : b ≤ e) (h2 : e ≤ k) : isBarD k (barD (b, e)) = true := by
  show (inB (.int (b : Nat)) (.int 0) (.int (k : Nat)) && inB (.int (e : Nat)) (.int (b : Nat)) (.int (k : Nat))) = true
  show ((decide ((0 : Int) ≤ (b : Nat)) && decide (((b : Nat) : Int) ≤ (k : Nat))) && (decide (((b : Nat) : Int) ≤ (e : Nat)) && decide (((e : Nat) : Int) ≤ (k : Nat)))) = true
  rw [Bool.and_eq_true, Bool.and_eq_true, Bool.and_eq_true]
  exact ⟨⟨decide_eq_true (by omega), decide_eq_true (by omega)⟩, ⟨decide_eq_true (by omega), decide_eq_true (by omega)⟩⟩
/-- a pair of ints that lies at p -/
def PairAt (H : Hp) (p : Addr) (b e : Nat) : Prop := H p = some (.tup [.int (b : Nat), .int (e : Nat)])
theorem PairAt.keep {H H' : Hp} {p : Addr} {b e : Nat} (h : PairAt H p b e) (k : Same H H') : PairAt H' p b e := k _ _ h
theorem bar_at {H : Hp} {v : V} {b e : Nat} (h : Any H v (barD (b, e))) : ∃ p, v = .ref p ∧ PairAt H p b e := by
  cases h with
  | tup e1 al =>
    cases al with
    | cons a1 al =>
      cases al with
      | cons a2 al =>
        cases al
        cases a1
        cases a2
        exact ⟨_, rfl, e1⟩
theorem PairAt.any {H : Hp} {p : Addr} {b e : Nat} (h : PairAt H p b e) : Any H (.ref p) (barD (b, e)) := .tup h (.cons (.int _) (.cons (.int _) .nil))
def leadsB (x : Str) (b e c l : Nat) : Bool :=
  if min e l < max b c then false else (b == c || (isR x (max b c - 1) == decide (c < b))) && (e == l || (isR x (min e l) == decide (l < e)))
/-! ### the promises -/
def spBarP : Sp := fun vs H Q _ => ∃ x v d, vs = [.str x, v] ∧ x.length ≤ 1000 ∧ Any H v d ∧ Q (.bl (isBarD x.length d)) H
def spCBar (CB : Addr) : Sp := fun vs H Q E => ∃ x v d, vs = [.str x, v] ∧ x.length ≤ 1000 ∧ Any H v d ∧ (isBarD x.length d = true → Q .non H) ∧ (isBarD x.length d = false → Thrown CB v H E)
def spLeads : Sp := fun vs H Q _ => ∃ (x : Str) (p q : Addr) (b e c l : Nat), vs = [.str x, .ref p, .ref q] ∧ Pat x 6 ∧ PairAt H p b e ∧ PairAt H q c l ∧ b ≤ e ∧ e ≤ x.length ∧ c ≤ l ∧ l ≤ x.length ∧ ∀ H', Same H H' → Q (.bl (leadsB x b e c l)) H'
def spInto (CT CB : Addr) : Sp := fun vs H Q E => ∃ v u z dv du dz, vs = [v, u, z] ∧ Any H v dv ∧ Any H u du ∧ Any H z dz ∧ Short dv ∧
  (isPatD dv = false → Thrown CT v H E) ∧ (∀ x, dv = .str x → isPatD dv = true → isBarD x.length du = false → Thrown CB u H E) ∧
  (∀ x, dv = .str x → isPatD dv = true → isBarD x.length du = true → isBarD x.length dz = false → Thrown CB z H E) ∧
  ∀ x b e c l, dv = .str x → Pat x 6 → du = barD (b, e) → dz = barD (c, l) → b ≤ e → e ≤ x.length → c ≤ l → l ≤ x.length → ∀ H', Same H H' → Q (.bl (leadsB x b e c l)) H'
theorem patD_is {d : PyData} (h : isPatD d = true) : ∃ x, d = .str x ∧ Pat x 6 := by
  cases d with
  | str x =>
    have h2 : (decide (x.length ≤ 6) && x.cps.toList.all isArr) = true := h
    rw [Bool.and_eq_true] at h2
    exact ⟨x, rfl, of_decide_eq_true h2.1, h2.2⟩
  | _ => cases h
/-! ### the sign of an arrow -/
theorem sign_eq {x : Str} {i c : Nat} (h : x.cps.toList[i]? = some c) (a : isArr c = true) : decide (V.str ⟨#[c]⟩ = V.str ">") = isR x i ∧ decide (V.str ⟨#[c]⟩ = V.str "<") = !isR x i := by
  have e : isR x i = (c == 62) := by
    unfold isR
    rw [h] <;> rfl
  have h2 : c = 62 ∨ c = 60 := by
    have : (c == 62 || c == 60) = true := a
    simpa using this
  rw [e]
  rcases h2 with z | z <;> subst z <;> decide
theorem arr_at {x : Str} {m i : Nat} (p : Pat x m) (h : i < x.length) : ∃ c, x.cps.toList[i]? = some c ∧ isArr c = true := by
  have h2 : i < x.cps.toList.length := by rw [Array.length_toList]; exact h
  exact ⟨_, List.getElem?_eq_getElem h2, List.all_eq_true.mp p.a _ (List.getElem_mem h2)⟩
end Rw

set_option Elab.async false
set_option linter.all false
set_option maxRecDepth 100000
set_option maxHeartbeats 4000000
/-! TkDC: x[::-1] of a text. -/
namespace Rw
open PySem PySem.Spec PyProof.Rows L2
theorem strT_len (z : Str) : z.cps.toList.length = z.length := Array.length_toList
def revS (z : Str) : Str := ⟨z.cps.toList.reverse.toArray⟩
theorem rev_list (z : Str) : (revS z).cps.toList = z.cps.toList.reverse := rfl
theorem rev_len (z : Str) : (revS z).length = z.length := by
  rw [← strT_len, rev_list, List.length_reverse, strT_len]
theorem all_pick (z : Str) : (List.range z.length).filterMap (z.cps[·]?) = z.cps.toList := PySem.W.krv_all z.cps
theorem rev_pick (z : Str) : (⟨((Builtin.Str.strSliceIndices none none (-1) z.length).filterMap (z.cps[·]?)).toArray⟩ : Str) = revS z := by
  have e : Builtin.Str.strSliceIndices none none (-1) z.length = (List.range z.length).map fun k => z.length - 1 - k := PySem.W.krv_sliceRange z.length
  rw [e, PySem.W.krv_range, List.filterMap_reverse, all_pick] <;> rfl
def tRevS (te : TE) : TE := fun σ H Q => te σ H fun x H1 => ∃ z, x = .str z ∧ z.length ≤ sizeLine ∧ Q (.str (revS z)) H1
section
variable {X : Cx}
theorem pe_revS {e : Expr} {te : TE} {k : Nat} {p1 p2 p3 pos : Pos} (he : PE X e te) : PE X (.Subscript e (.Slice none none (some (.UnaryOp .USub (.Constant (.int 1) k p1) p2)) p3) pos) (tRevS te) := by
  refine ⟨fun pins s σ H Q I h => ?_⟩
  refine Subscript_ (thn (he.run pins s σ H _ I h) fun v s1 ⟨x, H1, I1, r1, q1⟩ => ?_)
  obtain ⟨z, ex, hz, q⟩ := q1
  subst ex
  obtain ⟨t, rfl⟩ := r1
  have hst : PO X (some (.UnaryOp .USub (.Constant (.int 1) k p1) p2)) (tPart (tUn (rU fun i => .int (-i)) (tC (.int 1)))) := po_some (pe_un un_neg pe_int)
  refine wpAny_Slice (thn (po_none.run pins s1 σ H1 (fun o H2 => o = none ∧ H2 = H1) I1 ⟨rfl, rfl⟩) fun vl s2 ⟨l, H2, I2, pl, el, e2⟩ => ?_)
  subst el e2
  refine thn (po_none.run pins s2 σ H2 (fun o H3 => o = none ∧ H3 = H2) I2 ⟨rfl, rfl⟩) fun vu s3 ⟨u, H3, I3, pu, eu, e3⟩ => ?_
  subst eu e3
  refine thn (hst.run pins s3 σ H3 (fun o H4 => o = some (-1) ∧ H4 = H3) I3 ⟨1, rfl, -1, rfl, rfl, rfl⟩) fun vs s4 ⟨o, H4, I4, ps, eo, e4⟩ => ?_
  subst eo e4
  have I5 : Inv X pins σ H4 { s4 with heap := s4.heap.push { cls := .type "slice", data := .fields #[vl, vu, vs] } } := I4.kept (t' := s4.toks) fun b ob q => Heap.get?_push_of_some _ q
  obtain ⟨l, rfl, el⟩ := IsPart.raw pl
  obtain ⟨u, rfl, eu⟩ := IsPart.raw pu
  obtain ⟨st, rfl, es⟩ := IsPart.raw ps
  show wpAny (model X.prog X.w) X.A (subscriptTail e (.Slice none none (some (.UnaryOp .USub (.Constant (.int 1) k p1) p2)) p3) (.str z t) (.ref s4.heap.objs.size)) (EP X pins σ Q) X.xe { s4 with heap := s4.heap.push { cls := .type "slice", data := .fields #[partValue l, partValue u, partValue st] } }
  refine tail_any (ops := [.str z t, .ref s4.heap.objs.size]) (typeIs_str _ _ _) (F.slot_str_getitem.lookup) ?_ (by with_unfolding_all rfl)
  refine wpAny_getItem_str_slice (l := l) (u := u) (st := st) ⟨_, Heap.get?_push_size _ rfl, rfl, rfl⟩ (by rw [es]; rfl) ?_
  have el2 : (st.map (·.1)).getD 1 = -1 := by rw [es] <;> rfl
  have en : ((1 : Int) == -1) = false := by decide
  have e0 : (slicePicked z l u st) = Builtin.Str.strSliceIndices none none (-1) z.length := by
    unfold slicePicked
    rw [el, eu, el2]
  unfold sliceMade
  rw [e0, el2, if_neg (by simp), rev_pick]
  exact ⟨by rw [rev_len]; exact hz, .str _, H4, I5.tok _, ⟨_, rfl⟩, q⟩
end
end Rw

set_option Elab.async false
set_option linter.all false
set_option maxRecDepth 100000
set_option maxHeartbeats 4000000
/-! TkEE: 1 at all shared places, arrow by arrow; seen from the other end; readings of pairs. -/
namespace Rw
open PySem PySem.Spec PyProof.Rows L2
def heldB (b e c l p : Nat) : Bool := decide (b ≤ p ∧ p ≤ e) && decide (c ≤ p ∧ p ≤ l)
def bothB (b e k : Nat) : Bool := decide (b ≤ k) && decide (k + 1 ≤ e)
def mapAt (x : Str) (b e c l k : Nat) : Bool := (bothB b e k && heldB b e c l (goA x k)) == (heldB b e c l (stA x k) && bothB c l k)
def isMapB (x : Str) (b e c l : Nat) : Bool := (List.range x.length).all (mapAt x b e c l) && (List.range (x.length + 1)).any (heldB b e c l)
theorem held_iff {b e c l p : Nat} : heldB b e c l p = true ↔ (b ≤ p ∧ p ≤ e) ∧ c ≤ p ∧ p ≤ l := by
  unfold heldB
  rw [Bool.and_eq_true, decide_eq_true_iff, decide_eq_true_iff]
theorem both_iff {b e k : Nat} : bothB b e k = true ↔ b ≤ k ∧ k + 1 ≤ e := by
  unfold bothB
  rw [Bool.and_eq_true, decide_eq_true_iff, decide_eq_true_iff]
theorem mapAt_iff {x : Str} {b e c l k : Nat} : mapAt x b e c l k = true ↔ (((b ≤ k ∧ k + 1 ≤ e) ∧ (b ≤ goA x k ∧ goA x k ≤ e) ∧ c ≤ goA x k ∧ goA x k ≤ l) ↔ (((b ≤ stA x k ∧ stA x k ≤ e) ∧ c ≤ stA x k ∧ stA x k ≤ l) ∧ c ≤ k ∧ k + 1 ≤ l)) := by
  unfold mapAt
  rw [beq_iff_eq, Bool.eq_iff_iff, Bool.and_eq_true, Bool.and_eq_true, both_iff, both_iff, held_iff, held_iff]
theorem ends_at (x : Str) (k : Nat) : (isR x k = true ∧ stA x k = k ∧ goA x k = k + 1) ∨ (isR x k = false ∧ stA x k = k + 1 ∧ goA x k = k) := by
  unfold stA goA
  cases h : isR x k with
  | true => exact .inl ⟨rfl, if_pos rfl, if_pos rfl⟩
  | false => exact .inr ⟨rfl, if_neg (by decide), if_neg (by decide)⟩
theorem beq_dec (r : Bool) (P : Prop) [Decidable P] : (r == decide P) = true ↔ (r = true ↔ P) := by
  by_cases h : P
  · rw [decide_eq_true h]
    cases r <;> simp [h]
  · rw [decide_eq_false h]
    cases r <;> simp [h]
theorem leads_iff {x : Str} {b e c l : Nat} : leadsB x b e c l = true ↔ max b c ≤ min e l ∧ (b = c ∨ (isR x (max b c - 1) = true ↔ c < b)) ∧ (e = l ∨ (isR x (min e l) = true ↔ l < e)) := by
  unfold leadsB
  by_cases h : min e l < max b c
  · rw [if_pos h]
    constructor
    · intro z; cases z
    · intro z; omega
  · rw [if_neg h, Bool.and_eq_true, Bool.or_eq_true, Bool.or_eq_true, beq_dec, beq_dec, beq_iff_eq, beq_iff_eq]
    constructor
    · intro z; exact ⟨by omega, z⟩
    · intro z; exact z.2
theorem isMap_leads {x : Str} {b e c l : Nat} (be : b ≤ e) (ex : e ≤ x.length) (cl : c ≤ l) (lx : l ≤ x.length) : isMapB x b e c l = leadsB x b e c l := by
  rw [Bool.eq_iff_iff, leads_iff]
  unfold isMapB
  rw [Bool.and_eq_true, List.all_eq_true, List.any_eq_true]
  constructor
  · rintro ⟨ha, p, hp, hh⟩
    have h1 := held_iff.mp hh
    have lo : max b c ≤ min e l := by omega
    refine ⟨lo, ?_, ?_⟩
    · by_cases hb : b = c
      · exact .inl hb
      · refine .inr ?_
        have h2 := mapAt_iff.mp (ha (max b c - 1) (List.mem_range.mpr (by omega)))
        rcases ends_at x (max b c - 1) with ⟨r, s, g⟩ | ⟨r, s, g⟩
        · rw [s, g] at h2
          exact ⟨fun _ => by omega, fun _ => r⟩
        · rw [s, g] at h2
          rw [r]
          exact ⟨fun z => (nomatch z), fun z => by omega⟩
    · by_cases hb : e = l
      · exact .inl hb
      · refine .inr ?_
        have h2 := mapAt_iff.mp (ha (min e l) (List.mem_range.mpr (by omega)))
        rcases ends_at x (min e l) with ⟨r, s, g⟩ | ⟨r, s, g⟩
        · rw [s, g] at h2
          exact ⟨fun _ => by omega, fun _ => r⟩
        · rw [s, g] at h2
          rw [r]
          exact ⟨fun z => (nomatch z), fun z => by omega⟩
  · rintro ⟨lo, hL, hR⟩
    refine ⟨fun k hk => ?_, max b c, List.mem_range.mpr (by omega), held_iff.mpr (by omega)⟩
    have hk2 := List.mem_range.mp hk
    rw [mapAt_iff]
    by_cases e1 : k + 1 = max b c
    · have e2 : max b c - 1 = k := by omega
      rw [e2] at hL
      rcases ends_at x k with ⟨r, s, g⟩ | ⟨r, s, g⟩
      · rw [s, g]
        have : b = c ∨ c < b := hL.imp id fun z => z.mp r
        omega
      · rw [s, g]
        have : b = c ∨ ¬ c < b := hL.imp id fun z y => by rw [z.mpr y] at r; cases r
        omega
    · by_cases e3 : k = min e l
      · rw [← e3] at hR
        rcases ends_at x k with ⟨r, s, g⟩ | ⟨r, s, g⟩
        · rw [s, g]
          have : e = l ∨ l < e := hR.imp id fun z => z.mp r
          omega
        · rw [s, g]
          have : e = l ∨ ¬ l < e := hR.imp id fun z y => by rw [z.mpr y] at r; cases r
          omega
      · rcases ends_at x k with ⟨r, s, g⟩ | ⟨r, s, g⟩
        · rw [s, g]
          omega
        · rw [s, g]
          omega
/-! ### turned about -/
/-- all arrows the other way -/
structure Flip (x y : Str) : Prop where
  len : y.length = x.length
  at' : ∀ i, i < x.length → isR y i = !isR x i
/-- seen from the other end -/
structure Back (x y : Str) : Prop where
  len : y.length = x.length
  at' : ∀ i, i < x.length → isR y i = isR x (x.length - 1 - i)
theorem leads_flip {x y : Str} {b e c l : Nat} (f : Flip x y) (be : b ≤ e) (ex : e ≤ x.length) (cl : c ≤ l) (lx : l ≤ x.length) : leadsB y c l b e = leadsB x b e c l := by
  rw [Bool.eq_iff_iff, leads_iff, leads_iff, Nat.max_comm c b, Nat.min_comm l e]
  refine and_congr Iff.rfl (and_congr ?_ ?_)
  · by_cases h : b = c
    · exact ⟨fun _ => .inl h, fun _ => .inl h.symm⟩
    · rw [f.at' (max b c - 1) (by omega)]
      cases isR x (max b c - 1) <;> simp <;> omega
  · by_cases h : e = l
    · exact ⟨fun _ => .inl h, fun _ => .inl h.symm⟩
    · rw [f.at' (min e l) (by omega)]
      cases isR x (min e l) <;> simp <;> omega
theorem leads_mirror {x y z : Str} {b e c l : Nat} (f : Flip x y) (g : Back y z) (be : b ≤ e) (ex : e ≤ x.length) (cl : c ≤ l) (lx : l ≤ x.length) : leadsB z (x.length - e) (x.length - b) (x.length - l) (x.length - c) = leadsB x b e c l := by
  have key : ∀ i, i < x.length → (isR z i = true ↔ ¬ isR x (x.length - 1 - i) = true) := fun i hi => by
    rw [g.at' i (by rw [f.len]; exact hi), f.len, f.at' _ (by omega)]
    cases isR x (x.length - 1 - i) <;> decide
  rw [Bool.eq_iff_iff, leads_iff, leads_iff]
  have a1 : max (x.length - e) (x.length - l) ≤ min (x.length - b) (x.length - c) ↔ max b c ≤ min e l := by omega
  rw [a1]
  refine and_congr_right fun lo => ?_
  have A : (x.length - e = x.length - l ∨ (isR z (max (x.length - e) (x.length - l) - 1) = true ↔ x.length - l < x.length - e)) ↔ (e = l ∨ (isR x (min e l) = true ↔ l < e)) := by
    by_cases h : e = l
    · exact ⟨fun _ => .inl h, fun _ => .inl (by omega)⟩
    · rw [key _ (by omega), show x.length - 1 - (max (x.length - e) (x.length - l) - 1) = min e l by omega]
      cases isR x (min e l) <;> simp <;> omega
  have B : (x.length - b = x.length - c ∨ (isR z (min (x.length - b) (x.length - c)) = true ↔ x.length - c < x.length - b)) ↔ (b = c ∨ (isR x (max b c - 1) = true ↔ c < b)) := by
    by_cases h : b = c
    · exact ⟨fun _ => .inl h, fun _ => .inl (by omega)⟩
    · rw [key _ (by omega), show x.length - 1 - min (x.length - b) (x.length - c) = max b c - 1 by omega]
      cases isR x (max b c - 1) <;> simp <;> omega
  rw [A, B]
  exact and_comm
end Rw

set_option Elab.async false
set_option linter.all false
set_option maxRecDepth 100000
set_option maxHeartbeats 4000000
/-! TkEF: promises about bars led into others; patterns turned about as texts; readings of pairs and chains. -/
namespace Rw
open PySem PySem.Spec PyProof.Rows L2
theorem len_toList (x : Str) : x.cps.toList.length = x.length := Array.length_toList
theorem flip_repl {x : Str} (px : Pat x 6) : Flip x (Txt.replace (Txt.replace (Txt.replace x ">" "x") "<" ">") "x" "<") ∧ Pat (Txt.replace (Txt.replace (Txt.replace x ">" "x") "<" ">") "x" "<") 6 := by
  have e1 := repl_sign (x := x) (y := ">") (z := "x") (c := 62) (d := 120) rfl rfl
  have e2 := repl_sign (x := Txt.replace x ">" "x") (y := "<") (z := ">") (c := 60) (d := 62) rfl rfl
  have e3 := repl_sign (x := Txt.replace (Txt.replace x ">" "x") "<" ">") (y := "x") (z := "<") (c := 120) (d := 60) rfl rfl
  rw [e2, e1, List.map_map, List.map_map] at e3
  generalize Txt.replace (Txt.replace (Txt.replace x ">" "x") "<" ">") "x" "<" = y at e3 ⊢
  have ln : y.length = x.length := by rw [← len_toList, e3, List.length_map, len_toList]
  refine ⟨⟨ln, fun i hi => ?_⟩, by rw [ln]; exact px.l, ?_⟩
  · obtain ⟨c, hc, ac⟩ := arr_at px hi
    unfold isR
    rw [e3, List.getElem?_map, hc]
    have h2 : c = 62 ∨ c = 60 := by
      have : (c == 62 || c == 60) = true := ac
      simpa using this
    rcases h2 with z | z <;> subst z <;> decide
  · rw [e3, List.all_map, List.all_eq_true]
    intro c hc
    have ac := List.all_eq_true.mp px.a c hc
    have h2 : c = 62 ∨ c = 60 := by
      have : (c == 62 || c == 60) = true := ac
      simpa using this
    rcases h2 with z | z <;> subst z <;> decide
theorem back_rev {y : Str} (py : Pat y 6) : Back y (revS y) ∧ Pat (revS y) 6 := by
  refine ⟨⟨rev_len y, fun i hi => ?_⟩, by rw [rev_len]; exact py.l, ?_⟩
  · unfold isR
    rw [rev_list, List.getElem?_reverse (by rw [len_toList]; exact hi), len_toList]
  · rw [rev_list, List.all_reverse]
    exact py.a
/-! ### readings -/
section
variable {K : PySem.W.Frag} {σ : L2.St} {H : Hp} {Q : VK}
abbrev rLe : R2 := rI0 fun i j => .bl (decide (i ≤ j))
theorem chain_go {ta tb tc : TE} {i j k : Nat} (ha : ∀ Q : VK, Q (.int (i : Nat)) H → ta σ H Q) (hb : ∀ Q : VK, Q (.int (j : Nat)) H → tb σ H Q) (hc : ∀ Q : VK, Q (.int (k : Nat)) H → tc σ H Q) (q : Q (.bl (decide (i ≤ j ∧ j ≤ k))) H) : tChain rLe rLe ta tb tc σ H Q := by
  refine ha _ (hb _ ⟨_, _, rfl, rfl, _, rfl, ite2 (fun z => ?_) (fun z => ?_)⟩)
  · refine hc _ ⟨_, _, rfl, rfl, ?_⟩
    have z2 : i ≤ j := by have := of_decide_eq_true z; omega
    have e : decide (i ≤ j ∧ j ≤ k) = decide ((j : Int) ≤ (k : Int)) := by
      by_cases h : j ≤ k
      · rw [decide_eq_true (⟨z2, h⟩ : i ≤ j ∧ j ≤ k), decide_eq_true (by omega)]
      · rw [decide_eq_false (fun y => h y.2), decide_eq_false (by omega)]
    rw [e] at q
    exact q
  · have z2 : ¬ i ≤ j := fun y => z (decide_eq_true (by omega))
    rw [decide_eq_false (fun y => z2 y.1)] at q
    exact q
theorem ix_go {v j : Nat} {p : Addr} {b e : Nat} {n : Nat} (h : σ[v]? = some (some (.ref p))) (hp : PairAt H p b e) (hn : ([V.int (b : Nat), V.int (e : Nat)] : List V)[j]? = some (.int (n : Nat))) : ∀ Q : VK, Q (.int (n : Nat)) H → tOp (rIxT K) (tVar v) (tC (.int (j : Nat))) σ H Q :=
  fun Q q => ⟨_, h, p, _, _, _, rfl, rfl, SqT.of hp, atI_nat hn, q⟩
theorem var_go {v : Nat} {x : V} (h : σ[v]? = some (some x)) : ∀ Q : VK, Q x H → tVar v σ H Q := fun Q q => ⟨_, h, q⟩
theorem and_go {ta tb : TE} {a b : Bool} (ha : ∀ Q : VK, Q (.bl a) H → ta σ H Q) (hb : ∀ Q : VK, Q (.bl b) H → tb σ H Q) (q : Q (.bl (a && b)) H) : tAndV ta tb σ H Q := by
  refine ha _ ⟨_, rfl, ?_⟩
  cases a with
  | true => exact iteT (hb _ q)
  | false => exact iteF q
theorem le_go {ta tb : TE} {i j : Nat} (ha : ∀ Q : VK, Q (.int (i : Nat)) H → ta σ H Q) (hb : ∀ Q : VK, Q (.int (j : Nat)) H → tb σ H Q) : ∀ Q : VK, Q (.bl (decide (i ≤ j))) H → tOp rLe ta tb σ H Q := fun Q q => by
  refine ha _ (hb _ ⟨_, _, rfl, rfl, ?_⟩)
  have e : decide (i ≤ j) = decide ((i : Int) ≤ (j : Int)) := by
    by_cases h : i ≤ j
    · rw [decide_eq_true h, decide_eq_true (by omega)]
    · rw [decide_eq_false h, decide_eq_false (by omega)]
  rw [e] at q
  exact q
end
def b2n (b : Bool) : Int := if b = true then 1 else 0
theorem b2n_mul (u v : Bool) : b2n u * b2n v = b2n (u && v) := by cases u <;> cases v <;> rfl
theorem b2n_rng (u : Bool) : -(2 ^ 64) < b2n u ∧ b2n u < 2 ^ 64 := by cases u <;> decide
theorem b2n_ne (u v : Bool) : (!decide (V.int (b2n u) = V.int (b2n v))) = !(u == v) := by cases u <;> cases v <;> decide
theorem b2n_any {α : Type} (f : α → Bool) : ∀ l : List α, decide ((1 : Int) ∈ l.map fun a => b2n (f a)) = l.any f
  | [] => rfl
  | a :: l => by
    have ih := b2n_any f l
    rw [List.map_cons, List.any_cons, ← ih]
    cases f a with
    | true => simp [b2n]
    | false => simp [b2n]
theorem succ_go {σ : L2.St} {H : Hp} {v i : Nat} (h : σ[v]? = some (some (.int (i : Nat)))) : ∀ Q : VK, Q (.int ((i + 1 : Nat) : Int)) H → tOp (rI0 fun i j => .int (i + j)) (tVar v) (tC (.int 1)) σ H Q := fun Q q => ⟨_, h, _, _, rfl, rfl, q⟩
theorem isMap_all {x : Str} {b e c l : Nat} (h : ∀ j, j < x.length → mapAt x b e c l j = true) : isMapB x b e c l = (List.range (x.length + 1)).any (heldB b e c l) := by
  unfold isMapB
  rw [List.all_eq_true.mpr fun j hj => h j (List.mem_range.mp hj), Bool.true_and]
theorem isMap_not {x : Str} {b e c l i : Nat} (hi : i < x.length) (h : mapAt x b e c l i = false) : isMapB x b e c l = false := by
  unfold isMapB
  rw [List.all_eq_false.mpr ⟨i, List.mem_range.mpr hi, by rw [h]; exact Bool.false_ne_true⟩, Bool.false_and]
theorem sub_go {σ : L2.St} {H : Hp} {ta tb : TE} {i j : Nat} (h : j ≤ i) (ha : ∀ Q : VK, Q (.int (i : Nat)) H → ta σ H Q) (hb : ∀ Q : VK, Q (.int (j : Nat)) H → tb σ H Q) : ∀ Q : VK, Q (.int ((i - j : Nat) : Int)) H → tOp (rI0 fun i j => .int (i - j)) ta tb σ H Q := fun Q q => by
  refine ha _ (hb _ ⟨_, _, rfl, rfl, ?_⟩)
  rw [Int.ofNat_sub h] at q
  exact q
theorem mem_bars {n : Nat} {q : Nat × Nat} (h : q ∈ barsL (n + 1)) : q.1 ≤ q.2 ∧ q.2 ≤ n := by
  unfold barsL preL partL at h
  obtain ⟨a, _, h2⟩ := List.mem_flatMap.mp h
  obtain ⟨b, h3, rfl⟩ := List.mem_map.mp h2
  obtain ⟨h4, h5⟩ := List.mem_filter.mp h3
  have h6 := of_decide_eq_true h5
  have h7 := List.mem_range.mp h4
  exact ⟨h6, by omega⟩
theorem isPat_of {x : Str} (px : Pat x 6) : isPatD (.str x) = true := by
  show (decide (x.length ≤ 6) && x.cps.toList.all isArr) = true
  rw [decide_eq_true px.l, px.a] <;> rfl
theorem into_go {CT CB : Addr} {x : Str} {p q : Addr} {b e c l : Nat} {H : Hp} {Q : VK} {E : XK} (px : Pat x 6) (hp : PairAt H p b e) (hq : PairAt H q c l) (be : b ≤ e) (ex : e ≤ x.length) (cl : c ≤ l) (lx : l ≤ x.length) (k : ∀ H', Same H H' → Q (.bl (leadsB x b e c l)) H') : spInto CT CB [.str x, .ref p, .ref q] H Q E := by
  refine ⟨_, _, _, .str x, barD (b, e), barD (c, l), rfl, .str x, hp.any, hq.any, pat_short px (by decide), fun z => ?_, fun y ey _ z => ?_, fun y ey _ _ z => ?_, fun y b' e' c' l' ey _ e1 e2 _ _ _ _ => ?_⟩
  · rw [isPat_of px] at z; cases z
  · cases ey; rw [bar_is be ex] at z; cases z
  · cases ey; rw [bar_is cl lx] at z; cases z
  · cases ey
    have e1' : PyData.tuple [.int (b : Nat), .int (e : Nat)] = .tuple [.int (b' : Nat), .int (e' : Nat)] := e1
    have e2' : PyData.tuple [.int (c : Nat), .int (l : Nat)] = .tuple [.int (c' : Nat), .int (l' : Nat)] := e2
    injection e1' with e1'
    injection e2' with e2'
    injection e1' with f1 f2
    injection f2 with f2 _
    injection e2' with g1 g2
    injection g2 with g2 _
    injection f1 with f1
    injection f2 with f2
    injection g1 with g1
    injection g2 with g2
    have h1 : b = b' := by omega
    have h2 : e = e' := by omega
    have h3 : c = c' := by omega
    have h4 : l = l' := by omega
    subst h1 h2 h3 h4
    exact k
/-! ### promises -/
def spIsMap : Sp := fun vs H Q _ => ∃ (x : Str) (p q : Addr) (b e c l : Nat), vs = [.str x, .ref p, .ref q] ∧ Pat x 6 ∧ PairAt H p b e ∧ PairAt H q c l ∧ ∀ H', Same H H' → Q (.bl (isMapB x b e c l)) H'
def leadsD : PyData → PyData → PyData → Bool
  | .str x, .tuple [.int b, .int e], .tuple [.int c, .int l] => leadsB x b.toNat e.toNat c.toNat l.toNat
  | _, _, _ => false
def intoDue (dv du dz : PyData) : PyData :=
  if isPatD dv = true then (if isBarD (strD dv).length du = true then (if isBarD (strD dv).length dz = true then .list [.str "told", .bool (leadsD dv du dz)] else wD "bar" dz) else wD "bar" du) else wD "pattern" dv
def spIntoC : Sp := fun vs H Q _ => ∃ v u z dv du dz, vs = [v, u, z] ∧ Any H v dv ∧ Any H u du ∧ Any H z dz ∧ Short dv ∧ ∀ l H', Same H H' → Any H' (.ref l) (intoDue dv du dz) → Q (.ref l) H'
/-- all bars both ways, in the pattern, its dual and its mirror -/
def spRightM : Sp := fun vs H Q _ => ∃ x, vs = [.str x] ∧ Pat x 6 ∧ ∀ H', Same H H' → Q (.bl true) H'
end Rw

set_option Elab.async false
set_option linter.all false
set_option maxRecDepth 100000
set_option maxHeartbeats 4000000
/-! TkEG: a text times a number; odd bars and patterns, as data. -/
namespace Rw
open PySem PySem.Spec PyProof.Rows L2
theorem op_mulS {X : Cx} : OpR X (binaryOp .Mult) (fun x y H Q => ∃ (z : Str) (n : Int), x = .str z ∧ y = .int n ∧ PySem.MulOk z n ∧ Q (.str (Txt.mul z n)) H) := by
  intro pins s σ H x y v u Q I rx ry h
  obtain ⟨z, n, rfl, rfl, hz, q⟩ := h
  obtain ⟨t, rfl⟩ := rx
  obtain ⟨t', rfl⟩ := ry
  exact PySem.SB.mul hz fun t' k => ⟨.str (Txt.mul z n), H, I.tok k, ⟨_, rfl⟩, q⟩
theorem mul7 : PySem.MulOk ">" 7 := ⟨by decide, fun _ _ => by decide +kernel, fun _ _ => by decide +kernel⟩
theorem cat_list (x y : Str) : (x ++ y).cps.toList = x.cps.toList ++ y.cps.toList := by
  show (x.cps ++ y.cps).toList = _
  rw [Array.toList_append]
/-- what is no pattern -/
def oddPats (x : Str) : List PyData := [.none, .int 3, .bool true, .list [.str ">"], .dict [], .str (x ++ "x"), .str (Txt.mul ">" 7)]
theorem oddPats_ok {x : Str} (px : Pat x 6) : ∀ d ∈ oddPats x, isPatD d = false ∧ Tq 1 d ∧ Short d := by
  intro d hd
  simp only [oddPats, List.mem_cons, List.not_mem_nil, or_false] at hd
  rcases hd with z | z | z | z | z | z | z <;> subst z
  · exact ⟨rfl, ⟨by decide, by decide, by decide +kernel⟩, fun _ e => nomatch e⟩
  · exact ⟨rfl, (tq_int (by decide)).up (by decide), fun _ e => nomatch e⟩
  · exact ⟨rfl, ⟨by decide, by decide, by decide +kernel⟩, fun _ e => nomatch e⟩
  · exact ⟨rfl, ⟨by decide, by decide, by decide +kernel⟩, fun _ e => nomatch e⟩
  · exact ⟨rfl, ⟨by decide, by decide, by decide +kernel⟩, fun _ e => nomatch e⟩
  · have e1 := cat_list x "x"
    have e2 : (("x" : String) : Str).cps.toList = [120] := rfl
    have ln : (x ++ ("x" : String)).length = x.length + 1 := by
      rw [← len_toList, e1, List.length_append, len_toList] <;> rfl
    refine ⟨?_, (tq_str (by rw [ln]; have := px.l; omega) fun z hz => ?_).up (by decide), fun y e => ?_⟩
    · show (decide ((x ++ ("x" : String)).length ≤ 6) && (x ++ ("x" : String)).cps.toList.all isArr) = false
      rw [e1, List.all_append, e2, Bool.and_comm]
      rw [show [120].all isArr = false by decide, Bool.and_false, Bool.false_and]
    · rw [e1, e2] at hz
      rcases List.mem_append.mp hz with y | y
      · exact arr_small px.a z y
      · rw [List.mem_singleton.mp y]; decide
    · cases e
      rw [ln]
      have := px.l
      omega
  · exact ⟨by decide +kernel, (tq_str (by decide +kernel) (by decide +kernel)).up (by decide), fun y e => by cases e; decide +kernel⟩
/-- what is no bar of a pattern of n arrows -/
def oddBars (n : Nat) : List PyData := [.none, .int 3, .str "01", .list [.int 0, .int 0], .tuple [.int 0], .tuple [.int 0, .int 0, .int 0], .tuple [.int 0, .int ((n : Int) + 1)], .tuple [.int (-1), .int 0], .tuple [.int 1, .int 0], .tuple [.bool false, .int 0], .tuple [.int 0, .str "0"], .tuple []]
theorem oddBars_ok {n : Nat} (h : n ≤ 6) : ∀ d ∈ oddBars n, isBarD n d = false ∧ Tq 1 d := by
  have c : ∀ n ∈ List.range 7, ∀ d ∈ oddBars n, isBarD n d = false ∧ (d.showable = true ∧ d.depth ≤ 3 + 1 ∧ d.shown.length ≤ 80 * 13 ^ 1) := by decide +kernel
  intro d hd
  obtain ⟨a, b1, b2, b3⟩ := c n (List.mem_range.mpr (by omega)) d hd
  exact ⟨a, b1, b2, b3⟩
end Rw

set_option Elab.async false
set_option linter.all false
set_option maxRecDepth 100000
set_option maxHeartbeats 1500000
/-! TkIA: tables as data; the tables with one number; the promises of the program about tables. -/
namespace Rw
open PySem PySem.Spec PyProof.Rows L2
/-- a line of a table -/
def lineB (n i : Nat) (r : PyData) : Bool := isSeqD r && (decide ((itemsD r).length + i = n) && (itemsD r).all isSzD)
def isTabD (d : PyData) : Bool := isSeqD d && ((decide (1 ≤ (itemsD d).length) && decide ((itemsD d).length ≤ 7)) && (List.range (itemsD d).length).all fun i => lineB (itemsD d).length i (atD d i))
structure WideD (d : PyData) : Prop where
  len : (itemsD d).length ≤ 1000
  sub : ∀ e, e ∈ itemsD d → (itemsD e).length ≤ 1000
/-- the table with one number -/
def lineD (c k : Nat) : PyData := .list (List.replicate k (natD c))
def tabD (c n : Nat) : PyData := .list ((List.range n).map fun a => lineD c (n - a))
structure CN (c n : Nat) : Prop where
  c : c ≤ 6
  n0 : 0 < n
  n : n ≤ 7
/-- the arrows between n places -/
def patX (k : Nat) : Str := Txt.mul ">" ((k : Nat) : Int)
def okPatX (k : Nat) : Bool := decide ((patX k).length = k) && (isPatD (.str (patX k)) && (List.range k).all fun i => isR (patX k) i)
theorem all_patX : ((List.range 7).all okPatX) = true := by decide +kernel
theorem pat_X {k : Nat} (h : k ≤ 6) : (patX k).length = k ∧ isPatD (.str (patX k)) = true ∧ ∀ i, i < k → isR (patX k) i = true := by
  have h1 := List.all_eq_true.mp all_patX k (List.mem_range.mpr (by omega))
  unfold okPatX at h1
  rw [Bool.and_eq_true, Bool.and_eq_true] at h1
  exact ⟨of_decide_eq_true h1.1, h1.2.1, fun i hi => List.all_eq_true.mp h1.2.2 i (List.mem_range.mpr hi)⟩
def numN (c n : Nat) (q : Nat × Nat) : Nat := if q.1 = 0 ∧ q.2 + 1 = n then c else 0
def keyT (q : Nat × Nat) : List Key := [.inl ((q.1 : Nat) : Int), .inl ((q.2 : Nat) : Int)]
def numK (c n : Nat) : List (List Key × V) := (barsL n).map fun q => (keyT q, .int ((numN c n q : Nat) : Int))
/-- what the number of a bar is made of -/
def valN (c n : Nat) (a b : Int) : Int := if a = -1 ∨ b = (n : Int) then 0 else ((c : Nat) : Int)
theorem num_val {c n a b : Nat} (h1 : a ≤ b) (h2 : b < n) : valN c n a b - valN c n ((a : Int) - 1) b - valN c n a ((b : Int) + 1) + valN c n ((a : Int) - 1) ((b : Int) + 1) = ((numN c n (a, b) : Nat) : Int) := by
  unfold valN numN
  by_cases e1 : a = 0 <;> by_cases e2 : b + 1 = n
  · rw [if_neg (by omega), if_pos (by omega), if_pos (by omega), if_pos (by omega), if_pos ⟨e1, e2⟩] <;> omega
  · rw [if_neg (by omega), if_pos (by omega), if_neg (by omega), if_pos (by omega), if_neg (by dsimp only; omega)] <;> omega
  · rw [if_neg (by omega), if_neg (by omega), if_pos (by omega), if_pos (by omega), if_neg (by dsimp only; omega)] <;> omega
  · rw [if_neg (by omega), if_neg (by omega), if_neg (by omega), if_neg (by omega), if_neg (by dsimp only; omega)] <;> omega
/-! ### bars -/
theorem bars_mem {n : Nat} {q : Nat × Nat} (h : q ∈ barsL n) : q.1 ≤ q.2 ∧ q.2 < n := by
  unfold barsL preL partL at h
  obtain ⟨a, h1, h2⟩ := List.mem_flatMap.mp h
  obtain ⟨b, h3, rfl⟩ := List.mem_map.mp h2
  rw [List.mem_filter, List.mem_range] at h3
  exact ⟨of_decide_eq_true h3.2, h3.1⟩
def nodupB (n : Nat) : Bool := (List.range (barsL n).length).all fun i => decide ((barsL n)[i]?.getD (9, 9) ∉ (barsL n).take i)
theorem all_nodup : ((List.range 8).all nodupB) = true := by decide +kernel
theorem bars_new {n i : Nat} {q : Nat × Nat} (h : n ≤ 7) (e : (barsL n)[i]? = some q) : q ∉ (barsL n).take i := by
  have h1 := List.all_eq_true.mp all_nodup n (List.mem_range.mpr (by omega))
  have hi : i < (barsL n).length := (List.getElem?_eq_some_iff.mp e).1
  have h2 := of_decide_eq_true (List.all_eq_true.mp h1 i (List.mem_range.mpr hi))
  rw [e] at h2
  exact h2
theorem keyT_inj {q r : Nat × Nat} (h : keyT q = keyT r) : q = r := by
  unfold keyT at h
  injection h with h1 h2
  injection h2 with h3 _
  injection h1 with h4
  injection h3 with h5
  exact Prod.ext (Int.ofNat.inj h4) (Int.ofNat.inj h5)
theorem val_none {κ : Type} [DecidableEq κ] {kvs : List (κ × V)} {k : κ} (h : ∀ p, p ∈ kvs → p.1 ≠ k) : valV kvs k = none := by
  unfold valV
  rw [List.find?_eq_none.mpr (fun p hp => by simpa using h p hp)] <;> rfl
theorem val_map {f : Nat × Nat → V} {q : Nat × Nat} : ∀ {l : List (Nat × Nat)}, q ∈ l → valV (l.map fun r => (keyT r, f r)) (keyT q) = some (f q)
  | r :: l, h => by
    by_cases e : r = q
    · subst e
      exact valV_pos rfl
    · have e2 : valV ((r :: l).map fun r => (keyT r, f r)) (keyT q) = valV (l.map fun r => (keyT r, f r)) (keyT q) := by
        unfold valV
        rw [List.map_cons, List.find?_cons_of_neg (by simpa using fun z => e (keyT_inj z))]
      rw [e2]
      exact val_map ((List.mem_cons.mp h).elim (fun z => absurd z.symm e) id)
theorem put_map {f : Nat × Nat → V} {q : Nat × Nat} {l : List (Nat × Nat)} (h : q ∉ l) : putK (l.map fun r => (keyT r, f r)) (keyT q) (f q) = (l ++ [q]).map fun r => (keyT r, f r) := by
  rw [putK_new _ (val_none fun p hp z => ?_), List.map_append] <;> try rfl
  obtain ⟨r, hr, rfl⟩ := List.mem_map.mp hp
  exact h (keyT_inj z ▸ hr)
/-- a bar as it lies -/
theorem bar_ref {H : Hp} {v : V} {q : Nat × Nat} (h : Any H v (barD q)) : ∃ t, v = .ref t ∧ H t = some (.tup [.int ((q.1 : Nat) : Int), .int ((q.2 : Nat) : Int)]) := by
  cases h with
  | tup e al =>
    cases al with
    | cons a al =>
      cases al with
      | cons b al =>
        cases al
        cases a
        cases b
        exact ⟨_, rfl, e⟩
/-! ### what is held -/
def holdB (i : Nat) (q : Nat × Nat) : Bool := decide (q.1 ≤ i) && decide (i ≤ q.2)
def sumsB (c n : Nat) : Bool := (List.range n).all fun i => decide ((((barsL n).filter (holdB i)).map fun q => ((numN c n q : Nat) : Int)).sum = ((c : Nat) : Int))
theorem all_sums : ((List.range 7).all fun c => (List.range 8).all fun n => sumsB c n) = true := by decide +kernel
theorem sums_cn {c n i : Nat} (h : CN c n) (hi : i < n) : (((barsL n).filter (holdB i)).map fun q => ((numN c n q : Nat) : Int)).sum = ((c : Nat) : Int) := by
  have h1 := List.all_eq_true.mp (List.all_eq_true.mp all_sums c (List.mem_range.mpr (by have := h.c; omega))) n (List.mem_range.mpr (by have := h.n; omega))
  exact of_decide_eq_true (List.all_eq_true.mp h1 i (List.mem_range.mpr hi))
def toldB (c n : Nat) : Bool := decide (n = 0) || decide (((barsL n).flatMap fun q => List.replicate (numN c n q) q) = List.replicate c (0, n - 1))
theorem all_told : ((List.range 7).all fun c => (List.range 8).all fun n => toldB c n) = true := by decide +kernel
theorem told_cn {c n : Nat} (h : CN c n) : ((barsL n).flatMap fun q => List.replicate (numN c n q) q) = List.replicate c (0, n - 1) := by
  have h1 := List.all_eq_true.mp (List.all_eq_true.mp all_told c (List.mem_range.mpr (by have := h.c; omega))) n (List.mem_range.mpr (by have := h.n; omega))
  unfold toldB at h1
  rw [Bool.or_eq_true] at h1
  rcases h1 with z | z
  · have := of_decide_eq_true z
    have := h.n0
    omega
  · exact of_decide_eq_true z
/-! ### the row of such numbers -/
def eqM (c : Nat) : PyData := .list ((List.range c).map fun i => .tuple ((List.range c).map fun j => .int (if i = j then 1 else 0)))
def szsD (c n : Nat) : PyData := .list (List.replicate n (natD c))
def mpsD (c n : Nat) : PyData := .list (List.replicate (n - 1) (eqM c))
def rowB (c n : Nat) : Bool := decide (n = 0) || (sizesOk (patX (n - 1)).length (szsD c n) && (mapsOk (patX (n - 1)).length (mpsD c n) && ((badAt (patX (n - 1)) (szsD c n) (mpsD c n)).isNone && ((itemsD (mpsD c n)).all fitB && decide ((itemsD (mpsD c n)).length ≤ 1000)))))
theorem all_rows : ((List.range 7).all fun c => (List.range 8).all fun n => rowB c n) = true := by decide +kernel
theorem row_cn {c n : Nat} (h : CN c n) : sizesOk (patX (n - 1)).length (szsD c n) = true ∧ mapsOk (patX (n - 1)).length (mpsD c n) = true ∧ badAt (patX (n - 1)) (szsD c n) (mpsD c n) = none ∧ FitM (mpsD c n) := by
  have h1 := List.all_eq_true.mp (List.all_eq_true.mp all_rows c (List.mem_range.mpr (by have := h.c; omega))) n (List.mem_range.mpr (by have := h.n; omega))
  unfold rowB at h1
  rw [Bool.or_eq_true] at h1
  rcases h1 with z | z
  · have := of_decide_eq_true z
    have := h.n0
    omega
  · simp only [Bool.and_eq_true] at z
    obtain ⟨z1, z2, z3, z4, z5⟩ := z
    exact ⟨z1, z2, Option.isNone_iff_eq_none.mp z3, of_decide_eq_true z5, fun e he => fit_ofB (List.all_eq_true.mp z4 e he)⟩
theorem tab_items (c n : Nat) : itemsD (tabD c n) = (List.range n).map fun a => lineD c (n - a) := rfl
theorem tab_get {c n a : Nat} (h : a < n) : (itemsD (tabD c n))[a]? = some (lineD c (n - a)) := by
  rw [tab_items, List.getElem?_map, List.getElem?_range h] <;> rfl
def okTabB (c n : Nat) : Bool := decide (n = 0) || isTabD (tabD c n)
theorem all_tab : ((List.range 7).all fun c => (List.range 8).all fun n => okTabB c n) = true := by decide +kernel
theorem tab_cn {c n : Nat} (h : CN c n) : isTabD (tabD c n) = true := by
  have h1 := List.all_eq_true.mp (List.all_eq_true.mp all_tab c (List.mem_range.mpr (by have := h.c; omega))) n (List.mem_range.mpr (by have := h.n; omega))
  unfold okTabB at h1
  rw [Bool.or_eq_true] at h1
  rcases h1 with z | z
  · have := of_decide_eq_true z
    have := h.n0
    omega
  · exact z
/-! ### the promises -/
def spIsBar : Sp := fun vs H Q _ => ∃ x t a b, vs = [.str x, .ref t] ∧ x.length ≤ 1000 ∧ H t = some (.tup [.int ((a : Nat) : Int), .int ((b : Nat) : Int)]) ∧ a ≤ b ∧ b ≤ x.length ∧ Q (.bl true) H
def spCNum : Sp := fun vs H Q _ => ∃ D c n, vs = [.str (patX (n - 1)), .ref D] ∧ CN c n ∧ H D = some (.dT (numK c n)) ∧ ∀ H', Same H H' → Q .non H'
def spLowSz : Sp := fun vs H Q _ => ∃ D c n, vs = [.str (patX (n - 1)), .ref D] ∧ CN c n ∧ H D = some (.dT (numK c n)) ∧ ∀ l H', H l = none → Same H H' → H' l = some (.lst (List.replicate n (.int ((c : Nat) : Int)))) → Q (.ref l) H'
def spSame (K : PySem.W.Frag) : Sp := fun vs H Q _ => ∃ a b c, vs = [.ref a, .ref b] ∧ c ≤ 6 ∧ SqL K H a ((List.range c).map fun i => .int ((i : Nat) : Int)) ∧ SqL K H b ((List.range c).map fun i => .int ((i : Nat) : Int)) ∧ ∀ l H', H l = none → Same H H' → Any H' (.ref l) (eqM c) → Q (.ref l) H'
def spWith : Sp := fun vs H Q _ => ∃ D c n p, vs = [.str (patX (n - 1)), .int p, .ref D] ∧ CN c n ∧ p ∈ primesL ∧ H D = some (.dT (numK c n)) ∧ ∀ v H', Same H H' → Q v H'
def spIsTab : Sp := fun vs H Q _ => ∃ v d, vs = [v] ∧ Any H v d ∧ WideD d ∧ ∀ H', Same H H' → Q (.bl (isTabD d)) H'
def spCTab (CB : Addr) : Sp := fun vs H Q E => ∃ v d, vs = [v] ∧ Any H v d ∧ WideD d ∧ (isTabD d = true → ∀ H', Same H H' → Q .non H') ∧ (isTabD d = false → Thrown CB v H E)
def spPatOf : Sp := fun vs H Q _ => ∃ v c n, vs = [v] ∧ Any H v (tabD c n) ∧ CN c n ∧ Q (.str (patX (n - 1))) H
def spValAt : Sp := fun vs H Q _ => ∃ v c n a b, vs = [v, .int a, .int b] ∧ Any H v (tabD c n) ∧ CN c n ∧ -1 ≤ a ∧ a ≤ b ∧ b ≤ (n : Nat) ∧ Q (.int (valN c n a b)) H
def spNumBy : Sp := fun vs H Q _ => ∃ v t c n q, vs = [v, .ref t] ∧ Any H v (tabD c n) ∧ CN c n ∧ H t = some (.tup [.int ((q.1 : Nat) : Int), .int ((q.2 : Nat) : Int)]) ∧ q ∈ barsL n ∧ Q (.int ((numN c n q : Nat) : Int)) H
/-- what is told of a thing that is no table, or is one with one number -/
def TabIn (H : Hp) (v : V) (bad : Prop) (good : Nat → Nat → Prop) : Prop := ∃ d, Any H v d ∧ WideD d ∧ ((isTabD d = false ∧ bad) ∨ ∃ c n, CN c n ∧ d = tabD c n ∧ good c n)
def spClash (CB : Addr) : Sp := fun vs H Q E => ∃ v, vs = [v] ∧ TabIn H v (Thrown CB v H E) fun c n => ∀ H', Same H H' → Q .non H'
def spIsRank : Sp := fun vs H Q _ => ∃ v, vs = [v] ∧ TabIn H v (∀ H', Same H H' → Q (.bl false) H') fun c n => ∀ H', Same H H' → Q (.bl true) H'
def spBarsOf (CB : Addr) : Sp := fun vs H Q E => ∃ v, vs = [v] ∧ TabIn H v (Thrown CB v H E) fun c n => ∀ D H', H D = none → Same H H' → H' D = some (.dT (numK c n)) → Q (.ref D) H'
def spRowOfT (CP CB : Addr) : Sp := fun vs H Q E => ∃ vp v dp, vs = [vp, v] ∧ Any H vp dp ∧ ((isPr dp = false ∧ Thrown CP vp H E) ∨ (isPr dp = true ∧ TabIn H v (Thrown CB v H E) fun c n => ∀ u H', Same H H' → Q u H'))
end Rw

set_option Elab.async false
set_option linter.all false
set_option maxRecDepth 100000
set_option maxHeartbeats 1500000
/-! TkIB: comprehensions beside a box, under a mask; tables that are none. -/
namespace Rw
open PySem PySem.Spec PyProof.Rows L2
theorem msk_cons {M : List Addr} {D : Addr} {H : Hp} : Same (msk (D :: M) H) (msk M H) := fun b o e => by
  obtain ⟨z, e⟩ := msk_at e
  rw [msk_out fun y => z (List.mem_cons_of_mem _ y)]
  exact e
theorem msk_fresh {M : List Addr} {D : Addr} {H H1 : Hp} (k : Same H H1) (hD : H D = none) : Same (msk M H) (msk (D :: M) H1) := fun b o e => by
  obtain ⟨z, e⟩ := msk_at e
  have ne : b ≠ D := ne_of_none e hD
  rw [msk_out (fun y => (List.mem_cons.mp y).elim ne z)]
  exact k b o e
theorem MOk.cons {M : List Addr} {D : Addr} {H : Hp} {xs : List V} (m : MOk M H) (e : H D = some (.lst xs)) : MOk (D :: M) H := fun b hb => by
  rcases List.mem_cons.mp hb with z | z
  · rw [z]; exact ⟨_, e, fun _ y => by cases y⟩
  · exact m b z
theorem MOk.tail {M : List Addr} {D : Addr} {H : Hp} (m : MOk (D :: M) H) : MOk M H := fun b hb => m b (List.mem_cons_of_mem _ hb)
theorem MOk.put {M : List Addr} {D : Addr} {H : Hp} {xs : List V} (m : MOk M H) : MOk M (upd H D (.lst xs)) := fun b hb => by
  by_cases z : b = D
  · rw [z]; exact ⟨_, upd_same, fun _ y => by cases y⟩
  · rw [upd_ne z]; exact m b hb
/-- new data of each turn, beside a box -/
theorem lc_msk {J : It} {n : Nat} {G : Hp → Prop} {P : Nat → V → Prop} (w : Walk J n G (fun i H x H' => H' = H ∧ P i x)) {j : Nat} {σ : L2.St} {vs : List Nat} {te : TE} {H1 : Hp} {p D : Addr} {M : List Addr} {c t : Nat} {Q : Hp → Prop} (hn : n ≤ 1000) (hD : H1 D = none) (hp : p ∈ M) (m0 : MOk M H1) (b0 : Bx H1 p c) (hG : ∀ H, Grow p H1 H → G H) (Good : Nat → PyData → Prop)
    (hs : ∀ i x H, i < n → P i x → Grow p H1 H → MOk (D :: M) H → Bx H p (c + i * t) → wipe ((wipe σ vs).set j (some x)) vs = wipe σ vs ∧ ∀ k : VK, (∀ y d H', Grow p H H' → MOk (D :: M) H' → Bx H' p (c + i * t + t) → Good i d → Any (msk (D :: M) H') y d → k y H') → te ((wipe σ vs).set j (some x)) H k)
    (hq : ∀ H acc ds, Grow p H1 H → MOk M H → Bx H p (c + n * t) → H D = some (.lst acc) → AnyL (msk (D :: M) H) acc ds → ds.length = n → (∀ i d, ds[i]? = some d → Good i d) → Any (msk M H) (.ref D) (.list ds) → Q H) :
    ∃ W : Nat → Nat → Hp → Prop, (∃ m, W 0 m (upd H1 D (.lst []))) ∧ ∀ i m H, W i m H →
      (J.stop i H ∧ Q H) ∨ (J.go i H ∧ ∃ Nx : Hp → Prop, (∀ H', Nx H' → ∃ m', m' < m ∧ W (i + 1) m' H') ∧ ∀ x H', J.yld i H x H' → gName j x (wipe σ vs) H' fun σ2 H2 => wipe σ2 vs = wipe σ vs ∧ tYes σ2 H2 fun b H3 =>
        if b = true then te σ2 H3 fun y H4 => ∃ acc, H4 D = some (.lst acc) ∧ acc.length < sizeLine ∧ Nx (upd H4 D (.lst (acc ++ [y]))) else Nx H3) := by
  have pD := b0.ne hD
  have nM := m0.new hD
  refine lc_it w (Qd := Q) (Pv := fun i H => Grow p H1 H ∧ MOk M H ∧ Bx H p (c + i * t) ∧ ∃ acc ds, H D = some (.lst acc) ∧ AnyL (msk (D :: M) H) acc ds ∧ ds.length = i ∧ ∀ k d, ds[k]? = some d → Good k d) ⟨Grow.of (same_new hD), m0.keep (same_new hD), by simpa using b0.keep (same_new hD), [], [], upd_same, .nil, rfl, fun k d h => by simp at h⟩ (fun i H _ h => hG H h.1) ?_ ?_
  · rintro i x H H' hi ⟨g, m, b, acc, ds, ha, al, l, gd⟩ ⟨rfl, hx⟩
    obtain ⟨e1, e2⟩ := hs i x H' hi hx g (m.cons ha) b
    refine ⟨e1, ?_⟩
    show te _ _ _
    refine e2 _ fun y d H4 g4 m4 b4 gd4 an => ?_
    have ha4 := g4 _ _ pD.symm ha
    have ln := anyL_len al
    refine ⟨acc, ha4, Nat.lt_of_lt_of_le (by omega : acc.length < 1000) (by decide), ?_, m4.tail.put, ?_, acc ++ [y], ds ++ [d], upd_same, ?_, by rw [List.length_append, l] <;> rfl, ?_⟩
    · intro z o ne eo
      rw [upd_ne (ne_of_none eo hD)]
      exact (g.trans g4) z o ne eo
    · obtain ⟨a1, a2, a3, h1, rest⟩ := b4
      refine Bx.more ⟨a1, a2, a3, by rw [upd_ne pD]; exact h1, rest⟩ ?_
      rw [Nat.succ_mul]
      omega
    · rw [msk_put List.mem_cons_self]
      exact anyL_snoc (anyL_keep (msk_grow (List.mem_cons_of_mem _ hp) g4) al) an
    · intro k e hk
      by_cases z : k < ds.length
      · rw [List.getElem?_append_left z] at hk
        exact gd k e hk
      · rw [List.getElem?_append_right (by omega)] at hk
        have hk2 : k - ds.length = 0 := by
          have := (List.getElem?_eq_some_iff.mp hk).1
          rw [List.length_singleton] at this
          omega
        rw [hk2] at hk
        cases hk
        have : k = i := by omega
        rw [this]
        exact gd4
  · rintro H ⟨g, m, b, acc, ds, ha, al, l, gd⟩
    exact hq H acc ds g m b ha al l gd (.lst (by rw [msk_out nM]; exact ha) (anyL_keep msk_cons al))
/-- the same without a box -/
theorem lc_mskS {J : It} {n : Nat} {G : Hp → Prop} {P : Nat → V → Prop} (w : Walk J n G (fun i H x H' => H' = H ∧ P i x)) {j : Nat} {σ : L2.St} {vs : List Nat} {te : TE} {H1 : Hp} {D : Addr} {M : List Addr} {Q : Hp → Prop} (hn : n ≤ 1000) (hD : H1 D = none) (m0 : MOk M H1) (hG : ∀ H, Same H1 H → G H) (Good : Nat → PyData → Prop)
    (hs : ∀ i x H, i < n → P i x → Same H1 H → MOk (D :: M) H → wipe ((wipe σ vs).set j (some x)) vs = wipe σ vs ∧ ∀ k : VK, (∀ y d H', Same H H' → Good i d → Any (msk (D :: M) H') y d → k y H') → te ((wipe σ vs).set j (some x)) H k)
    (hq : ∀ H acc ds, Same H1 H → MOk M H → H D = some (.lst acc) → AnyL (msk (D :: M) H) acc ds → ds.length = n → (∀ i d, ds[i]? = some d → Good i d) → Any (msk M H) (.ref D) (.list ds) → Q H) :
    ∃ W : Nat → Nat → Hp → Prop, (∃ m, W 0 m (upd H1 D (.lst []))) ∧ ∀ i m H, W i m H →
      (J.stop i H ∧ Q H) ∨ (J.go i H ∧ ∃ Nx : Hp → Prop, (∀ H', Nx H' → ∃ m', m' < m ∧ W (i + 1) m' H') ∧ ∀ x H', J.yld i H x H' → gName j x (wipe σ vs) H' fun σ2 H2 => wipe σ2 vs = wipe σ vs ∧ tYes σ2 H2 fun b H3 =>
        if b = true then te σ2 H3 fun y H4 => ∃ acc, H4 D = some (.lst acc) ∧ acc.length < sizeLine ∧ Nx (upd H4 D (.lst (acc ++ [y]))) else Nx H3) := by
  have nM := m0.new hD
  refine lc_it w (Qd := Q) (Pv := fun i H => Same H1 H ∧ ∃ acc ds, H D = some (.lst acc) ∧ AnyL (msk (D :: M) H) acc ds ∧ ds.length = i ∧ ∀ k d, ds[k]? = some d → Good k d) ⟨same_new hD, [], [], upd_same, .nil, rfl, fun k d h => by simp at h⟩ (fun i H _ h => hG H h.1) ?_ ?_
  · rintro i x H H' hi ⟨g, acc, ds, ha, al, l, gd⟩ ⟨rfl, hx⟩
    obtain ⟨e1, e2⟩ := hs i x H' hi hx g ((m0.keep g).cons ha)
    refine ⟨e1, ?_⟩
    show te _ _ _
    refine e2 _ fun y d H4 g4 gd4 an => ?_
    have ha4 := g4 _ _ ha
    have ln := anyL_len al
    refine ⟨acc, ha4, Nat.lt_of_lt_of_le (by omega : acc.length < 1000) (by decide), ?_, acc ++ [y], ds ++ [d], upd_same, ?_, by rw [List.length_append, l] <;> rfl, ?_⟩
    · intro z o eo
      rw [upd_ne (ne_of_none eo hD)]
      exact (g.trans g4) z o eo
    · rw [msk_put List.mem_cons_self]
      exact anyL_snoc (anyL_keep (msk_same g4) al) an
    · intro k e hk
      by_cases z : k < ds.length
      · rw [List.getElem?_append_left z] at hk
        exact gd k e hk
      · rw [List.getElem?_append_right (by omega)] at hk
        have hk2 : k - ds.length = 0 := by
          have := (List.getElem?_eq_some_iff.mp hk).1
          rw [List.length_singleton] at this
          omega
        rw [hk2] at hk
        cases hk
        have : k = i := by omega
        rw [this]
        exact gd4
  · rintro H ⟨g, acc, ds, ha, al, l, gd⟩
    exact hq H acc ds g (m0.keep g) ha al l gd (.lst (by rw [msk_out nM]; exact ha) (anyL_keep msk_cons al))
/-- the same for any target -/
theorem lc_mskG {J : It} {n : Nat} {G : Hp → Prop} {P : Nat → V → Prop} (w : Walk J n G (fun i H x H' => H' = H ∧ P i x)) {g : TG} {σ : L2.St} {vs : List Nat} {te : TE} {H1 : Hp} {D : Addr} {M : List Addr} {Q : Hp → Prop} (hn : n ≤ 1000) (hD : H1 D = none) (m0 : MOk M H1) (hG : ∀ H, Same H1 H → G H) (Good : Nat → PyData → Prop)
    (hs : ∀ i x H, i < n → P i x → Same H1 H → MOk (D :: M) H → ∀ k : VK, (∀ y d H', Same H H' → Good i d → Any (msk (D :: M) H') y d → k y H') → g x (wipe σ vs) H fun σ2 H2 => wipe σ2 vs = wipe σ vs ∧ te σ2 H2 k)
    (hq : ∀ H acc ds, Same H1 H → MOk M H → H D = some (.lst acc) → AnyL (msk (D :: M) H) acc ds → ds.length = n → (∀ i d, ds[i]? = some d → Good i d) → Any (msk M H) (.ref D) (.list ds) → Q H) :
    ∃ W : Nat → Nat → Hp → Prop, (∃ m, W 0 m (upd H1 D (.lst []))) ∧ ∀ i m H, W i m H →
      (J.stop i H ∧ Q H) ∨ (J.go i H ∧ ∃ Nx : Hp → Prop, (∀ H', Nx H' → ∃ m', m' < m ∧ W (i + 1) m' H') ∧ ∀ x H', J.yld i H x H' → g x (wipe σ vs) H' fun σ2 H2 => wipe σ2 vs = wipe σ vs ∧ tYes σ2 H2 fun b H3 =>
        if b = true then te σ2 H3 fun y H4 => ∃ acc, H4 D = some (.lst acc) ∧ acc.length < sizeLine ∧ Nx (upd H4 D (.lst (acc ++ [y]))) else Nx H3) := by
  have nM := m0.new hD
  refine lc_it w (Qd := Q) (Pv := fun i H => Same H1 H ∧ ∃ acc ds, H D = some (.lst acc) ∧ AnyL (msk (D :: M) H) acc ds ∧ ds.length = i ∧ ∀ k d, ds[k]? = some d → Good k d) ⟨same_new hD, [], [], upd_same, .nil, rfl, fun k d h => by simp at h⟩ (fun i H _ h => hG H h.1) ?_ ?_
  · rintro i x H H' hi ⟨g1, acc, ds, ha, al, l, gd⟩ ⟨rfl, hx⟩
    refine hs i x H' hi hx g1 ((m0.keep g1).cons ha) _ fun y d H4 g4 gd4 an => ?_
    have ha4 := g4 _ _ ha
    have ln := anyL_len al
    refine ⟨acc, ha4, Nat.lt_of_lt_of_le (by omega : acc.length < 1000) (by decide), ?_, acc ++ [y], ds ++ [d], upd_same, ?_, by rw [List.length_append, l] <;> rfl, ?_⟩
    · intro z o eo
      rw [upd_ne (ne_of_none eo hD)]
      exact (g1.trans g4) z o eo
    · rw [msk_put List.mem_cons_self]
      exact anyL_snoc (anyL_keep (msk_same g4) al) an
    · intro k e hk
      by_cases z : k < ds.length
      · rw [List.getElem?_append_left z] at hk
        exact gd k e hk
      · rw [List.getElem?_append_right (by omega)] at hk
        have hk2 : k - ds.length = 0 := by
          have := (List.getElem?_eq_some_iff.mp hk).1
          rw [List.length_singleton] at this
          omega
        rw [hk2] at hk
        cases hk
        have : k = i := by omega
        rw [this]
        exact gd4
  · rintro H ⟨g1, acc, ds, ha, al, l, gd⟩
    exact hq H acc ds g1 (m0.keep g1) ha al l gd (.lst (by rw [msk_out nM]; exact ha) (anyL_keep msk_cons al))
/-! ### tables -/
def tblD (rows : List (List Int)) : PyData := .list (rows.map lstI)
structure Tbl (m : Nat) (rows : List (List Int)) : Prop where
  l : rows.length = m
  m1 : 1 ≤ m
  m7 : m ≤ 7
  w : ∀ i r, rows[i]? = some r → r.length + i = m
  e : ∀ r, r ∈ rows → ∀ x, x ∈ r → 0 ≤ x ∧ x < 7
/-- what is no table, and small -/
structure NoT (d : PyData) : Prop where
  no : isTabD d = false
  wd : WideD d
  tq : Tq 3 d
theorem not_tab {ds : List PyData} {p : Nat} {e : PyData} (h : ds[p]? = some e) (l : lineB ds.length p e = false) : isTabD (.list ds) = false := by
  cases z : isTabD (.list ds) with
  | false => rfl
  | true =>
    unfold isTabD at z
    simp only [Bool.and_eq_true, isSeqD, true_and] at z
    have h1 := List.all_eq_true.mp z.2 p (List.mem_range.mpr (List.getElem?_eq_some_iff.mp h).1)
    have e1 : atD (.list ds) p = e := by
      show ds[p]?.getD .none = e
      rw [h] <;> rfl
    rw [e1] at h1
    exact h1.symm.trans l
theorem row_tq {r : List Int} (l : r.length ≤ 8) (h : ∀ x, x ∈ r → 0 ≤ x ∧ x < 7) : Tq 1 (lstI r) := tq_list (by rw [List.length_map]; omega) fun d hd => by
  obtain ⟨x, hx, rfl⟩ := List.mem_map.mp hd
  have := h x hx
  exact tq_int (Nat.lt_of_le_of_lt (by omega : x.natAbs ≤ 7) (by decide))
theorem Tbl.len {m : Nat} {rows : List (List Int)} (t : Tbl m rows) {r : List Int} (h : r ∈ rows) : r.length ≤ 7 := by
  obtain ⟨i, hi⟩ := List.getElem?_of_mem h
  have := t.w i r hi
  have := t.m7
  omega
theorem noT_put {m p : Nat} {rows : List (List Int)} {e : PyData} (t : Tbl m rows) (hp : p < m) (he : lineB m p e = false) (te : Tq 2 e) (we : (itemsD e).length ≤ 1000) : NoT (.list ((rows.map lstI).take p ++ [e] ++ (rows.map lstI).drop (p + 1))) := by
  have hl := t.l
  have m7 := t.m7
  have l1 : ((rows.map lstI).take p).length = p := by rw [List.length_take, List.length_map]; omega
  have ln : ((rows.map lstI).take p ++ [e] ++ (rows.map lstI).drop (p + 1)).length = m := by
    rw [List.length_append, List.length_append, l1, List.length_drop, List.length_map, List.length_singleton]
    omega
  have mem : ∀ d, d ∈ (rows.map lstI).take p ++ [e] ++ (rows.map lstI).drop (p + 1) → d = e ∨ ∃ r, r ∈ rows ∧ d = lstI r := fun d hd => by
    rcases List.mem_append.mp hd with z | z
    · rcases List.mem_append.mp z with y | y
      · obtain ⟨r, hr, rfl⟩ := List.mem_map.mp (List.mem_of_mem_take y)
        exact .inr ⟨r, hr, rfl⟩
      · exact .inl (List.mem_singleton.mp y)
    · obtain ⟨r, hr, rfl⟩ := List.mem_map.mp (List.mem_of_mem_drop z)
      exact .inr ⟨r, hr, rfl⟩
  refine ⟨not_tab (p := p) (e := e) ?_ (by rw [ln]; exact he), ⟨?_, ?_⟩, tq_list (by rw [ln]; omega) ?_⟩
  · rw [List.getElem?_append_left (by rw [List.length_append, l1]; exact Nat.lt_succ_self _), List.getElem?_append_right (by omega), l1, Nat.sub_self] <;> rfl
  · exact Nat.le_trans (Nat.le_of_eq ln) (by omega)
  · intro d hd
    rcases mem d hd with z | ⟨r, hr, z⟩
    · rw [z]; exact we
    · rw [z]
      show (r.map PyData.int).length ≤ 1000
      rw [List.length_map]
      have := t.len hr
      omega
  · intro d hd
    rcases mem d hd with z | ⟨r, hr, z⟩
    · rw [z]; exact te
    · rw [z]; exact (row_tq (by have := t.len hr; omega) (t.e r hr)).up (by decide)
theorem noT_less {m : Nat} {rows : List (List Int)} (t : Tbl m rows) : NoT (.list ((rows.map lstI).take (m - 1))) := by
  have hl := t.l
  have m7 := t.m7
  have m1 := t.m1
  have ln : ((rows.map lstI).take (m - 1)).length = m - 1 := by rw [List.length_take, List.length_map]; omega
  have mem : ∀ d, d ∈ (rows.map lstI).take (m - 1) → ∃ r, r ∈ rows ∧ d = lstI r := fun d hd => by
    obtain ⟨r, hr, rfl⟩ := List.mem_map.mp (List.mem_of_mem_take hd)
    exact ⟨r, hr, rfl⟩
  refine ⟨?_, ⟨?_, ?_⟩, tq_list (by rw [ln]; omega) ?_⟩
  · by_cases z : m = 1
    · subst z
      rw [show 1 - 1 = 0 from rfl, List.take_zero] <;> rfl
    · have h0 : 0 < rows.length := by omega
      have g0 := t.w 0 _ (List.getElem?_eq_getElem h0)
      refine not_tab (p := 0) (e := lstI rows[0]) ?_ ?_
      · rw [List.getElem?_take_of_lt (by omega), List.getElem?_map, List.getElem?_eq_getElem h0] <;> rfl
      · rw [ln]
        unfold lineB
        rw [show decide ((itemsD (lstI rows[0])).length + 0 = m - 1) = false from decide_eq_false (by
          show ¬ (rows[0].map PyData.int).length + 0 = m - 1
          rw [List.length_map]
          omega), Bool.false_and, Bool.and_false]
  · exact Nat.le_trans (Nat.le_of_eq ln) (by omega)
  · intro d hd
    obtain ⟨r, hr, rfl⟩ := mem d hd
    show (r.map PyData.int).length ≤ 1000
    rw [List.length_map]
    have := t.len hr
    omega
  · intro d hd
    obtain ⟨r, hr, rfl⟩ := mem d hd
    exact (row_tq (by have := t.len hr; omega) (t.e r hr)).up (by decide)
theorem line_len {m p : Nat} {r : List Int} (h : r.length + p ≠ m) : lineB m p (lstI r) = false := by
  unfold lineB
  rw [show decide ((itemsD (lstI r)).length + p = m) = false from decide_eq_false (by
    show ¬ (r.map PyData.int).length + p = m
    rw [List.length_map]
    exact h), Bool.false_and, Bool.and_false]
/-- the odd lines -/
def oddLine (k : Nat) : List PyData := [.none, .int 3, .str (Txt.mul "0" ((k : Nat) : Int)), .dict [], .bool true, .list (List.replicate k (lstI [0]))]
def lineOk (k p : Nat) : Bool := (oddLine k).all fun d => !lineB (k + p) p d && (tqB 2 d && decide ((itemsD d).length ≤ 1000))
theorem all_lines : ((List.range 7).all fun k => (List.range 8).all fun p => lineOk (k + 1) p) = true := by decide +kernel
theorem oddLine_ok {m p : Nat} {d : PyData} {k : Nat} (hk : 1 ≤ k) (h : k + p = m) (m7 : m ≤ 7) (hd : d ∈ oddLine k) : lineB m p d = false ∧ Tq 2 d ∧ (itemsD d).length ≤ 1000 := by
  have h1 := List.all_eq_true.mp (List.all_eq_true.mp all_lines (k - 1) (List.mem_range.mpr (by omega))) p (List.mem_range.mpr (by omega))
  rw [show k - 1 + 1 = k by omega] at h1
  have h2 := List.all_eq_true.mp h1 d hd
  rw [Bool.and_eq_true, Bool.and_eq_true, h, Bool.not_eq_true'] at h2
  exact ⟨h2.1, tq_ofB h2.2.1, of_decide_eq_true h2.2.2⟩
def oddRank : List PyData := [.none, .bool true, .bool false, .int 7, .int (-1), .str "1", lstI [1], .int (10 ^ Int.toNat 29)]
theorem oddRank_ok : ∀ d ∈ oddRank, isSzD d = false ∧ Tq 1 d := by
  have c : ∀ d ∈ oddRank, isSzD d = false ∧ tqB 1 d = true := by decide +kernel
  intro d hd
  obtain ⟨h1, h2⟩ := c d hd
  exact ⟨h1, tq_ofB h2⟩
theorem mul_0 {k : Nat} (h : k ≤ 7) : PySem.MulOk "0" ((k : Nat) : Int) := by
  rcases (by omega : k = 0 ∨ k = 1 ∨ k = 2 ∨ k = 3 ∨ k = 4 ∨ k = 5 ∨ k = 6 ∨ k = 7) with e | e | e | e | e | e | e | e <;> subst e <;>
    first | exact ⟨by decide, fun h => absurd (by decide) h, fun h => absurd (by decide) h⟩ | exact ⟨by decide, fun _ _ => by decide +kernel, fun _ _ => by decide +kernel⟩
theorem line_odd {m p a : Nat} {r : List Int} {d : PyData} (l : r.length ≤ 7) (hr : ∀ x, x ∈ r → 0 ≤ x ∧ x < 7) (ha : a < r.length) (h : isSzD d = false) (t : Tq 1 d) :
    lineB m p (.list ((r.map PyData.int).take a ++ [d] ++ (r.map PyData.int).drop (a + 1))) = false ∧ Tq 2 (.list ((r.map PyData.int).take a ++ [d] ++ (r.map PyData.int).drop (a + 1))) ∧ (itemsD (.list ((r.map PyData.int).take a ++ [d] ++ (r.map PyData.int).drop (a + 1)))).length ≤ 1000 := by
  have ln : ((r.map PyData.int).take a ++ [d] ++ (r.map PyData.int).drop (a + 1)).length = r.length := by
    rw [List.length_append, List.length_append, List.length_take, List.length_drop, List.length_map, List.length_singleton]
    omega
  refine ⟨?_, tq_list (by rw [ln]; omega) fun e he => ?_, Nat.le_trans (Nat.le_of_eq ln) (by omega)⟩
  · unfold lineB
    have : ((itemsD (.list ((r.map PyData.int).take a ++ [d] ++ (r.map PyData.int).drop (a + 1)))).all isSzD) = false := by
      show List.all ((r.map PyData.int).take a ++ [d] ++ (r.map PyData.int).drop (a + 1)) isSzD = false
      rw [List.all_append, List.all_append, List.all_cons, h, Bool.false_and, Bool.and_false, Bool.false_and]
    rw [this, Bool.and_false, Bool.and_false]
  · have int : ∀ z, z ∈ r.map PyData.int → Tq 1 z := fun z hz => by
      obtain ⟨x, hx, rfl⟩ := List.mem_map.mp hz
      have := hr x hx
      exact (tq_int (Nat.lt_of_le_of_lt (by omega : x.natAbs ≤ 7) (by decide))).up (by decide)
    rcases List.mem_append.mp he with z | z
    · rcases List.mem_append.mp z with y | y
      · exact int _ (List.mem_of_mem_take y)
      · rw [List.mem_singleton.mp y]; exact t
    · exact int _ (List.mem_of_mem_drop z)
theorem cutV_take {xs : List V} {c : Nat} (h : c ≤ xs.length) : cutV xs none (some ((c : Nat) : Int)) = xs.take c := by
  unfold cutV
  rw [HT.sIx_nat, HT.sIx_none, Nat.min_eq_left h, List.drop_zero, Nat.sub_zero]
theorem cutV_less {xs : List V} (h : 1 ≤ xs.length) : cutV xs none (some (-1)) = xs.take (xs.length - 1) := by
  have e2 : HT.sIx xs.length xs.length (some (-1)) = xs.length - 1 := by
    show (if (-1 : Int) < 0 then ((-1 : Int) + (xs.length : Int)).toNat else min (-1 : Int).toNat xs.length) = _
    rw [if_pos (by decide)]
    omega
  unfold cutV
  rw [e2, HT.sIx_none, List.drop_zero, Nat.sub_zero]
/-- the things that are no table, whatever is drawn -/
def flatT : List PyData := [.none, .int 3, .bool true, .str "", .str "1", .list [], .tuple [], .dict [], .dict [(.int 0, lstI [1])], .list ((List.range 8).map fun a => lineD 0 (8 - a)), lstI [1], .list [.list []], .list [.tuple []]]
theorem flatT_ok : ∀ d ∈ flatT, NoT d := by
  have c : ∀ d ∈ flatT, isTabD d = false ∧ tqB 3 d = true ∧ (itemsD d).length ≤ 1000 ∧ ∀ e ∈ itemsD d, (itemsD e).length ≤ 1000 := by decide +kernel
  intro d hd
  obtain ⟨h1, h2, h3, h4⟩ := c d hd
  exact ⟨h1, ⟨h3, h4⟩, tq_ofB h2⟩
/-- the law's own promises -/
def spBentT : Sp := fun vs H Q _ => ∃ M p v n m rows, vs = [.ref p, v] ∧ p ∈ M ∧ MOk M H ∧ Bx H p n ∧ n ≤ 900000 ∧ Any (msk M H) v (tblD rows) ∧ Tbl m rows ∧
  ∀ u d H', NoT d → Grow p H H' → MOk M H' → Bx H' p (n + 10) → Any (msk M H') u d → Q u H'
theorem msk_freshG {M : List Addr} {D p : Addr} {H H1 : Hp} (hp : p ∈ M) (g : Grow p H H1) (hD : H D = none) : Same (msk M H) (msk (D :: M) H1) := fun b o e => by
  obtain ⟨z, e⟩ := msk_at e
  have ne : b ≠ D := ne_of_none e hD
  rw [msk_out (fun y => (List.mem_cons.mp y).elim ne z)]
  exact g b o (fun y => z (by rw [y]; exact hp)) e
theorem ds_eq {ds : List PyData} {n : Nat} {f : Nat → PyData} (l : ds.length = n) (g : ∀ i d, ds[i]? = some d → d = f i) : ds = (List.range n).map f := by
  apply List.ext_getElem?
  intro i
  by_cases h : i < n
  · rw [List.getElem?_map, List.getElem?_range h, List.getElem?_eq_getElem (by omega)]
    exact congrArg some (g i _ (List.getElem?_eq_getElem (by omega)))
  · rw [List.getElem?_eq_none (by omega), List.getElem?_eq_none (by rw [List.length_map, List.length_range]; omega)]
theorem ints_list {P : Int → Prop} : ∀ {ds : List PyData}, (∀ (i : Nat) d, ds[i]? = some d → ∃ x : Int, d = .int x ∧ P x) → ∃ r : List Int, ds = r.map .int ∧ ∀ x, x ∈ r → P x
  | [], _ => ⟨[], rfl, fun x h => (nomatch h)⟩
  | d :: ds, h => by
    obtain ⟨x, rfl, hx⟩ := h 0 d rfl
    obtain ⟨r, rfl, hr⟩ := ints_list (ds := ds) fun i e he => h (i + 1) e (by simpa using he)
    exact ⟨x :: r, rfl, fun y hy => (List.mem_cons.mp hy).elim (fun z => z ▸ hx) (hr y)⟩
theorem tbl_of {m : Nat} {ds : List PyData} (m1 : 1 ≤ m) (m7 : m ≤ 7) (l : ds.length = m) (g : ∀ (i : Nat) d, ds[i]? = some d → ∃ r, d = lstI r ∧ r.length + i = m ∧ ∀ x, x ∈ r → 0 ≤ x ∧ x < 7) : ∃ rows, ds = rows.map lstI ∧ Tbl m rows := by
  have ch : ∀ i : Nat, ∃ r : List Int, i < m → ds[i]? = some (lstI r) ∧ r.length + i = m ∧ ∀ x, x ∈ r → 0 ≤ x ∧ x < 7 := fun i => by
    by_cases h : i < m
    · have e := List.getElem?_eq_getElem (l := ds) (i := i) (by omega)
      obtain ⟨r, e1, e2, e3⟩ := g i _ e
      exact ⟨r, fun _ => ⟨by rw [e, e1], e2, e3⟩⟩
    · exact ⟨[], fun z => absurd z h⟩
  obtain ⟨f, hf⟩ := Classical.axiomOfChoice ch
  refine ⟨(List.range m).map f, ?_, by rw [List.length_map, List.length_range], m1, m7, fun i r h => ?_, fun r h => ?_⟩
  · rw [List.map_map]
    refine ds_eq l fun i d h => ?_
    have hi : i < m := by
      have := (List.getElem?_eq_some_iff.mp h).1
      omega
    have := (hf i hi).1
    rw [h] at this
    exact Option.some.inj this
  · have hi : i < m := by
      have := (List.getElem?_eq_some_iff.mp h).1
      rw [List.length_map, List.length_range] at this
      exact this
    rw [List.getElem?_map, List.getElem?_range hi] at h
    cases Option.some.inj h
    exact (hf i hi).2.1
  · obtain ⟨i, hi, rfl⟩ := List.mem_map.mp h
    exact (hf i (List.mem_range.mp hi)).2.2
theorem rep_go {M : List Addr} {H : Hp} {k c : Nat} {z : Int} {Q : VK} (mo : MOk M H) (hk : k ≤ 8) (e : z = (k : Int)) (q : ∀ l H', Same H H' → MOk M H' → Any (msk M H') (.ref l) (lineD c k) → Q (.ref l) H') : ∀ l, H l = none → rRep (.ref l) (.int z) (upd H l (.lst [.int ((c : Nat) : Int)])) Q := fun l hl => by
  subst e
  refine ⟨l, _, [.int ((c : Nat) : Int)], rfl, rfl, upd_same, by omega, by omega, Nat.le_trans (by show 1 * ((k : Nat) : Int).toNat ≤ 8; omega) (by decide), fun p1 hp1 => ?_⟩
  rw [flat_one, show ((k : Nat) : Int).toNat = k by omega]
  obtain ⟨a, j, m⟩ := lay (mo.keep (same_new hl)) hp1 (ds := List.replicate k (natD c)) (vs := List.replicate k (.int ((c : Nat) : Int))) (anyL_rep (.int _) k)
  exact q p1 _ ((same_new hl).trans j) m a
theorem box_mok {H : Hp} {p : Addr} {n : Nat} (b : Bx H p n) : MOk [p] H := fun c hc => by
  obtain ⟨xs, e⟩ := bx_at b
  rw [List.mem_singleton.mp hc]
  exact ⟨_, e, fun _ z => by cases z⟩
theorem away {H H' : Hp} {D : Addr} (k : Same H H') (hD : H D = none) : Same H (del H' D) := fun b o e => by
  rw [del_ne (ne_of_none e hD)]
  exact k b o e
end Rw

set_option Elab.async false
set_option linter.all false
set_option maxRecDepth 100000
set_option maxHeartbeats 2000000
/-! TkJE: rows and bases as data; the promises of the program's elimination. -/
namespace Rw
open PySem PySem.Spec PyProof.Rows L2
def VecD (r : List Int) (d : PyData) : Prop := d = lstI r ∨ d = tupI r
inductive LikeP : List PyData → List PR → Prop
  | nil : LikeP [] []
  | cons {q : PR} {d : PyData} {ds : List PyData} {ps : List PR} : VecD q.2 d → LikeP ds ps → LikeP (.tuple [natD q.1, d] :: ds) (q :: ps)
def PairsD (ps : List PR) (d : PyData) : Prop := ∃ ds, (d = .list ds ∨ d = .tuple ds) ∧ LikeP ds ps
theorem LikeP.len : ∀ {ds : List PyData} {ps : List PR}, LikeP ds ps → ds.length = ps.length
  | _, _, .nil => rfl
  | _, _, .cons _ h => congrArg (· + 1) h.len
theorem LikeP.at_ : ∀ {ds : List PyData} {ps : List PR} {i : Nat} {d : PyData}, LikeP ds ps → ds[i]? = some d → ∃ q e, ps[i]? = some q ∧ d = .tuple [natD q.1, e] ∧ VecD q.2 e
  | _, _, i, d, .nil, h => by simp at h
  | _, _, 0, d, .cons a _, h => by
    cases h
    exact ⟨_, _, rfl, rfl, a⟩
  | _, _, i + 1, d, .cons _ b, h => by
    obtain ⟨q, e, h1, h2, h3⟩ := b.at_ (i := i) (by simpa using h)
    exact ⟨q, e, by simpa using h1, h2, h3⟩
theorem LikeP.snoc : ∀ {ds : List PyData} {ps : List PR} {q : PR} {d : PyData}, LikeP ds ps → VecD q.2 d → LikeP (ds ++ [.tuple [natD q.1, d]]) (ps ++ [q])
  | _, _, _, _, .nil, a => .cons a .nil
  | _, _, _, _, .cons b h, a => .cons b (h.snoc a)
theorem row_seq {H : Hp} {v : V} {r : List Int} {d : PyData} (h : Any H v d) (e : VecD r d) : ∃ (k : Bool) (a : Addr), v = .ref a ∧ ∀ {H' : Hp}, Same H H' → ∀ K, SqB K H' k a (r.map V.int) := by
  have e1 : isSeqD d = true ∧ itemsD d = r.map .int := by
    rcases e with z | z <;> rw [z] <;> exact ⟨rfl, rfl⟩
  obtain ⟨k, a, xs, rfl, hs, al⟩ := seq_of h e1.1
  rw [e1.2] at al
  rw [anyL_ints al] at hs
  exact ⟨k, a, rfl, hs⟩
theorem pairs_seq {H : Hp} {v : V} {ps : List PR} {d : PyData} (h : Any H v d) (e : PairsD ps d) : ∃ (k : Bool) (a : Addr) (xs : List V) (ds : List PyData), v = .ref a ∧ (∀ {H' : Hp}, Same H H' → ∀ K, SqB K H' k a xs) ∧ AnyL H xs ds ∧ LikeP ds ps := by
  obtain ⟨ds, z, lk⟩ := e
  have e1 : isSeqD d = true ∧ itemsD d = ds := by
    rcases z with z | z <;> rw [z] <;> exact ⟨rfl, rfl⟩
  obtain ⟨k, a, xs, rfl, hs, al⟩ := seq_of h e1.1
  rw [e1.2] at al
  exact ⟨k, a, xs, ds, rfl, hs, al, lk⟩
theorem pair_at {H : Hp} {v : V} {q : PR} {e : PyData} (h : Any H v (.tuple [natD q.1, e])) : ∃ t u, v = .ref t ∧ H t = some (.tup [.int ((q.1 : Nat) : Int), u]) ∧ Any H u e := by
  cases h with
  | tup ea al =>
    cases al with
    | cons a al =>
      cases al with
      | cons b al =>
        cases al
        cases a
        exact ⟨_, _, rfl, ea, b⟩
/-- the item of a list or a tuple of ints -/
theorem ix_rowg {K : PySem.W.Frag} {H : Hp} {k : Bool} {a : Addr} {r : List Int} {j : Nat} {Q : VK} (h : SqB K H k a (r.map V.int)) (hj : j < r.length) (q : Q (.int (cl r j)) H) : rIx K (.ref a) (.int ((j : Nat) : Int)) H Q := by
  have e : (r.map V.int)[j]? = some (.int (cl r j)) := by
    unfold cl
    rw [List.getElem?_map, List.getElem?_eq_getElem hj] <;> rfl
  cases k with
  | true => exact .inl ⟨a, _, _, _, rfl, rfl, h, atI_nat e, q⟩
  | false => exact .inr (.inl ⟨a, _, _, _, rfl, rfl, h, atI_nat e, q⟩)
theorem row_of_list {H : Hp} {l : Addr} {r : List Int} (h : H l = some (.lst (r.map V.int))) : Any H (.ref l) (lstI r) := .lst h (ints_anyL r)
structure SmV (v : List Int) : Prop where
  sm : ∀ x, x ∈ v → x.natAbs < 10 ^ 40
def spRestOf : Sp := fun vs H Q _ => ∃ p vb vv ps v db dv w, vs = [.int p, vb, vv] ∧ p ∈ primesL ∧ Any H vb db ∧ PairsD ps db ∧ Any H vv dv ∧ VecD v dv ∧ v.length = w ∧ w ≤ 100 ∧ ps.length ≤ 100 ∧ GS p w ps ∧ SmV v ∧
  ∀ l H', H l = none → Same H H' → H' l = some (.lst ((restR p ps v).map V.int)) → Q (.ref l) H'
def oNat : Option Nat → V
  | none => .non
  | some l => .int ((l : Nat) : Int)
def spLeadOf : Sp := fun vs H Q _ => ∃ v r d, vs = [v] ∧ Any H v d ∧ VecD r d ∧ r.length ≤ 1000 ∧ ∀ H', Same H H' → Q (oNat (leadR r)) H'
def spCleared : Sp := fun vs H Q _ => ∃ M p vr va r a dr da l w, vs = [.int p, vr, .int ((l : Nat) : Int), va] ∧ MOk M H ∧ p ∈ primesL ∧ Any (msk M H) vr dr ∧ VecD r dr ∧ Any H va da ∧ VecD a da ∧ r.length = w ∧ a.length = w ∧ l < w ∧ w ≤ 100 ∧ (∀ c, c < w → 0 ≤ cl r c ∧ cl r c < p) ∧ (∀ c, c < w → 0 ≤ cl a c ∧ cl a c < p) ∧
  ∀ u d H', Same H H' → Any (msk M H') u d → VecD (lessR p a l r) d → Q u H'
theorem int_cl {r : List Int} {j : Nat} {y : V} (h : (r.map V.int)[j]? = some y) (hj : j < r.length) : y = .int (cl r j) := by
  unfold cl
  rw [List.getElem?_map, List.getElem?_eq_getElem hj] at h
  rw [List.getElem?_eq_getElem hj]
  exact (Option.some.inj h).symm
theorem step_len {p : Int} {v acc : List Int} {q : PR} {W : Nat} (la : acc.length = W) (lq : q.2.length = W) : (stepR p v acc q).length = W := by
  unfold stepR
  rw [List.length_zipWith, la, lq, Nat.min_self]
theorem step_cl {p : Int} {v acc : List Int} {q : PR} {W c : Nat} (la : acc.length = W) (lq : q.2.length = W) (hc : c < W) : cl (stepR p v acc q) c = cl acc c - cl v q.1 % p * cl q.2 c := cl_zip (by omega) (by omega)
theorem at_cl {r : List Int} {c : Nat} (h : c < r.length) : r[c]? = some (cl r c) := by
  unfold cl
  rw [List.getElem?_eq_getElem h] <;> rfl
theorem nodup_le : ∀ (w : Nat) (l : List Nat), l.Nodup → (∀ x, x ∈ l → x < w) → l.length ≤ w
  | 0, [], _, _ => Nat.le_refl _
  | 0, x :: _, _, h => absurd (h x List.mem_cons_self) (Nat.not_lt_zero x)
  | w + 1, l, nd, h => by
    by_cases hw : w ∈ l
    · have h1 := nodup_le w (l.erase w) (nd.erase w) fun x hx => by
        obtain ⟨h1, h2⟩ := (List.Nodup.mem_erase_iff nd).mp hx
        have := h x h2
        omega
      rw [List.length_erase_of_mem hw] at h1
      omega
    · have h1 := nodup_le w l nd fun x hx => by
        have h1 := h x hx
        have h2 : x ≠ w := fun z => hw (z ▸ hx)
        omega
      omega
theorem GS.le {p : Int} {w : Nat} {ps : List PR} (g : GS p w ps) : ps.length ≤ w := by
  have h := nodup_le w (ps.map (·.1)) g.nodup fun x hx => by
    obtain ⟨q, hq, rfl⟩ := List.mem_map.mp hx
    exact g.lt q hq
  rwa [List.length_map] at h
theorem gs_fold {p : Int} {w : Nat} (hp : p ∈ primesL) : ∀ {vs : List (List Int)} {ps : List PR}, GS p w ps → (∀ v, v ∈ vs → v.length = w) → GS p w (vs.foldl (widen1 p) ps)
  | [], _, g, _ => g
  | v :: vs, ps, g, h => gs_fold hp (vs := vs) (ps := widen1 p ps v) (gs_widen1 hp g (h v List.mem_cons_self)).1 fun u hu => h u (List.mem_cons_of_mem _ hu)
/-- many vectors, as data -/
structure LikeV (ds : List PyData) (rows : List (List Int)) : Prop where
  len : ds.length = rows.length
  at_ : ∀ (i : Nat) (d : PyData), ds[i]? = some d → ∃ r, rows[i]? = some r ∧ VecD r d
def VecsD (rows : List (List Int)) (d : PyData) : Prop := ∃ ds, (d = .list ds ∨ d = .tuple ds) ∧ LikeV ds rows
theorem vecs_seq {H : Hp} {v : V} {rows : List (List Int)} {d : PyData} (h : Any H v d) (e : VecsD rows d) : ∃ (k : Bool) (a : Addr) (xs : List V) (ds : List PyData), v = .ref a ∧ (∀ {H' : Hp}, Same H H' → ∀ K, SqB K H' k a xs) ∧ AnyL H xs ds ∧ LikeV ds rows := by
  obtain ⟨ds, z, lk⟩ := e
  have e1 : isSeqD d = true ∧ itemsD d = ds := by
    rcases z with z | z <;> rw [z] <;> exact ⟨rfl, rfl⟩
  obtain ⟨k, a, xs, rfl, hs, al⟩ := seq_of h e1.1
  rw [e1.2] at al
  exact ⟨k, a, xs, ds, rfl, hs, al, lk⟩
def pairsT (qs : List PR) : PyData := .tuple (qs.map fun q => .tuple [natD q.1, tupI q.2])
/-- where many vectors lie -/
def VecsAt (K : PySem.W.Frag) (H : Hp) (v : V) (rows : List (List Int)) : Prop := ∃ (k : Bool) (a : Addr) (xs : List V) (ds : List PyData), v = .ref a ∧ (∀ H', Same H H' → SqB K H' k a xs) ∧ AnyL H xs ds ∧ LikeV ds rows
theorem VecsAt.keep {K : PySem.W.Frag} {H H1 : Hp} {v : V} {rows : List (List Int)} (h : VecsAt K H v rows) (k : Same H H1) : VecsAt K H1 v rows := by
  obtain ⟨kk, a, xs, ds, e, h1, h2, h3⟩ := h
  exact ⟨kk, a, xs, ds, e, fun H' s => h1 H' (k.trans s), anyL_keep k h2, h3⟩
theorem vecs_at {K : PySem.W.Frag} {H : Hp} {v : V} {rows : List (List Int)} {d : PyData} (h : Any H v d) (e : VecsD rows d) : VecsAt K H v rows := by
  obtain ⟨k, a, xs, ds, e1, h1, h2, h3⟩ := vecs_seq h e
  exact ⟨k, a, xs, ds, e1, fun H' s => h1 s K, h2, h3⟩
theorem vecs_none {K : PySem.W.Frag} {H : Hp} {a : Addr} (h : ∀ H', SqT K H' a []) : VecsAt K H (.ref a) [] := ⟨false, a, [], [], rfl, fun H' _ => h H', .nil, ⟨rfl, fun i d h => by simp at h⟩⟩
def spWiden (K : PySem.W.Frag) : Sp := fun vs H Q _ => ∃ p vb vv ps0 rows db w, vs = [.int p, vb, vv] ∧ p ∈ primesL ∧ Any H vb db ∧ PairsD ps0 db ∧ GS p w ps0 ∧ VecsAt K H vv rows ∧ rows.length ≤ 100 ∧ w ≤ 100 ∧ (∀ r, r ∈ rows → r.length = w ∧ SmV r) ∧
  ∀ qs t H', qs.Perm (rows.foldl (widen1 p) ps0) → Asc qs → Same H H' → Any H' (.ref t) (pairsT qs) → Q (.ref t) H'
def spReduced (K : PySem.W.Frag) : Sp := fun vs H Q _ => ∃ p vv rows w, vs = [.int p, vv] ∧ p ∈ primesL ∧ VecsAt K H vv rows ∧ rows.length ≤ 100 ∧ w ≤ 100 ∧ (∀ r, r ∈ rows → r.length = w ∧ SmV r) ∧
  ∀ qs t H', Bas p w rows qs → Asc qs → Same H H' → Any H' (.ref t) (pairsT qs) → Q (.ref t) H'
/-! ### what lies, read back -/
def vInt : V → Int
  | .int i => i
  | _ => 0
def itemsO : Option HO → List V
  | some (.lst xs) => xs
  | some (.tup xs) => xs
  | _ => []
def adV : V → Addr
  | .ref t => t
  | _ => 0
def refV : V → Addr
  | .ref b => b
  | _ => 0
def kyH (H : Hp) (v : V) : Int := vInt ((itemsO (H (adV v)))[0]?.getD .non)
def rfH (H : Hp) (v : V) : Addr := refV ((itemsO (H (adV v)))[1]?.getD .non)
def prH (H : Hp) (v : V) : PR := ((kyH H v).toNat, (itemsO (H (rfH H v))).map vInt)
theorem vInt_map (r : List Int) : (r.map V.int).map vInt = r := by
  rw [List.map_map]
  exact List.map_id r
theorem vec_obj {H : Hp} {u : V} {r : List Int} {d : PyData} (h : Any H u d) (e : VecD r d) : ∃ b, u = .ref b ∧ (H b = some (.lst (r.map V.int)) ∨ H b = some (.tup (r.map V.int))) := by
  rcases e with z | z <;> subst z
  · cases h with
    | lst e al => exact ⟨_, rfl, .inl (by rw [e, anyL_ints al])⟩
  · cases h with
    | tup e al => exact ⟨_, rfl, .inr (by rw [e, anyL_ints al])⟩
theorem pr_of {H : Hp} {t b : Addr} {q : PR} (h : H t = some (.tup [.int ((q.1 : Nat) : Int), .ref b])) (h2 : H b = some (.lst (q.2.map V.int)) ∨ H b = some (.tup (q.2.map V.int))) : kyH H (.ref t) = ((q.1 : Nat) : Int) ∧ rfH H (.ref t) = b ∧ prH H (.ref t) = q := by
  have e1 : kyH H (.ref t) = ((q.1 : Nat) : Int) := by
    show vInt ((itemsO (H t))[0]?.getD .non) = _
    rw [h] <;> rfl
  have e2 : rfH H (.ref t) = b := by
    show refV ((itemsO (H t))[1]?.getD .non) = _
    rw [h] <;> rfl
  refine ⟨e1, e2, ?_⟩
  unfold prH
  rw [e1, e2]
  have e3 : (itemsO (H b)).map vInt = q.2 := by
    rcases h2 with z | z <;> rw [z] <;> exact vInt_map q.2
  rw [e3, Int.toNat_natCast]
theorem likeP_of : ∀ {ds : List PyData} {ps : List PR}, ds.length = ps.length → (∀ (i : Nat) d, ds[i]? = some d → ∃ q e, ps[i]? = some q ∧ d = .tuple [natD q.1, e] ∧ VecD q.2 e) → LikeP ds ps
  | [], [], _, _ => .nil
  | d :: ds, p :: ps, l, h => by
    obtain ⟨q, e, h1, h2, h3⟩ := h 0 d rfl
    cases h1
    subst h2
    exact .cons h3 (likeP_of (Nat.succ.inj l) fun i d hd => by simpa using h (i + 1) d (by simpa using hd))
theorem widen_none {p : Int} {ps : List PR} {v : List Int} (h : ¬ ps.length = v.length) (e : leadR (restR p ps v) = none) : widen1 p ps v = ps := by
  unfold widen1
  rw [if_neg h, e]
theorem widen_some {p : Int} {ps : List PR} {v : List Int} {l : Nat} (h : ¬ ps.length = v.length) (e : leadR (restR p ps v) = some l) : widen1 p ps v = moreR p ps (restR p ps v) l := by
  unfold widen1
  rw [if_neg h, e]
end Rw

set_option Elab.async false
set_option linter.all false
set_option maxRecDepth 100000
set_option maxHeartbeats 8000000
/-! K6B: rests, leads, cleared rows. -/
namespace K6
open PySem PySem.Spec PyProof.Rows L2 Rw
abbrev sRest : Stmt := top 21
abbrev NRest : List Str := ["prime", "basis", "vector", "rest", "lead", "row", "factor", "item", "taken"]
theorem scRest : FnScope NRest ["prime", "basis", "vector"] (defScope sRest) := ⟨rfl, rfl, rfl, by decide +kernel, rfl, by decide +kernel, by decide +kernel⟩
abbrev sLead : Stmt := top 20
abbrev NLead : List Str := ["vector", "index", "item"]
theorem scLead : FnScope NLead ["vector"] (defScope sLead) := ⟨rfl, rfl, rfl, by decide +kernel, rfl, by decide +kernel, by decide +kernel⟩
abbrev sClr : Stmt := top 22
abbrev NClr : List Str := ["prime", "row", "lead", "added", "factor", "item", "taken"]
theorem scClr : FnScope NClr ["prime", "row", "lead", "added"] (defScope sClr) := ⟨rfl, rfl, rfl, by decide +kernel, rfl, by decide +kernel, by decide +kernel⟩
abbrev gIT (K : PySem.W.Frag) : TG := gTup K 2 (gCons (gName 7) (gCons (gName 8) gNil))
abbrev gIT2 (K : PySem.W.Frag) : TG := gTup K 2 (gCons (gName 5) (gCons (gName 6) gNil))
section
variable {P : Program} {w : World} {K : PySem.W.Frag} {mg : Str → Option Value} {base : Heap} {aI CP CS CV CU : Addr} {kI : List (Int × Value)}
theorem okRest {f : Addr} {fd : FuncData} (F : Fun K "rest_of" "rest_of" sRest f fd) (T : Txt K mg aI CP CS CV CU kI) : FnOk P w K mg base CX0 1 f fd ["prime", "basis", "vector"] spRestOf := by
  refine F.ok scRest (fun vs H Q E h => ?_) (fun cdv A outer s H vs Q E hr h => ?_)
  · obtain ⟨p, vb, vv, ps, v, db, dv, W, rfl, _⟩ := h
    rfl
  · obtain ⟨p, vb, vv, ps, v, db, dv, W, rfl, hp, ab, eb, av, ev, lv, w100, l100, gs, sm, q⟩ := h
    refine ⟨_, (pss_cons (ps_set (i := 3) scRest.nd rfl (Or.inl rfl) (pv 2))
    (pss_cons (ps_for PassesOwn.never rfl (pi_seq (pv 1)) (pg_tup rfl (pgs_cons (pg_name (i := 4) scRest.nd rfl (Or.inl rfl)) (pgs_cons (pg_name (i := 5) scRest.nd rfl (Or.inl rfl)) pgs_nil))) (pss_cons (ps_set (i := 6) scRest.nd rfl (Or.inr rfl) (pe_op op_modN (pe_ix ix_seq (pv 2) (pv 4) (fun _ _ => rfl)) (pv 0)))
      (pss_one (ps_if (pt_cmpR op_ne (pv 6) pe_int (nomark _)) (pss_one (ps_setLc (i := 3) (own := [("item", 7), ("taken", 8)]) (g := gIT K) (tt := tYes) rfl scRest.nd rfl rfl (sw_true rfl rfl rfl (by decide +kernel)) (pi_zipB (by rfl) T.zip (pa_cons (pv 3) (pa_cons (pv 5) pa_nil))) (blkOk_by (N := NRest) (sc := defScope sRest) (by decide +kernel)) (fun _ _ _ _ _ => (pg_tup rfl (pgs_cons (pg_name (i := 7) scRest.nd rfl (Or.inl rfl)) (pgs_cons (pg_name (i := 8) scRest.nd rfl (Or.inl rfl)) pgs_nil)))) (fun _ _ _ _ _ => pts_nil) (fun _ _ _ _ _ => (pe_op op_sub (pv 7) (pe_op op_mul (pv 6) (pv 8)))))) pss_nil))))
    (pss_one (ps_ret (pe_lc (own := [("item", 7)]) (g := gName 7) (tt := tYes) rfl scRest.nd (pi_seq (pv 3)) (blkOk_by (N := NRest) (sc := defScope sRest) (by decide +kernel)) (fun _ _ _ _ _ => (pg_name (i := 7) scRest.nd rfl (Or.inl rfl))) (fun _ _ _ _ _ => pts_nil) (fun _ _ _ _ _ => (pe_op op_modN (pv 7) (pv 0)))))))), ?_⟩
    have pp := prime_pos hp
    obtain ⟨kv, av_, rfl, hv⟩ := row_seq av ev
    obtain ⟨kb, ab_, xs, ds, rfl, hb, alb, lk⟩ := pairs_seq ab eb
    have lx := (anyL_len alb).trans lk.len
    have big : (10 : Nat) ^ 40 = 10000000000000000000000000000000000000000 := by decide
    have smc : ∀ c, (cl v c).natAbs < 10 ^ 40 := fun c => by
      by_cases z : c < v.length
      · refine sm.sm _ ?_
        unfold cl
        rw [List.getElem?_eq_getElem z]
        exact List.getElem_mem z
      · rw [cl_ge (by omega)]
        decide
    refine ⟨_, rfl, _, rfl, ab_, kb, xs, rfl, hb (Same.refl _) K, ?_⟩
    refine for_it walk_seq (fun i σ' H' => (∃ u x4 x5 x6, σ' = [some (.int p), some (.ref ab_), some (.ref av_), some u, x4, x5, x6, none, none] ∧ ∃ d, Any H' u d ∧ VecD ((ps.take i).foldl (stepR p v) v) d) ∧ Same H H') ⟨⟨_, _, _, _, rfl, dv, av, ev⟩, Same.refl _⟩ (fun i σ' H' _ h => hb h.2 K) ?_ ?_
    · rintro i x σ' H2 H1 hi ⟨⟨u, x4, x5, x6, rfl, d, au, eu⟩, s1⟩ ⟨rfl, hx⟩
      obtain ⟨dx, hdx, ax⟩ := anyL_at alb hx
      obtain ⟨qq, e, hq, rfl, re⟩ := lk.at_ hdx
      obtain ⟨t, ur, rfl, et, ar⟩ := pair_at ax
      have mq := List.mem_of_getElem? hq
      have lq := gs.len qq mq
      have ltq := gs.lt qq mq
      have la : ((ps.take i).foldl (stepR p v) v).length = W := fold_len lv fun r hr => gs.len r (List.mem_of_mem_take hr)
      have step : (ps.take (i + 1)).foldl (stepR p v) v = stepR p v ((ps.take i).foldl (stepR p v) v) qq := by
        rw [List.take_add_one, hq, List.foldl_append] <;> rfl
      refine ⟨t, _, rfl, SqT.of (s1 _ _ et), rfl, _, _, rfl, _, _, rfl, rfl, ?_⟩
      refine ⟨_, rfl, _, rfl, ix_rowg (hv s1 K) (by omega) ⟨_, rfl, _, _, rfl, rfl, (by show p ≠ 0; omega), ?_⟩⟩
      have ef : (cl v qq.1).fmod p = cl v qq.1 % p := fmod_pos (by omega)
      have f0 : 0 ≤ (cl v qq.1).fmod p := by rw [ef]; exact Int.emod_nonneg _ (by omega)
      have f1 : (cl v qq.1).fmod p < p := by rw [ef]; exact Int.emod_lt_of_pos _ (by omega)
      refine ⟨_, rfl, rfl, _, rfl, ite2 (fun z => ?_) (fun z => ?_)⟩
      · obtain ⟨k1, a1, rfl, h1⟩ := row_seq au eu
        obtain ⟨k2, a2, rfl, h2⟩ := row_seq ar re
        have h2' := fun {H' : Hp} (k : Same H1 H') => h2 (s1.trans k)
        refine ⟨_, rfl, _, rfl, a1, a2, k1, k2, _, _, rfl, h1 (Same.refl _) K, h2' (Same.refl _) K, fun D hD => ?_⟩
        generalize ea : (ps.take i).foldl (stepR p v) v = acc at *
        refine lc_it (walk_zipB (n := W) (by rw [List.length_map, la]) (by rw [List.length_map, lq])) (Pv := fun j H' => Same H1 H' ∧ H' D = some (.lst (((stepR p v acc qq).take j).map V.int))) ⟨same_new hD, by rw [List.take_zero]; exact upd_same⟩ (fun j H' _ h => ⟨h1 h.1 K, h2' h.1 K⟩) ?_ ?_
        · rintro j y H4 H3 hj ⟨s4, eD⟩ ⟨T1, y1, y2, rfl, hT, rfl, g1, g2⟩
          have i1 : y1 = .int (cl acc j) := int_cl g1 (by omega)
          have i2 : y2 = .int (cl qq.2 j) := int_cl g2 (by omega)
          subst i1
          subst i2
          have kT : Same H4 (upd H4 T1 (.tup [.int (cl acc j), .int (cl qq.2 j)])) := same_new hT
          have eT : (upd H4 T1 (.tup [.int (cl acc j), .int (cl qq.2 j)])) T1 = some (.tup [.int (cl acc j), .int (cl qq.2 j)]) := upd_same
          generalize upd H4 T1 (.tup [.int (cl acc j), .int (cl qq.2 j)]) = H3 at kT eT ⊢
          refine ⟨T1, _, rfl, SqT.of eT, rfl, _, _, rfl, _, _, rfl, rfl, rfl, ?_⟩
          unfold tYes
          refine Eq.mpr (if_pos (rfl : true = true)) ?_
          refine ⟨_, rfl, _, rfl, _, rfl, _, _, rfl, rfl, .inl ⟨by omega, by omega⟩, _, _, rfl, rfl, ?_⟩
          have lst : (stepR p v acc qq).length = W := step_len la lq
          refine ⟨_, kT _ _ eD, Nat.lt_of_le_of_lt (by rw [List.length_map, List.length_take]; omega : _ ≤ 100) (by decide), fun z o ez => ?_, ?_⟩
          · rw [upd_ne (ne_of_none ez hD)]
            exact kT _ _ (s4 _ _ ez)
          · have e3 : (stepR p v acc qq)[j]? = some (cl acc j - (cl v qq.1).fmod p * cl qq.2 j) := by
              rw [at_cl (by omega), step_cl la lq (by omega), ef]
            rw [upd_same, List.take_add_one, e3, List.map_append] <;> rfl
        · rintro H3 ⟨s3, eD⟩
          have lst : (stepR p v acc qq).length = W := step_len la lq
          rw [List.take_of_length_le (by omega)] at eD
          refine ⟨⟨_, _, _, _, rfl, _, row_of_list eD, ?_⟩, s1.trans s3⟩
          rw [step]
          exact .inl rfl
      · refine ⟨⟨_, _, _, _, rfl, d, au, ?_⟩, s1⟩
        have z0 : cl v qq.1 % p = 0 := by
          have h3 : ¬ (V.int ((cl v qq.1).fmod p) ≠ V.int 0) := fun y => z (by simpa using y)
          have h4 := Classical.not_not.mp h3
          rw [← ef]
          exact V.int.inj h4
        have same : stepR p v ((ps.take i).foldl (stepR p v) v) qq = (ps.take i).foldl (stepR p v) v := by
          refine cl_eq (w := W) (step_len la lq) la fun c hc => ?_
          rw [step_cl la lq hc, z0, Int.zero_mul, Int.sub_zero]
        rw [step, same]
        exact eu
    · rintro σ' H1 ⟨⟨u, x4, x5, x6, rfl, d, au, eu⟩, s1⟩
      rw [lx, List.take_length] at eu
      have la : (ps.foldl (stepR p v) v).length = W := fold_len lv gs.len
      obtain ⟨k1, a1, rfl, h1⟩ := row_seq au eu
      refine ⟨_, rfl, a1, k1, _, rfl, h1 (Same.refl _) K, fun D hD => ?_⟩
      refine lc_it walk_seq (Pv := fun j H' => Same H1 H' ∧ H' D = some (.lst (((restR p ps v).take j).map V.int))) ⟨same_new hD, by rw [List.take_zero]; exact upd_same⟩ (fun j H' _ h => h1 h.1 K) ?_ ?_
      · rintro j y H4 H3 hj ⟨s4, eD⟩ ⟨rfl, hy⟩
        rw [List.length_map, la] at hj
        rw [List.getElem?_map, List.getElem?_eq_getElem (by omega)] at hy
        cases hy
        refine ⟨rfl, ?_⟩
        unfold tYes
        refine Eq.mpr (if_pos (rfl : true = true)) ?_
        refine ⟨_, rfl, _, rfl, _, _, rfl, rfl, (by show p ≠ 0; omega), ?_⟩
        have lr : (restR p ps v).length = W := rest_len lv gs.len
        refine ⟨_, eD, Nat.lt_of_le_of_lt (by rw [List.length_map, List.length_take]; omega : _ ≤ 100) (by decide), fun z o ez => ?_, ?_⟩
        · rw [upd_ne (ne_of_none ez hD)]
          exact s4 _ _ ez
        · have e3 : (restR p ps v)[j]? = some (((ps.foldl (stepR p v) v)[j]'(by omega)).fmod p) := by
            unfold restR
            rw [List.getElem?_map, List.getElem?_eq_getElem (by omega), fmod_pos (by omega)] <;> rfl
          rw [upd_same, List.take_add_one, e3, List.map_append] <;> rfl
      · rintro H3 ⟨s3, eD⟩
        rw [List.length_map, la, List.take_of_length_le (by rw [rest_len lv gs.len]; exact Nat.le_refl _)] at eD
        exact q D H3 (s1.free hD) (s1.trans s3) eD
theorem okLead {f : Addr} {fd : FuncData} (F : Fun K "lead_of" "lead_of" sLead f fd) (T : Txt K mg aI CP CS CV CU kI) : FnOk P w K mg base CX0 1 f fd ["vector"] spLeadOf := by
  refine F.ok scLead (fun vs H Q E h => ?_) (fun cdv A outer s H vs Q E hr h => ?_)
  · obtain ⟨v, r, d, rfl, _⟩ := h
    rfl
  · obtain ⟨v, r, d, rfl, av, ev, l1000, q⟩ := h
    refine ⟨_, (pss_cons (ps_for PassesOwn.never rfl (pi_enumB (by rfl) T.enum (pa_cons (pv 0) pa_nil)) (pg_tup rfl (pgs_cons (pg_name (i := 1) scLead.nd rfl (Or.inl rfl)) (pgs_cons (pg_name (i := 2) scLead.nd rfl (Or.inl rfl)) pgs_nil))) (pss_one (ps_if (pt_cmpR op_ne (pv 2) pe_int (nomark _)) (pss_one (ps_ret (pv 1))) pss_nil)))
    (pss_one (ps_ret pe_non))), ?_⟩
    obtain ⟨k1, a1, rfl, h1⟩ := row_seq av ev
    refine ⟨_, rfl, a1, k1, _, rfl, h1 (Same.refl _) K, ?_⟩
    have skip : ∀ i, (∀ c, c < i → cl r c = 0) → i ≤ r.length → ∀ l, leadR r = some l → i ≤ l := fun i h _ l hl => by
      obtain ⟨_, b, _⟩ := lead_some hl
      rcases Nat.lt_or_ge l i with z | z
      · exact absurd (h l z) b
      · exact z
    refine for_it walk_enumB (fun i σ' H' => (∃ x1 x2, σ' = [some (.ref a1), x1, x2]) ∧ Same H H' ∧ ∀ c, c < i → cl r c = 0) ⟨⟨_, _, rfl⟩, Same.refl _, fun c hc => absurd hc (Nat.not_lt_zero c)⟩ (fun i σ' H' _ h => h1 h.2.1 K) ?_ ?_
    · rintro i x σ' H2 H3 hi ⟨⟨x1, x2, rfl⟩, s2, lo⟩ ⟨T1, y1, y2, rfl, hT, rfl, g1, g2⟩
      rw [List.length_map] at hi
      cases g1
      have i2 : y2 = .int (cl r i) := int_cl g2 hi
      subst i2
      have kT : Same H2 (upd H2 T1 (.tup [.int ((i : Nat) : Int), .int (cl r i)])) := same_new hT
      have eT : (upd H2 T1 (.tup [.int ((i : Nat) : Int), .int (cl r i)])) T1 = some (.tup [.int ((i : Nat) : Int), .int (cl r i)]) := upd_same
      generalize upd H2 T1 (.tup [.int ((i : Nat) : Int), .int (cl r i)]) = H3 at kT eT ⊢
      refine ⟨T1, _, rfl, SqT.of eT, rfl, _, _, rfl, _, _, rfl, rfl, ?_⟩
      refine ⟨_, rfl, rfl, _, rfl, ite2 (fun z => ?_) (fun z => ?_)⟩
      · have nz : cl r i ≠ 0 := fun y => by
          rw [y] at z
          cases z
        have e : leadR r = some i := by
          cases e : leadR r with
          | none => exact absurd (lead_none e i) nz
          | some l =>
            obtain ⟨_, _, c3⟩ := lead_some e
            have := skip i lo (by omega) l e
            rcases Nat.lt_or_ge i l with y | y
            · exact absurd (c3 i y) nz
            · exact congrArg some (by omega)
        have qq := q _ (s2.trans kT)
        rw [e] at qq
        exact ⟨_, rfl, qq⟩
      · refine ⟨⟨_, _, rfl⟩, s2.trans kT, fun c hc => ?_⟩
        by_cases y : c = i
        · subst y
          have h3 : ¬ (V.int (cl r c) ≠ V.int 0) := fun y => z (by simpa using y)
          exact V.int.inj (Classical.not_not.mp h3)
        · exact lo c (by omega)
    · rintro σ' H2 ⟨⟨x1, x2, rfl⟩, s2, lo⟩
      rw [List.length_map] at lo
      have e : leadR r = none := by
        cases e : leadR r with
        | none => rfl
        | some l =>
          obtain ⟨c1, c2, _⟩ := lead_some e
          exact absurd (lo l c1) c2
      have qq := q _ s2
      rw [e] at qq
      exact qq
theorem okClr {f : Addr} {fd : FuncData} (F : Fun K "_cleared" "_cleared" sClr f fd) (T : Txt K mg aI CP CS CV CU kI) : FnOk P w K mg base CX0 1 f fd ["prime", "row", "lead", "added"] spCleared := by
  refine F.ok scClr (fun vs H Q E h => ?_) (fun cdv A outer s H vs Q E hr h => ?_)
  · obtain ⟨M, p, vr, va, r, a, dr, da, l, W, rfl, _⟩ := h
    rfl
  · obtain ⟨M, p, vr, va, r, a, dr, da, l, W, rfl, mo, hp, ar0, er, aa, ea, lr, la, hl, w100, rr, ra, q⟩ := h
    have ar := ar0.keep msk_sub
    refine ⟨_, (pss_cons (ps_set (i := 4) scClr.nd rfl (Or.inr rfl) (pe_ix ix_seq (pv 1) (pv 2) (fun _ _ => rfl)))
    (pss_cons (ps_if (pt_cmpR op_eq (pv 4) pe_int (nomark _)) (pss_one (ps_ret (pv 1))) pss_nil)
    (pss_one (ps_ret (pe_lc (own := [("item", 5), ("taken", 6)]) (g := gIT2 K) (tt := tYes) rfl scClr.nd (pi_zipB (by rfl) T.zip (pa_cons (pv 1) (pa_cons (pv 3) pa_nil))) (blkOk_by (N := NClr) (sc := defScope sClr) (by decide +kernel)) (fun _ _ _ _ _ => (pg_tup rfl (pgs_cons (pg_name (i := 5) scClr.nd rfl (Or.inl rfl)) (pgs_cons (pg_name (i := 6) scClr.nd rfl (Or.inl rfl)) pgs_nil)))) (fun _ _ _ _ _ => pts_nil) (fun _ _ _ _ _ => (pe_op op_modN (pe_op op_sub (pv 5) (pe_op op_mul (pv 4) (pv 6))) (pv 0)))))))), ?_⟩
    have pp := prime_pos hp
    obtain ⟨k1, a1, rfl, h1⟩ := row_seq ar er
    obtain ⟨k2, a2, rfl, h2⟩ := row_seq aa ea
    have ll : (lessR p a l r).length = W := by unfold lessR; rw [List.length_map, List.length_range, la]
    refine ⟨_, rfl, _, rfl, ix_rowg (h1 (Same.refl _) K) (by omega) ?_⟩
    refine ⟨_, rfl, rfl, _, rfl, ite2 (fun z => ?_) (fun z => ?_)⟩
    · have z0 : cl r l = 0 := V.int.inj (of_decide_eq_true z)
      refine ⟨_, rfl, q _ dr _ (Same.refl _) ar0 ?_⟩
      have e : lessR p a l r = r := cl_eq ll lr fun c hc => by
        have := rr c hc
        rw [cl_less (by omega), z0, Int.zero_mul, Int.sub_zero]
        exact Int.emod_eq_of_lt this.1 this.2
      rw [e]
      exact er
    · refine ⟨_, rfl, _, rfl, a1, a2, k1, k2, _, _, rfl, h1 (Same.refl _) K, h2 (Same.refl _) K, fun D hD => ?_⟩
      have rl := rr l hl
      refine lc_it (walk_zipB (n := W) (by rw [List.length_map, lr]) (by rw [List.length_map, la])) (Pv := fun j H' => Same H H' ∧ H' D = some (.lst (((lessR p a l r).take j).map V.int))) ⟨same_new hD, by rw [List.take_zero]; exact upd_same⟩ (fun j H' _ h => ⟨h1 h.1 K, h2 h.1 K⟩) ?_ ?_
      · rintro j y H4 H3 hj ⟨s4, eD⟩ ⟨T1, y1, y2, rfl, hT, rfl, g1, g2⟩
        have i1 : y1 = .int (cl r j) := int_cl g1 (by omega)
        have i2 : y2 = .int (cl a j) := int_cl g2 (by omega)
        subst i1
        subst i2
        have kT : Same H4 (upd H4 T1 (.tup [.int (cl r j), .int (cl a j)])) := same_new hT
        have eT : (upd H4 T1 (.tup [.int (cl r j), .int (cl a j)])) T1 = some (.tup [.int (cl r j), .int (cl a j)]) := upd_same
        generalize upd H4 T1 (.tup [.int (cl r j), .int (cl a j)]) = H3 at kT eT ⊢
        refine ⟨T1, _, rfl, SqT.of eT, rfl, _, _, rfl, _, _, rfl, rfl, rfl, ?_⟩
        unfold tYes
        refine Eq.mpr (if_pos (rfl : true = true)) ?_
        refine ⟨_, rfl, _, rfl, _, rfl, _, _, rfl, rfl, .inl ⟨by omega, by omega⟩, _, _, rfl, rfl, _, rfl, _, _, rfl, rfl, (by show p ≠ 0; omega), ?_⟩
        refine ⟨_, kT _ _ eD, Nat.lt_of_le_of_lt (by rw [List.length_map, List.length_take]; omega : _ ≤ 100) (by decide), fun z o ez => ?_, ?_⟩
        · rw [upd_ne (ne_of_none ez hD)]
          exact kT _ _ (s4 _ _ ez)
        · have e3 : (lessR p a l r)[j]? = some ((cl r j - cl r l * cl a j).fmod p) := by
            rw [at_cl (by omega), cl_less (by omega), fmod_pos (by omega)]
          rw [upd_same, List.take_add_one, e3, List.map_append] <;> rfl
      · rintro H3 ⟨s3, eD⟩
        rw [List.take_of_length_le (by omega)] at eD
        exact q _ _ H3 s3 (.lst (by rw [msk_out (mo.new hD)]; exact eD) (ints_anyL _)) (.inl rfl)
end
end K6

set_option Elab.async false
set_option linter.all false
set_option maxRecDepth 100000
set_option maxHeartbeats 8000000
/-! K6C: reduced bases. -/
namespace K6
open PySem PySem.Spec PyProof.Rows L2 Rw
abbrev sWid : Stmt := top 19
abbrev NWid : List Str := ["prime", "basis", "vectors", "pairs", "vector", "rest", "lead", "factor", "added", "row", "item", "other"]
theorem scWid : FnScope NWid ["prime", "basis", "vectors"] (defScope sWid) := ⟨rfl, rfl, rfl, by decide +kernel, rfl, by decide +kernel, by decide +kernel⟩
abbrev sRed : Stmt := top 18
abbrev NRed : List Str := ["prime", "vectors"]
theorem scRed : FnScope NRed ["prime", "vectors"] (defScope sRed) := ⟨rfl, rfl, rfl, by decide +kernel, rfl, by decide +kernel, by decide +kernel⟩
abbrev gOR (K : PySem.W.Frag) : TG := gTup K 2 (gCons (gName 11) (gCons (gName 9) gNil))
abbrev gLR (K : PySem.W.Frag) : TG := gTup K 2 (gCons (gName 6) (gCons (gName 9) gNil))
section
variable {P : Program} {w : World} {K : PySem.W.Frag} {mg : Str → Option Value} {base : Heap} {aI CP CS CV CU : Addr} {kI : List (Int × Value)}
set_option pp.maxSteps 400 in
theorem okWid {f : Addr} {fd : FuncData} (F : Fun K "widened" "widened" sWid f fd) (T : Txt K mg aI CP CS CV CU kI) (GR : Own P w K mg base CX0 1 "rest_of" ["prime", "basis", "vector"] [] spRestOf) (GL : Own P w K mg base CX0 1 "lead_of" ["vector"] [] spLeadOf) (GC : Own P w K mg base CX0 1 "_cleared" ["prime", "row", "lead", "added"] [] spCleared) :
    FnOk P w K mg base CX0 2 f fd ["prime", "basis", "vectors"] (spWiden K) := by
  refine F.ok scWid (fun vs H Q E h => ?_) (fun cdv A outer s H vs Q E hr h => ?_)
  · obtain ⟨p, vb, vv, ps0, rows, db, W, rfl, _⟩ := h
    rfl
  · obtain ⟨p, vb, vv, ps0, rows, db, W, rfl, hp, ab, eb, g0, va0, l100, w100, hrow, q⟩ := h
    refine ⟨_, (pss_cons (ps_set (i := 3) scWid.nd rfl (Or.inl rfl) (pv 1))
    (Evl.pss_cut (ps_for PassesOwn.never rfl (pi_seq (pv 2)) (pg_name (i := 4) scWid.nd rfl (Or.inl rfl)) (pss_cons (ps_if (pt_cmpR op_eq (pe_callB call_len_seq (by rfl) T.len PySem.boot_len (pa_cons (pv 3) pa_nil)) (pe_callB call_len_seq (by rfl) T.len PySem.boot_len (pa_cons (pv 4) pa_nil)) (nomark _)) (pss_one ps_break) pss_nil)
      (pss_cons (ps_set (i := 5) scWid.nd rfl (Or.inl rfl) (pe_own GR (hr.mono (by decide)) pass0 (pa_cons (pv 0) (pa_cons (pv 3) (pa_cons (pv 4) pa_nil)))))
      (pss_cons (ps_set (i := 6) scWid.nd rfl (Or.inr rfl) (pe_own GL (hr.mono (by decide)) pass0 (pa_cons (pv 5) pa_nil)))
      (pss_one (ps_if (pt_cmpR op_notN (pv 6) pe_non (nomark _)) (pss_cons (ps_set (i := 7) scWid.nd rfl (Or.inr rfl) (pe_ix ix_tup (pe_ix (ix_ti T.tI) (pe_glob (v := .ref aI) rfl T.gI rfl) (pv 0) (fun _ _ => rfl)) (pe_ix ix_list (pv 5) (pv 6) (fun _ _ => rfl)) (fun _ _ => rfl)))
        (Evl.pss_cut (ps_set (i := 8) scWid.nd rfl (Or.inr rfl) (pe_ifExp (pt_cmpR op_ne (pv 7) pe_int (nomark _)) (pe_lc (own := [("item", 10)]) (g := gName 10) (tt := tYes) rfl scWid.nd (pi_seq (pv 5)) (blkOk_by (N := NWid) (sc := defScope sWid) (by decide +kernel)) (fun _ _ _ _ _ => (pg_name (i := 10) scWid.nd rfl (Or.inl rfl))) (fun _ _ _ _ _ => pts_nil) (fun _ _ _ _ _ => (pe_op op_modN (pe_op op_mul (pv 10) (pv 7)) (pv 0)))) (pv 5)))
        (pss_one (ps_set (i := 3) scWid.nd rfl (Or.inl rfl) (pe_op op_cat (pe_lc (te := tTup (tCons (tVar 11) (tCons (tCall spCleared [] E0 (tCons (tVar 0) (tCons (tVar 9) (tCons (tVar 6) (tCons (tVar 8) tNil))))) tNil))) (own := [("other", 11), ("row", 9)]) (g := gOR K) (tt := tYes) rfl scWid.nd (pi_seq (pv 3)) (blkOk_by (N := NWid) (sc := defScope sWid) (by decide +kernel)) (fun _ _ _ _ _ => (pg_tup rfl (pgs_cons (pg_name (i := 11) scWid.nd rfl (Or.inl rfl)) (pgs_cons (pg_name (i := 9) scWid.nd rfl (Or.inl rfl)) pgs_nil)))) (fun _ _ _ _ _ => pts_nil) (fun _ _ _ _ _ => (pe_tup (pa_cons (pv 11) (pa_cons (pe_own GC (hr.mono (by decide)) pass0 (pa_cons (pv 0) (pa_cons (pv 9) (pa_cons (pv 6) (pa_cons (pv 8) pa_nil))))) pa_nil))))) (pe_lst (pa_cons (pe_tup (pa_cons (pv 6) (pa_cons (pv 8) pa_nil))) pa_nil))))))) pss_nil))))))
    (pss_one (ps_ret (pe_callTy call_tuple_of (by rfl) T.tuple (by decide +kernel) (pa_cons (pe_lc (te := tTup (tCons (tVar 6) (tCons (tCB (rTupOf K) (tCons (tVar 9) tNil)) tNil))) (own := [("lead", 6), ("row", 9)]) (g := gLR K) (tt := tYes) rfl scWid.nd (pi_list (pe_callB cr_sortedIT (by rfl) T.sorted (by decide +kernel) (pa_cons (pv 3) pa_nil))) (blkOk_by (N := NWid) (sc := defScope sWid) (by decide +kernel)) (fun _ _ _ _ _ => (pg_tup rfl (pgs_cons (pg_name (i := 6) scWid.nd rfl (Or.inl rfl)) (pgs_cons (pg_name (i := 9) scWid.nd rfl (Or.inl rfl)) pgs_nil)))) (fun _ _ _ _ _ => pts_nil) (fun _ _ _ _ _ => (pe_tup (pa_cons (pv 6) (pa_cons (pe_callTy call_tuple_of (by rfl) T.tuple (by decide +kernel) (pa_cons (pv 9) pa_nil)) pa_nil))))) pa_nil)))))), ?_⟩
    have pp := prime_pos hp
    obtain ⟨kv, av_, xs, ds, rfl, hv, alv, lk⟩ := va0
    have lx : xs.length = rows.length := (anyL_len alv).trans lk.len
    have gF : ∀ i, GS p W ((rows.take i).foldl (widen1 p) ps0) := fun i => gs_fold hp g0 fun v hv => (hrow v (List.mem_of_mem_take hv)).1
    refine ⟨_, rfl, ?_⟩
    refine ⟨fun σ' H' => (∃ u x4 x5 x6 x7 x8, σ' = [some (.int p), some vb, some (.ref av_), some u, x4, x5, x6, x7, x8, none, none, none] ∧ ∃ d, Any H' u d ∧ PairsD (rows.foldl (widen1 p) ps0) d) ∧ Same H H', ?_, ?_⟩
    · refine ⟨_, rfl, av_, kv, xs, rfl, hv _ (Same.refl _), ?_⟩
      refine for_it walk_seq (fun i σ' H' => (∃ u x4 x5 x6 x7 x8, σ' = [some (.int p), some vb, some (.ref av_), some u, x4, x5, x6, x7, x8, none, none, none] ∧ ∃ d, Any H' u d ∧ PairsD ((rows.take i).foldl (widen1 p) ps0) d) ∧ Same H H') ⟨⟨_, _, _, _, _, _, rfl, db, ab, eb⟩, Same.refl _⟩ (fun i σ' H' _ h => hv _ h.2) ?_ ?_
      · rintro i x σ' H2 H1 hi ⟨⟨u, x4, x5, x6, x7, x8, rfl, d, au, eu⟩, s1⟩ ⟨rfl, hx⟩
        obtain ⟨dx, hdx, ax⟩ := anyL_at alv hx
        obtain ⟨v, hvr, ed⟩ := lk.at_ i dx hdx
        have ax := ax.keep s1
        obtain ⟨lv, sm⟩ := hrow v (List.mem_of_getElem? hvr)
        have step : (rows.take (i + 1)).foldl (widen1 p) ps0 = widen1 p ((rows.take i).foldl (widen1 p) ps0) v := by
          rw [List.take_add_one, hvr, List.foldl_append] <;> rfl
        have rest : rows.foldl (widen1 p) ps0 = (rows.drop i).foldl (widen1 p) ((rows.take i).foldl (widen1 p) ps0) := by
          rw [← List.foldl_append, List.take_append_drop]
        have g := gF i
        generalize eps : (rows.take i).foldl (widen1 p) ps0 = ps at *
        have lps := g.le
        obtain ⟨k1, a1, ys, es, rfl, h1, al1, lk1⟩ := pairs_seq au eu
        obtain ⟨k2, a2, rfl, h2⟩ := row_seq ax ed
        have ly : ys.length = ps.length := (anyL_len al1).trans lk1.len
        refine ⟨_, rfl, a1, ys, rfl, (h1 (Same.refl _) K).or, _, rfl, a2, _, rfl, (h2 (Same.refl _) K).or, rfl, _, rfl, ite2 (fun z => ?_) (fun z => ?_)⟩
        · have z1 : V.int (ys.length : Int) = V.int ((v.map V.int).length : Int) := of_decide_eq_true z
          have z2 : ps.length = v.length := by
            have := V.int.inj z1
            rw [List.length_map] at this
            omega
          refine ⟨⟨_, _, _, _, _, _, rfl, d, au, ?_⟩, s1⟩
          rw [rest, full_fold (fun r hr => by rw [(hrow r (List.mem_of_mem_drop hr)).1, z2, lv])]
          exact eu
        have z2 : ¬ ps.length = v.length := fun y => z (by
          rw [List.length_map, ly, y]
          exact decide_eq_true rfl)
        have lr : (restR p ps v).length = W := rest_len lv g.len
        have rr : ∀ c, c < W → 0 ≤ cl (restR p ps v) c ∧ cl (restR p ps v) c < p := fun c hc => rest_rng (by omega) lv g.len hc
        refine ⟨_, rfl, _, rfl, _, rfl, p, _, _, ps, v, d, dx, W, rfl, hp, au, eu, ax, ed, lv, w100, by omega, g, sm, fun l H3 hl k3 el => ?_⟩
        have al_ := row_of_list el
        refine ⟨_, rfl, _, _, _, rfl, al_, .inl rfl, by omega, fun H4 k4 => ?_⟩
        cases hl2 : leadR (restR p ps v) with
        | none =>
          have w1 := widen_none z2 hl2
          refine ⟨_, rfl, rfl, _, rfl, iteF ?_⟩
          refine ⟨⟨_, _, _, _, _, _, rfl, d, (au.keep k3).keep k4, ?_⟩, (s1.trans k3).trans k4⟩
          rw [step, w1]
          exact eu
        | some ld =>
          have w1 := widen_some z2 hl2
          obtain ⟨ll1, ll2, _⟩ := lead_some hl2
          rw [lr] at ll1
          have lp := rr ld ll1
          obtain ⟨t1, t2, t3⟩ := inv_ok hp (show 0 < cl (restR p ps v) ld by omega) lp.2
          have el4 := k4 _ _ el
          refine ⟨_, rfl, rfl, _, rfl, iteT ?_⟩
          obtain ⟨ti, tl, tq⟩ := T.tV.at_ p hp
          have e1 : ((restR p ps v).map V.int)[ld]? = some (.int (cl (restR p ps v) ld)) := by
            rw [List.getElem?_map, at_cl (by omega)] <;> rfl
          have e2 : ((invL p).map V.int)[(cl (restR p ps v) ld).toNat]? = some (.int (invD p (cl (restR p ps v) ld))) := by
            obtain ⟨rr2, er, _⟩ := invL_ok p hp (cl (restR p ps v) ld).toNat (by omega) (by omega)
            unfold invD
            rw [List.getElem?_map, er] <;> rfl
          refine ⟨_, rfl, p, _, .ref ti, rfl, rfl, tl, rfl, _, rfl, _, rfl, l, _, ld, _, rfl, rfl, SqL.of el4, atI_nat e1, ti, _, _, _, rfl, rfl, tq H4, (by
            rw [show cl (restR p ps v) ld = (((cl (restR p ps v) ld).toNat : Nat) : Int) by omega]
            exact atI_nat e2), ?_⟩
          generalize hiv : invD p (cl (restR p ps v) ld) = iv at t1 t2 t3
          -- what is added
          refine ⟨fun σ' H' => (∃ va, σ' = [some (.int p), some vb, some (.ref av_), some (.ref a1), some (.ref a2), some (.ref l), some (.int ((ld : Nat) : Int)), some (.int iv), some va, none, none, none] ∧ ∃ da, Any H' va da ∧ VecD (addR p (restR p ps v) ld) da) ∧ Same H4 H', ?_, ?_⟩
          · have la : (addR p (restR p ps v) ld).length = W := by unfold addR; rw [List.length_map, lr]
            refine ⟨_, rfl, rfl, _, rfl, ite2 (fun y => ?_) (fun y => ?_)⟩
            · refine ⟨_, rfl, l, true, _, rfl, SqL.of el4, fun D hD => ?_⟩
              refine lc_it (walk_seq (k := true)) (Pv := fun j H' => Same H4 H' ∧ H' D = some (.lst (((addR p (restR p ps v) ld).take j).map V.int))) ⟨same_new hD, by rw [List.take_zero]; exact upd_same⟩ (fun j H' _ h => SqL.of (h.1 _ _ el4)) ?_ ?_
              · rintro j y H6 H5 hj ⟨s6, eD⟩ ⟨rfl, hy⟩
                rw [List.length_map, lr] at hj
                have ey := int_cl hy (by omega)
                subst ey
                refine ⟨rfl, ?_⟩
                unfold tYes
                refine Eq.mpr (if_pos (rfl : true = true)) ?_
                have rj := rr j hj
                refine ⟨_, rfl, _, rfl, _, _, rfl, rfl, .inr ⟨by omega, by omega⟩, _, rfl, _, _, rfl, rfl, (by show p ≠ 0; omega), ?_⟩
                refine ⟨_, eD, Nat.lt_of_le_of_lt (by rw [List.length_map, List.length_take]; omega : _ ≤ 100) (by decide), fun z o ez => ?_, ?_⟩
                · rw [upd_ne (ne_of_none ez hD)]
                  exact s6 _ _ ez
                · have e3 : (addR p (restR p ps v) ld)[j]? = some ((cl (restR p ps v) j * iv).fmod p) := by
                    unfold addR
                    rw [List.getElem?_map, at_cl (by omega), hiv, fmod_pos (by omega)] <;> rfl
                  rw [upd_same, List.take_add_one, e3, List.map_append] <;> rfl
              · rintro H5 ⟨s5, eD⟩
                rw [List.length_map, lr, List.take_of_length_le (by omega)] at eD
                exact ⟨⟨_, rfl, _, row_of_list eD, .inl rfl⟩, s5⟩
            · have i1 : iv = 1 := by
                have h3 : ¬ (V.int iv ≠ V.int 1) := fun x => y (by simpa using x)
                exact V.int.inj (Classical.not_not.mp h3)
              refine ⟨_, rfl, ⟨_, rfl, _, row_of_list el4, .inl ?_⟩, Same.refl _⟩
              have e : addR p (restR p ps v) ld = restR p ps v := cl_eq la lr fun c hc => by
                unfold addR
                rw [cl_map (by omega), hiv, i1, Int.mul_one]
                exact Int.emod_eq_of_lt (rr c hc).1 (rr c hc).2
              rw [e]
          rintro σ' H5 ⟨⟨va, rfl, da, aa, ea⟩, s5⟩
          have la : (addR p (restR p ps v) ld).length = W := by unfold addR; rw [List.length_map, lr]
          have ra : ∀ c, c < W → 0 ≤ cl (addR p (restR p ps v) ld) c ∧ cl (addR p (restR p ps v) ld) c < p := fun c hc => by
            unfold addR
            rw [cl_map (by omega)]
            exact ⟨Int.emod_nonneg _ (by omega), Int.emod_lt_of_pos _ (by omega)⟩
          have S5 := (k3.trans k4).trans s5
          have au5 := au.keep S5
          generalize eadd : addR p (restR p ps v) ld = added at *
          -- all the pairs
          refine ⟨_, rfl, a1, k1, ys, rfl, h1 S5 K, fun D hD => ?_⟩
          have al5 := anyL_keep S5 al1
          refine lc_mskG walk_seq (by omega) hD (mok_nil (H := H5)) (fun H' k => h1 (S5.trans k) K) (fun j d => ∃ qq e, ps[j]? = some qq ∧ d = .tuple [natD qq.1, e] ∧ VecD (lessR p added ld qq.2) e) ?_ ?_
          · rintro j y H6 hj hy s6 m6 k hk
            obtain ⟨dj, hdj, ay⟩ := anyL_at al5 hy
            obtain ⟨qq, e, hq, rfl, re⟩ := lk1.at_ hdj
            have ay6 : Any (msk [D] H6) y (.tuple [natD qq.1, e]) := (ay.keep msk_nil).keep (msk_fresh s6 hD)
            obtain ⟨t, ur, rfl, et, ar⟩ := pair_at ay6
            have mq := List.mem_of_getElem? hq
            refine ⟨t, _, rfl, SqT.of (msk_sub _ _ et), rfl, _, _, rfl, _, _, rfl, rfl, rfl, ?_⟩
            refine ⟨_, rfl, _, rfl, _, rfl, _, rfl, _, rfl, [D], p, ur, va, qq.2, added, e, da, ld, W, rfl, m6, hp, ar, re, aa.keep s6, ea, g.len qq mq, la, ll1, w100, g.rng qq mq, ra, fun u2 d2 H7 k7 au2 e2 => ?_⟩
            refine ⟨by show 2 ≤ sizeLine; decide, fun t2 ht2 => ?_⟩
            obtain ⟨c2, j2, _⟩ := layT (m6.keep k7) ht2 (ds := [natD qq.1, d2]) (.cons (.int _) (.cons au2 .nil))
            exact hk _ _ _ (k7.trans j2) ⟨qq, d2, hq, rfl, e2⟩ c2
          · intro H6 acc ds6 s6 _ eD alD ld6 gd6 aD
            have lacc := (anyL_len alD).trans ld6
            refine ⟨_, rfl, _, rfl, by show 2 ≤ sizeLine; decide, fun t3 ht3 => ⟨by show 1 ≤ sizeLine; decide, fun l3 hl3 => ?_⟩⟩
            have j3 := same_new (o := .tup [.int ((ld : Nat) : Int), va]) ht3
            have j4 := same_new (o := .lst [.ref t3]) hl3
            have et3 : (upd (upd H6 t3 (.tup [.int ((ld : Nat) : Int), va])) l3 (.lst [.ref t3])) t3 = some (.tup [.int ((ld : Nat) : Int), va]) := j4 _ _ upd_same
            refine ⟨D, l3, acc, [.ref t3], rfl, rfl, j4 _ _ (j3 _ _ eD), upd_same, Nat.le_trans (by show acc.length + 1 ≤ 200; omega) (by decide), fun l5 hl5 => ?_⟩
            have j5 := same_new (o := .lst (acc ++ [.ref t3])) hl5
            have J := (j3.trans j4).trans j5
            refine ⟨⟨_, _, _, _, _, _, rfl, .list (ds6 ++ [.tuple [natD ld, da]]), .lst upd_same (anyL_snoc (anyL_keep (msk_sub.trans J) alD) (.tup (j5 _ _ et3) (.cons (.int _) (.cons (((aa.keep s6).keep J)) .nil)))), ?_⟩, (s1.trans S5).trans (s6.trans J)⟩
            rw [step, w1]
            refine ⟨_, .inl rfl, ?_⟩
            unfold moreR
            rw [eadd]
            refine LikeP.snoc (q := (ld, added)) (likeP_of (by rw [ld6, ly, List.length_map]) fun j d hd => ?_) ea
            obtain ⟨qq, e, h3, h4, h5⟩ := gd6 j d hd
            exact ⟨(qq.1, lessR p added ld qq.2), e, by rw [List.getElem?_map, h3] <;> rfl, h4, h5⟩
      · rintro σ' H1 ⟨⟨u, x4, x5, x6, x7, x8, rfl, d, au, eu⟩, s1⟩
        rw [lx, List.take_length] at eu
        exact ⟨⟨_, _, _, _, _, _, rfl, d, au, eu⟩, s1⟩
    rintro σ' H1 ⟨⟨u, x4, x5, x6, x7, x8, rfl, d, au, eu⟩, s1⟩
    have g : GS p W (rows.foldl (widen1 p) ps0) := gs_fold hp g0 fun v hv => (hrow v hv).1
    generalize rows.foldl (widen1 p) ps0 = ps at *
    have lps := g.le
    obtain ⟨k1, a1, ys, es, rfl, h1, al1, lk1⟩ := pairs_seq au eu
    have ly : ys.length = ps.length := (anyL_len al1).trans lk1.len
    -- each of the pairs
    have at_ : ∀ (i : Nat) (x : V), ys[i]? = some x → ∃ qq t b, ps[i]? = some qq ∧ x = .ref t ∧ H1 t = some (.tup [.int ((qq.1 : Nat) : Int), .ref b]) ∧ (H1 b = some (.lst (qq.2.map V.int)) ∨ H1 b = some (.tup (qq.2.map V.int))) ∧ kyH H1 x = ((qq.1 : Nat) : Int) ∧ rfH H1 x = b ∧ prH H1 x = qq := fun i x hx => by
      obtain ⟨dj, hdj, ay⟩ := anyL_at al1 hx
      obtain ⟨qq, e, hq, rfl, re⟩ := lk1.at_ hdj
      obtain ⟨t, ur, rfl, et, ar⟩ := pair_at ay
      obtain ⟨b, rfl, hb⟩ := vec_obj ar re
      obtain ⟨r1, r2, r3⟩ := pr_of et hb
      exact ⟨qq, t, b, hq, rfl, et, hb, r1, r2, r3⟩
    have mp : ys.map (prH H1) = ps := by
      apply List.ext_getElem (by rw [List.length_map, ly])
      intro i hi hj
      rw [List.length_map] at hi
      obtain ⟨qq, t, b, hq, _, _, _, _, _, r3⟩ := at_ i _ (List.getElem?_eq_getElem hi)
      rw [List.getElem?_eq_getElem hj] at hq
      rw [List.getElem_map, r3]
      exact (Option.some.inj hq).symm
    refine ⟨_, rfl, a1, ys, kyH H1, rfH H1, rfl, (h1 (Same.refl _) K).or, by omega, fun x hx => ?_, fun x y hx hy e => ?_, fun zs p2 pm sr hp2 => ?_⟩
    · obtain ⟨i, hi⟩ := List.getElem?_of_mem hx
      obtain ⟨qq, t, b, hq, rfl, et, hb, r1, r2, r3⟩ := at_ i x hi
      exact ⟨t, rfl, by rw [r1, r2]; exact et⟩
    · obtain ⟨i, hi⟩ := List.getElem?_of_mem hx
      obtain ⟨j, hj⟩ := List.getElem?_of_mem hy
      obtain ⟨q1, t, b, hq1, rfl, et, hb, r1, r2, r3⟩ := at_ i x hi
      obtain ⟨q2, t2, b2, hq2, rfl, et2, hb2, r12, r22, r32⟩ := at_ j y hj
      rw [r1, r12] at e
      have ij := g.inj hq1 hq2 (Int.ofNat.inj e)
      subst ij
      rw [hi] at hj
      exact Option.some.inj hj
    have kS := same_new (o := .lst zs) hp2
    have ez : (upd H1 p2 (.lst zs)) p2 = some (.lst zs) := upd_same
    generalize upd H1 p2 (.lst zs) = H2 at kS ez ⊢
    have pq : (zs.map (prH H1)).Perm ps := by
      rw [← mp]
      exact pm.map _
    have lz : zs.length = ps.length := pm.length_eq.trans ly
    have asc : Asc (zs.map (prH H1)) := List.pairwise_map.mpr (sr.imp fun {x y} h => Int.toNat_le_toNat h)
    refine ⟨p2, rfl, ⟨_, SqL.of ez⟩, fun D hD => ?_⟩
    refine lc_mskG walk_list (by omega) hD (mok_nil (H := H2)) (fun H' k => SqL.of (k _ _ ez)) (fun j d => ∃ x, zs[j]? = some x ∧ d = .tuple [natD (prH H1 x).1, tupI (prH H1 x).2]) ?_ ?_
    · rintro j y H6 hj hy s6 m6 k hk
      have my : y ∈ ys := pm.mem_iff.mp (List.mem_of_getElem? hy)
      obtain ⟨i, hi⟩ := List.getElem?_of_mem my
      obtain ⟨qq, t, b, hq, rfl, et, hb, r1, r2, r3⟩ := at_ i _ hi
      have kk := kS.trans s6
      refine ⟨t, _, rfl, SqT.of (kk _ _ et), rfl, _, _, rfl, _, _, rfl, rfl, rfl, ?_⟩
      have fin : ∀ (t1 : Addr) (H7 : Hp), Same H6 H7 → Any (msk [D] H7) (.ref t1) (tupI qq.2) → 2 ≤ sizeLine ∧ ∀ t2, H7 t2 = none → k (.ref t2) (upd H7 t2 (.tup [.int ((qq.1 : Nat) : Int), .ref t1])) := fun t1 H7 k7 a7 => ⟨by decide, fun t2 ht2 => by
        obtain ⟨c2, j2, _⟩ := layT (m6.keep k7) ht2 (ds := [natD qq.1, tupI qq.2]) (.cons (.int _) (.cons a7 .nil))
        exact hk _ _ _ (k7.trans j2) ⟨_, hy, by rw [r3]⟩ c2⟩
      have bD : H2 b ≠ none := fun y => by
        rcases hb with z | z
        · rw [kS _ _ z] at y; cases y
        · rw [kS _ _ z] at y; cases y
      have nD : b ∉ [D] := fun y => bD (by rw [List.mem_singleton.mp y]; exact hD)
      rcases hb with hb | hb
      · refine ⟨_, rfl, _, rfl, b, _, rfl, .inl ⟨SqL.of (kk _ _ hb), fun t1 ht1 => ?_⟩⟩
        obtain ⟨c1, j1, _⟩ := layT m6 ht1 (ds := qq.2.map .int) (ints_anyL _)
        exact fin t1 _ j1 c1
      · refine ⟨_, rfl, _, rfl, b, _, rfl, .inr ⟨SqT.of (kk _ _ hb), ?_⟩⟩
        exact fin b _ (Same.refl _) (.tup (by rw [msk_out nD]; exact kk _ _ hb) (ints_anyL _))
    · intro H6 acc ds6 s6 _ eD alD ld6 gd6 aD
      refine ⟨D, acc, rfl, .inl ⟨SqL.of eD, fun t ht => ?_⟩⟩
      have jt := same_new (o := .tup acc) ht
      have e : ds6 = (zs.map (prH H1)).map fun q => .tuple [natD q.1, tupI q.2] := by
        apply List.ext_getElem?
        intro j
        by_cases hj : j < zs.length
        · have hj2 : j < ds6.length := by omega
          obtain ⟨x, hx, ed⟩ := gd6 j _ (List.getElem?_eq_getElem hj2)
          rw [List.getElem?_eq_getElem hj2, ed, List.getElem?_map, List.getElem?_map, hx] <;> rfl
        · rw [List.getElem?_eq_none (by omega), List.getElem?_eq_none (by rw [List.length_map, List.length_map]; omega)]
      rw [e] at alD
      exact q (zs.map (prH H1)) t _ pq asc (((s1.trans kS).trans s6).trans jt) (.tup upd_same (anyL_keep (msk_sub.trans jt) alD))
theorem okRed {f : Addr} {fd : FuncData} (F : Fun K "reduced" "reduced" sRed f fd) (GW : Own P w K mg base CX0 2 "widened" ["prime", "basis", "vectors"] [] (spWiden K)) : FnOk P w K mg base CX0 3 f fd ["prime", "vectors"] (spReduced K) := by
  refine F.ok scRed (fun vs H Q E h => ?_) (fun cdv A outer s H vs Q E hr h => ?_)
  · obtain ⟨p, vv, rows, W, rfl, _⟩ := h
    rfl
  · obtain ⟨p, vv, rows, W, rfl, hp, va0, l100, w100, hrow, q⟩ := h
    refine ⟨_, (pss_one (ps_ret (pe_own GW hr pass0 (pa_cons (pv 0) (pa_cons (pe_tup pa_nil) (pa_cons (pv 1) pa_nil)))))), ?_⟩
    refine ⟨_, rfl, by show 0 ≤ sizeLine; decide, fun t ht => ⟨_, rfl, p, .ref t, vv, [], rows, .tuple [], W, rfl, hp, .tup upd_same .nil, ⟨[], .inr rfl, .nil⟩, gs_nil, va0.keep (same_new ht), l100, w100, hrow, fun qs t2 H2 pm asc k2 a2 => q qs t2 H2 ?_ asc ((same_new ht).trans k2) a2⟩⟩
    have b := bas_fold hp (vs := rows) (bas_nil (p := p) (w := W)) fun v hv => (hrow v hv).1
    rw [List.nil_append] at b
    exact b.perm pm
end
end K6

set_option Elab.async false
set_option linter.all false
set_option maxRecDepth 100000
set_option maxHeartbeats 2000000
/-! TkJF: != where a class has an own __eq__ alone; x in an object with an own __contains__, in a try. -/
namespace Rw
open PySem PySem.Spec PyProof.Rows L2
structure NeC (K : PySem.W.Frag) (C : Addr) : Prop where
  ne : PySem.W.findIn K (.ref C) "__ne__" = some (some (.builtin "object.__ne__"))
  sub : PySem.W.mroIn K C (.type "object") = some true
section
variable {prog : Program} {w : World} {A : Around} {E : Value → Shared → Prop} {s : Shared} {K : PySem.W.Frag} {C f a b : Addr}
theorem obj_ne {oa : Obj} {od : Option Obj} {Q : Value → Shared → Prop} (hu : A.in1.units < cLine) (KX : K.In s.heap) (J : PySem.W.InstAt s.heap a oa C od) (N : NeC K C) (at_ : PySem.W.findIn K (.ref C) "__eq__" = some (some (.ref f))) (fn : PySem.W.isFn K (.ref f) = true)
    (h : wpAny (model prog w) A.in1 (call (.ref f) [.ref a, .ref b]) (fun v s' => ∃ r, v = .bool r ∧ Q (.bool (!r)) s') (fun e s' => E e s') s) : wpAny (model prog w) A (call (.builtin "object.__ne__") [.ref a, .ref b]) Q E s := by
  have iv : PySem.W.Looks (model prog w) s.heap (isInstance (.ref a) (.type "object")) true := J.type.andThen (PySem.W.looks_mroIn KX N.sub)
  refine wpAny_call (codeAny_call_builtin PySem.F.slot_object_ne.plain PySem.F.entry_object_ne (@PySem.W.check_slot (model prog w) _ _ _ "object.__ne__" "object" "__ne__" (.ref a) [.ref b] [] _ (by decide +kernel) (by decide +kernel) iv (PySem.F.args_object_ne_2 _ _) ?_))
  unfold Builtin.«object.__ne__»
  refine wpAny_bind (wpAny_of_eq (show slotArgs "__ne__" 1 ⟨[.ref a, .ref b], []⟩ = pure (.ref a, [.ref b]) by rfl) ?_)
  refine wpAny_bind (wpAny_cRoomFor hu ?_)
  refine wpAny_bind (PySem.W.ifBound_K KX J at_ fn (wpAny_mono h (fun v s' hv => ?_) fun _ _ z => z))
  obtain ⟨r, rfl, q⟩ := hv
  refine wpAny_bind (wpAny_truthy_bool ?_)
  exact wpAny_pure q
end
/-- x != y by the class's own __eq__ -/
def rNeO (C : Addr) (sp : Sp) : R2 := fun x y H Q => ∃ a b dx dy fs gs, x = .ref a ∧ y = .ref b ∧ H a = some (.ins C dx fs) ∧ H b = some (.ins C dy gs) ∧ sp [x, y] H (fun v H' => ∃ r, v = .bl r ∧ Q (.bl (!r)) H') (fun _ _ _ => False)
theorem op_neO {X : Cx} {k : Nat} {f C : Addr} {fd : FuncData} {ps : List Str} {sp : Sp} (O : EqC X.K C f) (N : NeC X.K C) (F : FnOk X.prog X.w X.K X.mg X.base CX0 k f fd ps sp) (hr : Room (k + 1) X.A) (hb : Binds X.K fd ps []) : OpR X (compareOp .NotEq) (rNeO C sp) := by
  intro pins s σ H x y v u Q I rx ry h
  obtain ⟨a, b, dx, dy, fs, gs, rfl, rfl, ea, eb, h⟩ := h
  obtain rfl : v = Value.ref a := rx
  obtain rfl : u = Value.ref b := ry
  obtain ⟨mA, J, _⟩ := ins_get I.hok ea
  obtain ⟨od, J, _⟩ := J.look
  obtain ⟨mB, J', _⟩ := ins_get I.hok eb
  obtain ⟨od', J', _⟩ := J'.look
  obtain ⟨m, hF⟩ := I.fr
  have KX : X.K.In s.heap := I.kIn
  show wpAny (model X.prog X.w) X.A (richCompare .NotEq (.ref a) (.ref b)) (EP X pins σ Q) X.xe s
  have one : wpAny (model X.prog X.w) X.A (tryCompare (.ref a) "__ne__" (.ref b)) (fun r s' => ∃ v, r = some v ∧ EP X pins σ Q v s') X.xe s := by
    unfold tryCompare
    refine wpAny_bind (NtL.csib (J.type.andThen (PySem.W.looks_findIn KX N.ne)) (PySem.F.slot_object_ne.bind _) ?_)
    show wpAny _ _ (call (.builtin "object.__ne__") [.ref a, .ref b]) _ _ s
    refine obj_ne hr.in1.units0 KX J N O.at_ O.fn ?_
    have hl := F.len _ _ _ _ h
    refine wpAny_call (codeAny_mono (F.run X.A.in1 X.stack s H ⟨[.ref a, .ref b], []⟩ [.ref a, .ref b] [.ref a, .ref b] _ _ hr.in1 I.env0.in1 (by
      have := hb s [.ref a, .ref b] I.kIn (by simpa using hl)
      simpa using this) (.cons rfl (.cons rfl .nil)) h) fun r s' hq => ?_)
    cases r with
    | error e => exact False.elim hq
    | ok fl =>
      cases fl with
      | ret w' =>
        obtain ⟨z, H', I', rz, r, ez, q⟩ := I.after hq
        subst ez
        cases rz
        exact ⟨r, rfl, wpAny_pure ⟨_, rfl, .bl (!r), H', I', rfl, q⟩⟩
      | next => exact False.elim hq
      | brk => exact False.elim hq
      | cont => exact False.elim hq
  unfold richCompare
  simp only [oneThing_ref]
  refine wpAny_holding (wpAny_bind (wpAny_cRoomFor hr.units0 ?_))
  refine wpAny_bind (J.type.here (wpAny_bind (J'.type.here ?_)))
  rw [if_neg (by simp)]
  refine wpAny_bind (wpAny_pure ?_)
  simp only [Bool.false_eq_true, if_false]
  refine wpAny_bind (wpAny_mono one (fun r s' z => ?_) fun _ _ e => e)
  obtain ⟨v, rfl, hq⟩ := z
  exact wpAny_pure hq
/-- x in an object with an own __contains__, in a try's body -/
structure InC (K : PySem.W.Frag) (C f : Addr) : Prop where
  at_ : PySem.W.findIn K (.ref C) "__contains__" = some (some (.ref f))
  fn : PySem.W.isFn K (.ref f) = true
def tInS (C : Addr) (sp : Sp) (W : WX) (ta tb : TE) : TE := fun σ H Q => ta σ H fun v H1 => tb σ H1 fun u H2 => ∃ a dx fs, u = .ref a ∧ H2 a = some (.ins C dx fs) ∧ sp [.ref a, v] H2 (fun r H' => ∃ b, r = .bl b ∧ Q (.bl b) H') (fun cls d H' => W cls d σ H')
section
variable {X : Cx} {CX : CXT} {k : Nat} {f C : Addr} {fd : FuncData} {ps : List Str} {sp : Sp} {e1 e2 : Expr} {ta tb : TE} {pos : Pos}
theorem pe_inS {W : WX} (O : InC X.K C f) (F : FnOk X.prog X.w X.K X.mg X.base CX k f fd ps sp) (hr : Room k X.A) (hb : Binds X.K fd ps []) (hx : ∀ σ, PassesAt CX X σ (fun cls d H' => W cls d σ H')) (ha : PE X e1 ta) (hb2 : PE X e2 tb) (hm : behindInMarks .In e2 = false) : PE X (.Compare e1 [.In] [e2] pos) (tInS C sp W ta tb) := by
  refine ⟨fun pins s σ H Q I h => ?_⟩
  refine wpAny_Compare1 (binT ha hb2 I h fun v u s2 x y H2 I2 rx ry q => ?_) hm
  obtain ⟨a, dx, fs, rfl, ea, q⟩ := q
  cases ry
  obtain ⟨mA, J, _⟩ := ins_get I2.hok ea
  obtain ⟨od, J, _⟩ := J.look
  obtain ⟨m, hF⟩ := I2.fr
  refine PySem.W.in_K hF I2.ok.mod.kin J O.at_ O.fn ?_
  refine wpAny_mono (run_ownS (us := [.ref a, v]) (vs := [.ref a, x]) (ds := []) (dvs := []) F hr hb .nil (hx σ) I2 (.cons rfl (.cons rx .nil)) q) (fun r s' z => ?_) fun _ _ z => z
  obtain ⟨r2, H', I', rr, b, e, q2⟩ := z
  subst e
  cases rr
  exact wpAny_truthy_bool ⟨.bl b, H', I', rfl, q2⟩
end
/-! ### spaces -/
def SpAt (C : Addr) (H : Hp) (a : Addr) (p : Int) (w : Nat) (qs : List PR) : Prop := ∃ dx t, H a = some (.ins C dx [("_prime", .int p), ("_length", .int ((w : Nat) : Int)), ("_basis", .ref t)]) ∧ Any H (.ref t) (pairsT qs)
theorem SpAt.keep {C a : Addr} {H H' : Hp} {p : Int} {w : Nat} {qs : List PR} (h : SpAt C H a p w qs) (k : Same H H') : SpAt C H' a p w qs := by
  obtain ⟨dx, t, h1, h2⟩ := h
  exact ⟨dx, t, k _ _ h1, h2.keep k⟩
structure GoodSp (p : Int) (w : Nat) (qs : List PR) : Prop where
  hp : p ∈ primesL
  hw : w ≤ 12
  g : GS p w qs
  s : Asc qs
theorem pairsT_D (qs : List PR) : PairsD qs (pairsT qs) := ⟨_, .inr rfl, likeP_of (by rw [List.length_map]) fun i d h => by
  rw [List.getElem?_map] at h
  cases e : qs[i]? with
  | none => rw [e] at h; cases h
  | some q => rw [e] at h; cases h; exact ⟨q, _, rfl, rfl, .inr rfl⟩⟩
/-- what is handed in for vectors: data, or the written () -/
def VecsIn (K : PySem.W.Frag) (H : Hp) (v : V) (rows : List (List Int)) : Prop := (∃ d, Any H v d ∧ VecsD rows d) ∨ (rows = [] ∧ ∃ a o, v = .ref a ∧ K.lookup a = some o ∧ o.cls = .type "tuple" ∧ ∀ H', SqT K H' a [])
theorem VecsIn.at_ {K : PySem.W.Frag} {H : Hp} {v : V} {rows : List (List Int)} (h : VecsIn K H v rows) : VecsAt K H v rows := by
  rcases h with ⟨d, a, e⟩ | ⟨rfl, a, o, rfl, _, _, h⟩
  · exact vecs_at a e
  · exact vecs_none h
theorem VecsIn.keep {K : PySem.W.Frag} {H H1 : Hp} {v : V} {rows : List (List Int)} (h : VecsIn K H v rows) (k : Same H H1) : VecsIn K H1 v rows := by
  rcases h with ⟨d, a, e⟩ | h
  · exact .inl ⟨d, a.keep k, e⟩
  · exact .inr h
theorem VecsIn.keeps {K : PySem.W.Frag} {H H1 : Hp} {v : V} {rows : List (List Int)} (h : VecsIn K H v rows) (k : Keeps H H1) : VecsIn K H1 v rows := by
  rcases h with ⟨d, a, e⟩ | h
  · exact .inl ⟨d, a.keeps k, e⟩
  · exact .inr h
theorem VecsIn.ty {K : PySem.W.Frag} {H : Hp} {v : V} {rows : List (List Int)} (h : VecsIn K H v rows) : ∃ n, (n = "list" ∨ n = "tuple") ∧ TyX K H v (.type n) := by
  rcases h with ⟨d, a, ds, z, _⟩ | ⟨_, a, o, rfl, e, c, _⟩
  · rcases z with z | z <;> subst z
    · exact ⟨_, .inl rfl, any_ty a⟩
    · exact ⟨_, .inr rfl, any_ty a⟩
  · exact ⟨_, .inr rfl, .kTuple e c⟩
def spListV (K : PySem.W.Frag) : Sp := fun vs H Q _ => ∃ v rows, vs = [v] ∧ VecsIn K H v rows ∧ ∀ H', Same H H' → Q (.bl true) H'
def spCSize12 (CS : Addr) : Sp := fun vs H Q E => ∃ v d, vs = [v] ∧ Any H v d ∧ (inB d (.int 0) (.int 12) = true → Q .non H) ∧ (inB d (.int 0) (.int 12) = false → Thrown CS v H E)
def spCVec (CV : Addr) : Sp := fun vs H Q E => ∃ v d n, vs = [v, .int n] ∧ Any H v d ∧ (itemsD d).length ≤ 1000 ∧ (isVecD n d = true → ∀ H', Same H H' → Q .non H') ∧ (isVecD n d = false → Thrown CV v H E)
def spRedV (K : PySem.W.Frag) : Sp := fun vs H Q _ => ∃ p vv rows w, vs = [.int p, .int ((w : Nat) : Int), vv] ∧ p ∈ primesL ∧ VecsIn K H vv rows ∧ rows.length ≤ 100 ∧ w ≤ 12 ∧ (∀ r, r ∈ rows → r.length = w ∧ SmV r) ∧
  ∀ qs t H', Bas p w rows qs → Asc qs → Same H H' → Any H' (.ref t) (pairsT qs) → Q (.ref t) H'
def spIniSp (K : PySem.W.Frag) (C : Addr) : Sp := fun vs H Q _ => ∃ a dx p w vv rows, vs = [.ref a, .int p, .int ((w : Nat) : Int), vv] ∧ H a = some (.ins C dx []) ∧ p ∈ primesL ∧ w ≤ 12 ∧ VecsIn K H vv rows ∧ rows.length ≤ 100 ∧ (∀ r, r ∈ rows → r.length = w ∧ SmV r) ∧
  ∀ qs H', Bas p w rows qs → Asc qs → Grow a H H' → SpAt C H' a p w qs → Q .non H'
def spCAlike (C CU : Addr) : Sp := fun vs H Q E => ∃ a b p w qs q v rs, vs = [.ref a, .ref b] ∧ SpAt C H a p w qs ∧ SpAt C H b q v rs ∧ ((p = q ∧ w = v) → Q .non H) ∧ (¬(p = q ∧ w = v) → ThrownN CU H E)
def spEqSp (C : Addr) : Sp := fun vs H Q _ => ∃ a b p w qs q v rs, vs = [.ref a, .ref b] ∧ SpAt C H a p w qs ∧ SpAt C H b q v rs ∧ GoodSp p w qs ∧ GoodSp q v rs ∧ Q (.bl (decide (p = q) && (decide (w = v) && decide (qs = rs)))) H
def spRestSp (C CV : Addr) : Sp := fun vs H Q E => ∃ a v p w qs d, vs = [.ref a, v] ∧ SpAt C H a p w qs ∧ GoodSp p w qs ∧ Any H v d ∧ (itemsD d).length ≤ 1000 ∧ (isVecD ((w : Nat) : Int) d = false → Thrown CV v H E) ∧
  ∀ r, r.length = w → VecD r d → SmV r ∧ ∀ t H', H t = none → Same H H' → Any H' (.ref t) (tupI (restR p qs r)) → Q (.ref t) H'
def spInSp (C CV : Addr) : Sp := fun vs H Q E => ∃ a v p w qs d, vs = [.ref a, v] ∧ SpAt C H a p w qs ∧ GoodSp p w qs ∧ Any H v d ∧ (itemsD d).length ≤ 1000 ∧ (isVecD ((w : Nat) : Int) d = false → Thrown CV v H E) ∧
  ∀ r, r.length = w → VecD r d → SmV r ∧ ∀ H', Same H H' → Q (.bl (leadR (restR p qs r)).isNone) H'
def liesB (p : Int) (qs rs : List PR) : Bool := qs.all fun q => (leadR (restR p rs q.2)).isNone
def spLies (C CU : Addr) : Sp := fun vs H Q E => ∃ a b p w qs q v rs, vs = [.ref a, .ref b] ∧ SpAt C H a p w qs ∧ SpAt C H b q v rs ∧ GoodSp p w qs ∧ GoodSp q v rs ∧ (¬(p = q ∧ w = v) → ThrownN CU H E) ∧ (p = q → w = v → ∀ H', Same H H' → Q (.bl (liesB p qs rs)) H')
theorem vec_rows {n : Nat} {d : PyData} (h : isVecD ((n : Nat) : Int) d = true) : ∃ r : List Int, r.length = n ∧ VecD r d := by
  unfold isVecD at h
  rw [Bool.and_eq_true, Bool.and_eq_true] at h
  obtain ⟨h1, h2, h3⟩ := h
  obtain ⟨ns, e⟩ := vec_ints h3
  have l := of_decide_eq_true h2
  rw [e, List.length_map] at l
  refine ⟨ns, Int.ofNat.inj l, ?_⟩
  cases d with
  | list ds => exact .inl (congrArg PyData.list e)
  | tuple ds => exact .inr (congrArg PyData.tuple e)
  | _ => cases h1
theorem vec_is {r : List Int} {d : PyData} (e : VecD r d) : isVecD ((r.length : Nat) : Int) d = true ∧ (itemsD d).length = r.length := by
  have al : (r.map PyData.int).all isIntD = true := List.all_eq_true.mpr fun x hx => by
    obtain ⟨n, _, rfl⟩ := List.mem_map.mp hx
    rfl
  rcases e with z | z <;> subst z
  · refine ⟨?_, List.length_map _⟩
    show (true && (decide (((r.map PyData.int).length : Int) = _) && (r.map PyData.int).all isIntD)) = true
    rw [al, List.length_map, decide_eq_true rfl] <;> rfl
  · refine ⟨?_, List.length_map _⟩
    show (true && (decide (((r.map PyData.int).length : Int) = _) && (r.map PyData.int).all isIntD)) = true
    rw [al, List.length_map, decide_eq_true rfl] <;> rfl
theorem vec_one {r s : List Int} {d : PyData} (h : VecD r d) (k : VecD s d) : r = s := by
  have e : itemsD d = r.map .int ∧ itemsD d = s.map .int := by
    constructor
    · rcases h with z | z <;> rw [z] <;> rfl
    · rcases k with z | z <;> rw [z] <;> rfl
  have h2 := e.1.symm.trans e.2
  exact (List.map_inj_right (f := PyData.int) fun x y z => PyData.int.inj z).mp h2
end Rw

set_option Elab.async false
set_option linter.all false
set_option maxRecDepth 100000
set_option maxHeartbeats 8000000
/-! K6D: spaces: made, asked, held against one another. -/
namespace Rw
open PySem PySem.Spec PyProof.Rows L2
theorem pairsT_items (qs : List PR) : (pairsT qs).canLay0 = true ∧ (pairsT qs).depth ≤ 64 := by
  constructor
  · refine lay_tup fun d hd => ?_
    obtain ⟨q, _, rfl⟩ := List.mem_map.mp hd
    refine lay_tup fun e he => ?_
    rcases List.mem_cons.mp he with z | z
    · subst z
      first | rfl | simp only [natD, PyData.canLay0]
    · rw [List.mem_singleton.mp z]
      exact lay_tupI _
  · have : PyData.depthAll (qs.map fun q => PyData.tuple [natD q.1, tupI q.2]) ≤ 30 := dep_le fun d hd => by
      obtain ⟨q, _, rfl⟩ := List.mem_map.mp hd
      have h2 : PyData.depthAll [natD q.1, tupI q.2] ≤ 20 := dep_le fun e he => by
        rcases List.mem_cons.mp he with z | z
        · subst z
          have := dep_int ((q.1 : Nat) : Int)
          show (PyData.int _).depth ≤ 20
          omega
        · rw [List.mem_singleton.mp z]
          have h3 : PyData.depthAll (q.2.map PyData.int) ≤ 3 := dep_le fun x hx => by
            obtain ⟨n, _, rfl⟩ := List.mem_map.mp hx
            exact dep_int _
          unfold tupI
          simp only [PyData.depth]
          omega
      simp only [PyData.depth]
      omega
    unfold pairsT
    simp only [PyData.depth]
    omega
theorem eqv_pairs (qs rs : List PR) : PyData.eqv (pairsT qs) (pairsT rs) = decide (qs = rs) := by
  unfold pairsT
  rw [PyData.eqv]
  refine eqvAll_map (fun q : PR => PyData.tuple [natD q.1, tupI q.2]) (fun a b => ?_) qs rs
  rw [PyData.eqv, PyData.eqvAll, PyData.eqvAll, PyData.eqvAll, eqv_nat, eqv_tupI, Bool.and_true]
  by_cases h1 : a.1 = b.1
  · by_cases h2 : a.2 = b.2
    · rw [decide_eq_true h1, decide_eq_true h2, decide_eq_true (Prod.ext h1 h2)] <;> rfl
    · rw [decide_eq_false h2, Bool.and_false, decide_eq_false (fun z => h2 (by rw [z]))]
  · rw [decide_eq_false h1, Bool.false_and, decide_eq_false (fun z => h1 (by rw [z]))]
theorem dec_intS {a b : Int} : decide (V.int a = V.int b) = decide (a = b) := by
  by_cases h : a = b
  · rw [h, decide_eq_true rfl, decide_eq_true rfl]
  · rw [decide_eq_false h, decide_eq_false (fun z => h (V.int.inj z))]
end Rw
namespace K6
open PySem PySem.Spec PyProof.Rows L2 Rw
abbrev sSize : Stmt := top 30
theorem scSize : FnScope ["size"] ["size"] (defScope sSize) := ⟨rfl, rfl, rfl, by decide +kernel, rfl, by decide +kernel, by decide +kernel⟩
abbrev sCVec : Stmt := top 31
theorem scCVec : FnScope ["vector", "length"] ["vector", "length"] (defScope sCVec) := ⟨rfl, rfl, rfl, by decide +kernel, rfl, by decide +kernel, by decide +kernel⟩
abbrev sAlike : Stmt := top 32
theorem scAlike : FnScope ["one", "other"] ["one", "other"] (defScope sAlike) := ⟨rfl, rfl, rfl, by decide +kernel, rfl, by decide +kernel, by decide +kernel⟩
abbrev sRedV : Stmt := top 34
abbrev NRedV : List Str := ["prime", "length", "vectors", "vector"]
theorem scRedV : FnScope NRedV ["prime", "length", "vectors"] (defScope sRedV) := ⟨rfl, rfl, rfl, by decide +kernel, rfl, by decide +kernel, by decide +kernel⟩
abbrev sIniSp : Stmt := inClass (top 29) 0
theorem scIniSp : FnScope ["self", "prime", "length", "vectors"] ["self", "prime", "length", "vectors"] (defScope sIniSp) := ⟨rfl, rfl, rfl, by decide +kernel, rfl, by decide +kernel, by decide +kernel⟩
abbrev sEqSp : Stmt := inClass (top 29) 7
theorem scEqSp : FnScope ["self", "other"] ["self", "other"] (defScope sEqSp) := ⟨rfl, rfl, rfl, by decide +kernel, rfl, by decide +kernel, by decide +kernel⟩
abbrev sInSp : Stmt := inClass (top 29) 8
theorem scInSp : FnScope ["self", "x"] ["self", "x"] (defScope sInSp) := ⟨rfl, rfl, rfl, by decide +kernel, rfl, by decide +kernel, by decide +kernel⟩
abbrev sRestSp : Stmt := inClass (top 29) 9
theorem scRestSp : FnScope ["self", "vector"] ["self", "vector"] (defScope sRestSp) := ⟨rfl, rfl, rfl, by decide +kernel, rfl, by decide +kernel, by decide +kernel⟩
abbrev sLies : Stmt := inClass (top 29) 10
abbrev NLies : List Str := ["self", "other", "_", "row"]
theorem scLies : FnScope NLies ["self", "other"] (defScope sLies) := ⟨rfl, rfl, rfl, by decide +kernel, rfl, by decide +kernel, by decide +kernel⟩
abbrev gUR (K : PySem.W.Frag) : TG := gTup K 2 (gCons (gName 2) (gCons (gName 3) gNil))
/-- the class of spaces -/
structure SpCls (K : PySem.W.Frag) (mg : Str → Option Value) (C CR : Addr) : Prop where
  cl : Cls K C
  n1 : NoAttr K C "_prime"
  n2 : NoAttr K C "_length"
  n3 : NoAttr K C "_basis"
  gC : mg "Space" = some (.ref C)
  isC : C8.InsC K C
  gR : mg "Reduced" = some (.ref CR)
  rl : PySem.W.kitOne K (.type "list") (.ref CR) = some false
  rt : PySem.W.kitOne K (.type "tuple") (.ref CR) = some false
section
variable {P : Program} {w : World} {K : PySem.W.Frag} {mg : Str → Option Value} {base : Heap} {aI CP CS CV CU C CR : Addr} {kI : List (Int × Value)}
theorem okListV {f : Addr} {fd : FuncData} (F : Fun K "is_list" "is_list" sList f fd) (T : Txt K mg aI CP CS CV CU kI) : FnOk P w K mg base CX0 1 f fd ["value"] (spListV K) := by
  refine F.ok scList (fun vs H Q E h => ?_) (fun cdv A outer s H vs Q E hr h => ?_)
  · obtain ⟨v, rows, rfl, _⟩ := h
    rfl
  · obtain ⟨v, rows, rfl, vi, q⟩ := h
    refine ⟨_, (pss_one (ps_ret (pe_callB call_isiT (by rfl) T.isi (by decide +kernel) (pa_cons (pv 0) (pa_cons (pe_tup (pa_cons (pe_bltn (v := .ty "list") rfl T.list (by decide +kernel) rfl) (pa_cons (pe_bltn (v := .ty "tuple") rfl T.tuple (by decide +kernel) rfl) pa_nil))) pa_nil))))), ?_⟩
    refine ⟨v, rfl, (by show 2 ≤ sizeLine; decide), fun tp htp => ?_⟩
    obtain ⟨n, hn, ty⟩ := (vi.keep (same_new (o := .tup [.ty "list", .ty "tuple"]) htp)).ty
    have kt : PySem.W.kitAny K (.type n) [.type "list", .type "tuple"] = some true := by
      rcases hn with z | z <;> subst z
      · exact kit_seq (.list [])
      · exact kit_seq (.tuple [])
    exact ⟨v, tp, _, _, _, _, rfl, upd_same, .cons (.ty _) (.cons (.ty _) .nil), ty, kt, q _ (same_new htp)⟩
theorem okSize {f : Addr} {fd : FuncData} (F : Fun K "_check_size" "_check_size" sSize f fd) (T : Txt K mg aI CP CS CV CU kI) (GI : Own P w K mg base CX0 2 "is_integer" ["value", "low", "high"] [] spInt) : FnOk P w K mg base (L2.CX P w) 4 f fd ["size"] (spCSize12 CS) := by
  obtain ⟨tM, gM⟩ := T.gM
  refine F.okX scSize (fun vs H Q E h => ?_) (fun cdv A outer s H vs Q E hr h => ?_)
  · obtain ⟨v, d, rfl, _⟩ := h
    rfl
  · obtain ⟨v, d, rfl, an, qt, qf⟩ := h
    refine ⟨_, (pss_one (ps_if (pt_not (pt_val (pe_own GI (hr.mono (by decide)) pass0 (pa_cons (pv 0) (pa_cons pe_int (pa_cons (pe_glob (v := .int 12) rfl gM ⟨_, rfl⟩) pa_nil)))))) (pss_one (ps_throw T.eS rfl (hr.mono (by decide)) (takes_of rfl rfl rfl rfl) (pv 0))) pss_nil)), ?_⟩
    refine ⟨_, rfl, v, _, _, d, .int 0, .int 12, rfl, an, .int _, .int _, _, rfl, ?_⟩
    cases e : inB d (.int 0) (.int 12) with
    | true => exact iteF (qt e)
    | false => exact iteT ⟨_, rfl, thrown_go (qf e)⟩
theorem okCVec {f : Addr} {fd : FuncData} (F : Fun K "_check_vector" "_check_vector" sCVec f fd) (T : Txt K mg aI CP CS CV CU kI) (GV : Own P w K mg base CX0 2 "is_vector" ["value", "length"] [] spVec) : FnOk P w K mg base (L2.CX P w) 4 f fd ["vector", "length"] (spCVec CV) := by
  refine F.okX scCVec (fun vs H Q E h => ?_) (fun cdv A outer s H vs Q E hr h => ?_)
  · obtain ⟨v, d, n, rfl, _⟩ := h
    rfl
  · obtain ⟨v, d, n, rfl, an, l, qt, qf⟩ := h
    refine ⟨_, (pss_one (ps_if (pt_not (pt_val (pe_own GV (hr.mono (by decide)) pass0 (pa_cons (pv 0) (pa_cons (pv 1) pa_nil))))) (pss_one (ps_throw T.eV rfl (hr.mono (by decide)) (takes_of rfl rfl rfl rfl) (pv 0))) pss_nil)), ?_⟩
    refine ⟨_, rfl, _, rfl, v, d, n, rfl, an, l, fun H1 k1 => ⟨_, rfl, ?_⟩⟩
    cases e : isVecD n d with
    | true => exact iteF (qt e _ k1)
    | false => exact iteT ⟨_, rfl, thrown_go ((qf e).mono k1)⟩
theorem okRedV {f : Addr} {fd : FuncData} (F : Fun K "_reduced" "_reduced" sRedV f fd) (GL : Own P w K mg base CX0 1 "is_list" ["value"] [] (spListV K)) (GC : Own P w K mg base (L2.CX P w) 4 "_check_vector" ["vector", "length"] [] (spCVec CV)) (GR : Own P w K mg base CX0 3 "reduced" ["prime", "vectors"] [] (spReduced K)) :
    FnOk P w K mg base (L2.CX P w) 5 f fd ["prime", "length", "vectors"] (spRedV K) := by
  refine F.okX scRedV (fun vs H Q E h => ?_) (fun cdv A outer s H vs Q E hr h => ?_)
  · obtain ⟨p, vv, rows, W, rfl, _⟩ := h
    rfl
  · obtain ⟨p, vv, rows, W, rfl, hp, vi, l100, w12, hrow, q⟩ := h
    refine ⟨_, (pss_cons (ps_if (pt_not (pt_val (pe_own GL (hr.mono (by decide)) pass0 (pa_cons (pv 2) pa_nil)))) (pss_one ps_never) pss_nil)
      (pss_cons (ps_for (passes_of rfl) rfl (pi_seq (pv 2)) (pg_name (i := 3) scRedV.nd rfl (Or.inl rfl)) (pss_one (ps_expr (pe_own (E := E) GC (hr.mono (by decide)) (passes_call (takes_of rfl rfl rfl rfl) (fun _ _ _ _ z => z)) (pa_cons (pv 3) (pa_cons (pv 1) pa_nil))))))
      (pss_one (ps_ret (pe_own GR (hr.mono (by decide)) pass0 (pa_cons (pv 0) (pa_cons (pv 2) pa_nil))))))), ?_⟩
    refine ⟨_, rfl, vv, rows, rfl, vi, fun H1 k1 => ⟨_, rfl, iteF ?_⟩⟩
    obtain ⟨k, a, xs, ds, rfl, hs, al, lk⟩ := (vi.keep k1).at_
    refine ⟨_, rfl, a, k, xs, rfl, hs _ (Same.refl _), ?_⟩
    refine for_it walk_seq (fun i σ' H' => (∃ x3, σ' = [some (.int p), some (.int ((W : Nat) : Int)), some (.ref a), x3]) ∧ Same H1 H') ⟨⟨_, rfl⟩, Same.refl _⟩ (fun i σ' H' _ h => hs _ h.2) ?_ ?_
    · rintro i x σ' H2 H3 hi ⟨⟨x3, rfl⟩, s2⟩ ⟨rfl, hx⟩
      obtain ⟨dx, hdx, ax⟩ := anyL_at al hx
      obtain ⟨r, hr2, ed⟩ := lk.at_ i dx hdx
      obtain ⟨lr, sm⟩ := hrow r (List.mem_of_getElem? hr2)
      obtain ⟨v1, v2⟩ := vec_is ed
      rw [lr] at v1 v2
      exact ⟨_, rfl, _, rfl, x, dx, _, rfl, ax.keep s2, by omega, fun _ H4 k4 => ⟨⟨_, rfl⟩, s2.trans k4⟩, fun z => (by rw [v1] at z; cases z)⟩
    · rintro σ' H2 ⟨⟨x3, rfl⟩, s2⟩
      exact ⟨_, rfl, _, rfl, p, _, rows, W, rfl, hp, ((vi.keep k1).keep s2).at_, l100, by omega, hrow, fun qs t H3 b asc k3 a3 => q qs t H3 b asc ((k1.trans s2).trans k3) a3⟩
theorem okIniSp {t0 f : Addr} {fd : FuncData} (F : FunD K "__init__" "Space.__init__" (defArgs sIniSp) (defBody sIniSp) (defScope sIniSp) [.ref t0] [] f fd) (T : Txt K mg aI CP CS CV CU kI) (R : SpCls K mg C CR) (GP : Own P w K mg base (L2.CX P w) 4 "check_prime" ["prime"] [] (spCheck CP)) (GS : Own P w K mg base (L2.CX P w) 4 "_check_size" ["size"] [] (spCSize12 CS))
    (GR : Own P w K mg base (L2.CX P w) 5 "_reduced" ["prime", "length", "vectors"] [] (spRedV K)) : FnOk P w K mg base (L2.CX P w) 6 f fd ["self", "prime", "length", "vectors"] (spIniSp K C) := by
  refine F.ok scIniSp (fun vs H Q E h => ?_) (fun cdv A outer s H vs Q E hr h => ?_)
  · obtain ⟨a, dx, p, W, vv, rows, rfl, _⟩ := h
    rfl
  · obtain ⟨a, dx, p, W, vv, rows, rfl, ea, hp, w12, vi, l100, hrow, q⟩ := h
    refine ⟨_, (pss_cons (ps_expr (pe_own (E := E) GP (hr.mono (by decide)) (passes_call (takes_of rfl rfl rfl rfl) (fun _ _ _ _ z => z)) (pa_cons (pv 1) pa_nil)))
      (pss_cons (ps_expr (pe_own (E := E) GS (hr.mono (by decide)) (passes_call (takes_of rfl rfl rfl rfl) (fun _ _ _ _ z => z)) (pa_cons (pv 2) pa_nil)))
      (pss_cons (ps_fld (pv 0) (pv 1) rfl)
      (pss_cons (ps_fld (pv 0) (pv 2) rfl)
      (pss_one (ps_fld (pv 0) (pe_ifExp (pt_val (pe_callB call_isi (by rfl) T.isi (by decide +kernel) (pa_cons (pv 3) (pa_cons (pe_glob (v := .ref CR) rfl R.gR rfl) pa_nil)))) (pe_fld (pv 3) rfl) (pe_own (E := E) GR (hr.mono (by decide)) (passes_call (takes_of rfl rfl rfl rfl) (fun _ _ _ _ z => z)) (pa_cons (pv 1) (pa_cons (pv 2) (pa_cons (pv 3) pa_nil))))) rfl)))))), ?_⟩
    refine ⟨_, rfl, .int p, .int p, rfl, .int _, fun _ => ?_, fun z => (by rw [show isPr (.int p) = true from decide_eq_true hp] at z; cases z)⟩
    refine ⟨_, rfl, _, .int ((W : Nat) : Int), rfl, .int _, fun _ => ?_, fun z => (by rw [inB_yes (by omega) (by omega)] at z; cases z)⟩
    refine ⟨_, rfl, _, rfl, a, C, dx, [], rfl, ea, R.cl, R.n1, by decide, ?_⟩
    refine ⟨_, rfl, _, rfl, a, C, dx, _, rfl, upd_same, R.cl, R.n2, (by show 1 < 1000; decide), ?_⟩
    have g6 : Grow a H (upd (upd H a (.ins C dx (putF "_prime" (.int p) []))) a (.ins C dx (putF "_length" (.int ((W : Nat) : Int)) (putF "_prime" (.int p) [])))) := Grow.put.trans Grow.put
    have e6 : (upd (upd H a (.ins C dx (putF "_prime" (.int p) []))) a (.ins C dx (putF "_length" (.int ((W : Nat) : Int)) (putF "_prime" (.int p) [])))) a = some (.ins C dx [("_prime", .int p), ("_length", .int ((W : Nat) : Int))]) := upd_same
    generalize upd (upd H a (.ins C dx (putF "_prime" (.int p) []))) a (.ins C dx (putF "_length" (.int ((W : Nat) : Int)) (putF "_prime" (.int p) []))) = H6 at g6 e6 ⊢
    have vi6 := vi.keeps (keeps_ins ea g6)
    obtain ⟨n, hn, ty⟩ := vi6.ty
    have kt : PySem.W.kitOne K (.type n) (.ref CR) = some false := by
      rcases hn with z | z <;> subst z
      · exact R.rl
      · exact R.rt
    refine ⟨_, rfl, vv, .ref CR, _, _, _, rfl, .own CR, ty, kt, _, rfl, iteF ?_⟩
    refine ⟨_, rfl, _, rfl, _, rfl, p, vv, rows, W, rfl, hp, vi6, l100, w12, hrow, fun qs t H7 b asc k7 a7 => ?_⟩
    have e7 := k7 _ _ e6
    refine ⟨_, rfl, a, C, dx, _, rfl, e7, R.cl, R.n3, (by show 2 < 1000; decide), ?_⟩
    have g8 : Grow a H7 (upd H7 a (.ins C dx (putF "_basis" (.ref t) [("_prime", .int p), ("_length", .int ((W : Nat) : Int))]))) := Grow.put
    exact q qs _ b asc ((g6.trans (Grow.of k7)).trans g8) ⟨dx, t, upd_same, a7.keeps (keeps_ins e7 g8)⟩
abbrev sGetP : Stmt := inClass (top 29) 3
abbrev sGetL : Stmt := inClass (top 29) 4
theorem scGetP : FnScope ["self"] ["self"] (defScope sGetP) := ⟨rfl, rfl, rfl, by decide +kernel, rfl, by decide +kernel, by decide +kernel⟩
theorem scGetL : FnScope ["self"] ["self"] (defScope sGetL) := ⟨rfl, rfl, rfl, by decide +kernel, rfl, by decide +kernel, by decide +kernel⟩
def spGetP (C : Addr) : Sp := fun vs H Q _ => ∃ a p W qs, vs = [.ref a] ∧ SpAt C H a p W qs ∧ Q (.int p) H
def spGetL (C : Addr) : Sp := fun vs H Q _ => ∃ a p W qs, vs = [.ref a] ∧ SpAt C H a p W qs ∧ Q (.int ((W : Nat) : Int)) H
theorem okGetP {f : Addr} {fd : FuncData} (F : Fun K "prime" "Space.prime" sGetP f fd) (R : SpCls K mg C CR) : FnOk P w K mg base CX0 1 f fd ["self"] (spGetP C) := by
  refine F.ok scGetP (fun vs H Q E h => ?_) (fun cdv A outer s H vs Q E hr h => ?_)
  · obtain ⟨a, p, W, qs, rfl, _⟩ := h
    rfl
  · obtain ⟨a, p, W, qs, rfl, ⟨dx, t, ea, _⟩, q⟩ := h
    exact ⟨_, (pss_one (ps_ret (pe_fld (pv 0) rfl))), _, rfl, a, C, dx, _, _, rfl, ea, R.cl, R.n1, rfl, q⟩
theorem okGetL {f : Addr} {fd : FuncData} (F : Fun K "length" "Space.length" sGetL f fd) (R : SpCls K mg C CR) : FnOk P w K mg base CX0 1 f fd ["self"] (spGetL C) := by
  refine F.ok scGetL (fun vs H Q E h => ?_) (fun cdv A outer s H vs Q E hr h => ?_)
  · obtain ⟨a, p, W, qs, rfl, _⟩ := h
    rfl
  · obtain ⟨a, p, W, qs, rfl, ⟨dx, t, ea, _⟩, q⟩ := h
    exact ⟨_, (pss_one (ps_ret (pe_fld (pv 0) rfl))), _, rfl, a, C, dx, _, _, rfl, ea, R.cl, R.n2, rfl, q⟩
theorem okAlike {f : Addr} {fd : FuncData} (F : Fun K "_check_alike" "_check_alike" sAlike f fd) (T : Txt K mg aI CP CS CV CU kI) (R : SpCls K mg C CR) (PP : PropAt P w K mg base C "prime" (spGetP C)) (PL : PropAt P w K mg base C "length" (spGetL C)) : FnOk P w K mg base (L2.CX P w) 4 f fd ["one", "other"] (spCAlike C CU) := by
  refine F.okX scAlike (fun vs H Q E h => ?_) (fun cdv A outer s H vs Q E hr h => ?_)
  · obtain ⟨a, b, p, W, qs, q, v, rs, rfl, _⟩ := h
    rfl
  · obtain ⟨a, b, p, W, qs, q, v, rs, rfl, sa, sb, qt, qf⟩ := h
    obtain ⟨dx, t, ea, at_⟩ := id sa
    obtain ⟨dy, u, eb, bt⟩ := id sb
    refine ⟨_, (pss_cons (ps_if (pt_not (PW.pt (pw_and (pt_val (pe_callB call_isi (by rfl) T.isi (by decide +kernel) (pa_cons (pv 0) (pa_cons (pe_glob (v := .ref C) rfl R.gC rfl) pa_nil)))) (pw_and1 (pt_val (pe_callB call_isi (by rfl) T.isi (by decide +kernel) (pa_cons (pv 1) (pa_cons (pe_glob (v := .ref C) rfl R.gC rfl) pa_nil)))))))) (pss_one ps_never) pss_nil)
      (pss_one (ps_if (PW.pt (pw_or (pt_cmpR op_ne (pe_prp PP (hr.mono (by decide)) (pv 0)) (pe_prp PP (hr.mono (by decide)) (pv 1)) (nomark _)) (pw_or1 (pt_cmpR op_ne (pe_prp PL (hr.mono (by decide)) (pv 0)) (pe_prp PL (hr.mono (by decide)) (pv 1)) (nomark _))))) (pss_one (ps_throwN T.eU rfl (hr.mono (by decide)) (takes_of rfl rfl rfl rfl))) pss_nil))), ?_⟩
    refine ⟨_, rfl, _, _, _, _, _, rfl, .own C, .base (.ins ea R.isC.cl R.isC.ha R.isC.hn R.isC.htk R.isC.hm), R.isC.me, _, rfl, iteT ?_⟩
    refine ⟨_, rfl, _, _, _, _, _, rfl, .own C, .base (.ins eb R.isC.cl R.isC.ha R.isC.hn R.isC.htk R.isC.hm), R.isC.me, _, rfl, iteF ?_⟩
    refine ⟨_, rfl, a, dx, _, rfl, ea, a, p, W, qs, rfl, sa, _, rfl, b, dy, _, rfl, eb, b, q, v, rs, rfl, sb, rfl, _, rfl, ?_⟩
    by_cases e1 : p = q
    · subst e1
      rw [show (!decide (V.int p = V.int p)) = false by rw [decide_eq_true rfl] <;> rfl]
      refine iteF ⟨_, rfl, a, dx, _, rfl, ea, a, p, W, qs, rfl, sa, _, rfl, b, dy, _, rfl, eb, b, p, v, rs, rfl, sb, rfl, _, rfl, ?_⟩
      by_cases e2 : W = v
      · subst e2
        rw [show (!decide (V.int ((W : Nat) : Int) = V.int ((W : Nat) : Int))) = false by rw [decide_eq_true rfl] <;> rfl]
        exact iteF (qt ⟨rfl, rfl⟩)
      · rw [show (!decide (V.int ((W : Nat) : Int) = V.int ((v : Nat) : Int))) = true by rw [decide_eq_false (fun z => e2 (by have := V.int.inj z; omega))] <;> rfl]
        exact iteT (thrownN_go (qf fun z => e2 z.2))
    · rw [show (!decide (V.int p = V.int q)) = true by rw [decide_eq_false (fun z => e1 (V.int.inj z))] <;> rfl]
      exact iteT (thrownN_go (qf fun z => e1 z.1))
theorem okEqSp {f : Addr} {fd : FuncData} (F : Fun K "__eq__" "Space.__eq__" sEqSp f fd) (T : Txt K mg aI CP CS CV CU kI) (R : SpCls K mg C CR) : FnOk P w K mg base CX0 1 f fd ["self", "other"] (spEqSp C) := by
  refine F.ok scEqSp (fun vs H Q E h => ?_) (fun cdv A outer s H vs Q E hr h => ?_)
  · obtain ⟨a, b, p, W, qs, q, v, rs, rfl, _⟩ := h
    rfl
  · obtain ⟨a, b, p, W, qs, q, v, rs, rfl, ⟨dx, t, ea, at_⟩, ⟨dy, u, eb, bt⟩, g1, g2, k⟩ := h
    refine ⟨_, (pss_one (ps_ret (pe_and (pe_callB call_isi (by rfl) T.isi (by decide +kernel) (pa_cons (pv 1) (pa_cons (pe_glob (v := .ref C) rfl R.gC rfl) pa_nil))) (pe_and (pe_cmpR op_eq (pe_fld (pv 0) rfl) (pe_fld (pv 1) rfl) (nomark _)) (pe_and (pe_cmpR op_eq (pe_fld (pv 0) rfl) (pe_fld (pv 1) rfl) (nomark _)) (pe_one (pe_cmpR (op_eqD hr.units) (pe_fld (pv 0) rfl) (pe_fld (pv 1) rfl) (nomark _)))))))), ?_⟩
    refine ⟨_, rfl, _, _, _, _, _, rfl, .own C, .base (.ins eb R.isC.cl R.isC.ha R.isC.hn R.isC.htk R.isC.hm), R.isC.me, _, rfl, iteT ?_⟩
    refine ⟨_, rfl, a, C, dx, _, _, rfl, ea, R.cl, R.n1, rfl, _, rfl, b, C, dy, _, _, rfl, eb, R.cl, R.n1, rfl, rfl, _, rfl, ?_⟩
    rw [dec_intS]
    by_cases e1 : p = q
    · rw [decide_eq_true e1, Bool.true_and] at k
      rw [decide_eq_true e1]
      refine iteT ⟨_, rfl, a, C, dx, _, _, rfl, ea, R.cl, R.n2, rfl, _, rfl, b, C, dy, _, _, rfl, eb, R.cl, R.n2, rfl, rfl, _, rfl, ?_⟩
      rw [dec_intS]
      by_cases e2 : W = v
      · rw [decide_eq_true e2, Bool.true_and] at k
        rw [decide_eq_true (by omega)]
        refine iteT ⟨_, rfl, a, C, dx, _, _, rfl, ea, R.cl, R.n3, rfl, _, rfl, b, C, dy, _, _, rfl, eb, R.cl, R.n3, rfl, ?_⟩
        refine eq_two at_ bt (pairsT_items qs).1 (pairsT_items rs).1 (pairsT_items qs).2 (pairsT_items rs).2 ?_
        rw [eqv_pairs]
        exact k
      · rw [decide_eq_false e2, Bool.false_and] at k
        rw [decide_eq_false (by omega)]
        exact iteF k
    · rw [decide_eq_false e1, Bool.false_and] at k
      rw [decide_eq_false e1]
      exact iteF k
theorem okRestSp {f : Addr} {fd : FuncData} (F : Fun K "rest" "Space.rest" sRestSp f fd) (T : Txt K mg aI CP CS CV CU kI) (R : SpCls K mg C CR) (GC : Own P w K mg base (L2.CX P w) 4 "_check_vector" ["vector", "length"] [] (spCVec CV)) (GR : Own P w K mg base CX0 1 "rest_of" ["prime", "basis", "vector"] [] spRestOf) :
    FnOk P w K mg base (L2.CX P w) 5 f fd ["self", "vector"] (spRestSp C CV) := by
  refine F.okX scRestSp (fun vs H Q E h => ?_) (fun cdv A outer s H vs Q E hr h => ?_)
  · obtain ⟨a, v, p, W, qs, d, rfl, _⟩ := h
    rfl
  · obtain ⟨a, v, p, W, qs, d, rfl, ⟨dx, t, ea, at_⟩, g, av, l1000, qf, qt⟩ := h
    have w12 := g.hw
    refine ⟨_, (pss_cons (ps_expr (pe_own (E := E) GC (hr.mono (by decide)) (passes_call (takes_of rfl rfl rfl rfl) (fun _ _ _ _ z => z)) (pa_cons (pv 1) (pa_cons (pe_fld (pv 0) rfl) pa_nil))))
      (pss_one (ps_ret (pe_callTy call_tuple_of (by rfl) T.tuple (by decide +kernel) (pa_cons (pe_own GR (hr.mono (by decide)) pass0 (pa_cons (pe_fld (pv 0) rfl) (pa_cons (pe_fld (pv 0) rfl) (pa_cons (pv 1) pa_nil)))) pa_nil))))), ?_⟩
    refine ⟨_, rfl, _, rfl, a, C, dx, _, _, rfl, ea, R.cl, R.n2, rfl, v, d, _, rfl, av, l1000, fun hv H1 k1 => ?_, qf⟩
    obtain ⟨r, lr, ed⟩ := vec_rows hv
    obtain ⟨sm, q⟩ := qt r lr ed
    refine ⟨_, rfl, a, C, dx, _, _, rfl, k1 _ _ ea, R.cl, R.n1, rfl, _, rfl, a, C, dx, _, _, rfl, k1 _ _ ea, R.cl, R.n3, rfl, _, rfl, p, _, v, qs, r, _, d, W, rfl, g.hp, at_.keep k1, pairsT_D qs, av.keep k1, ed, lr, by omega, ?_, g.g, sm, fun l H2 hl k2 el => ?_⟩
    · have := g.g.le
      omega
    · exact ⟨l, _, rfl, .inl ⟨SqL.of el, fun t2 ht2 => q t2 _ ((k1.trans k2).free ht2) ((k1.trans k2).trans (same_new ht2)) (.tup upd_same (ints_anyL _))⟩⟩
theorem okInSp {f fr : Addr} {fd fdr : FuncData} (F : Fun K "__contains__" "Space.__contains__" sInSp f fd) (R : SpCls K mg C CR) (mr : Meth K C "rest" fr) (Fr : FnOk P w K mg base (L2.CX P w) 5 fr fdr ["self", "vector"] (spRestSp C CV)) (br : Binds K fdr ["self", "vector"] []) (GL : Own P w K mg base CX0 1 "lead_of" ["vector"] [] spLeadOf) :
    FnOk P w K mg base (L2.CX P w) 6 f fd ["self", "x"] (spInSp C CV) := by
  refine F.okX scInSp (fun vs H Q E h => ?_) (fun cdv A outer s H vs Q E hr h => ?_)
  · obtain ⟨a, v, p, W, qs, d, rfl, _⟩ := h
    rfl
  · obtain ⟨a, v, p, W, qs, d, rfl, sa, g, av, l1000, qf, qt⟩ := h
    obtain ⟨dx, t, ea, at_⟩ := id sa
    have w12 := g.hw
    refine ⟨_, (pss_one (ps_ret (pe_cmpR op_isN (pe_own GL (hr.mono (by decide)) pass0 (pa_cons (pe_meth (E := E) (pv 0) R.cl mr Fr hr br .nil (passes_call (takes_of rfl rfl rfl rfl) (fun _ _ _ _ z => z)) (pa_cons (pv 1) pa_nil)) pa_nil)) pe_non (nomark _)))), ?_⟩
    refine ⟨_, rfl, a, dx, _, rfl, ea, rfl, _, rfl, a, v, p, W, qs, d, rfl, sa, g, av, l1000, qf, fun r lr ed => ?_⟩
    obtain ⟨sm, q⟩ := qt r lr ed
    refine ⟨sm, fun t2 H2 _ k2 a2 => ?_⟩
    refine ⟨_, restR p qs r, _, rfl, a2, .inr rfl, by rw [rest_len lr g.g.len]; omega, fun H3 k3 => ⟨rfl, ?_⟩⟩
    have e : decide (oNat (leadR (restR p qs r)) = .non) = (leadR (restR p qs r)).isNone := by
      cases leadR (restR p qs r) with
      | none => rfl
      | some l => exact decide_eq_false (fun z => by cases z)
    rw [e]
    exact q _ (k2.trans k3)
theorem okLies {f : Addr} {fd : FuncData} (F : Fun K "lies_in" "Space.lies_in" sLies f fd) (T : Txt K mg aI CP CS CV CU kI) (R : SpCls K mg C CR) (GA : Own P w K mg base (L2.CX P w) 4 "_check_alike" ["one", "other"] [] (spCAlike C CU)) (GR : Own P w K mg base CX0 1 "rest_of" ["prime", "basis", "vector"] [] spRestOf) (GL : Own P w K mg base CX0 1 "lead_of" ["vector"] [] spLeadOf) :
    FnOk P w K mg base (L2.CX P w) 5 f fd ["self", "other"] (spLies C CU) := by
  refine F.okX scLies (fun vs H Q E h => ?_) (fun cdv A outer s H vs Q E hr h => ?_)
  · obtain ⟨a, b, p, W, qs, q, v, rs, rfl, _⟩ := h
    rfl
  · obtain ⟨a, b, p, W, qs, q, v, rs, rfl, sa, sb, g1, g2, qf, qt⟩ := h
    obtain ⟨dx, t, ea, at_⟩ := id sa
    obtain ⟨dy, u, eb, bt⟩ := id sb
    refine ⟨_, (pss_cons (ps_expr (pe_own (E := E) GA (hr.mono (by decide)) (passes_call (takes_of rfl rfl rfl rfl) (fun _ _ _ _ z => z)) (pa_cons (pv 0) (pa_cons (pv 1) pa_nil))))
      (pss_one (ps_ret (pe_callB (cr_all rfl) (by rfl) T.all (by decide +kernel) (pa_cons (pe_lc (own := [("_", 2), ("row", 3)]) (g := gUR K) (tt := tYes) (te := tOp (fun x y H Q => y = V.non ∧ Q (.bl (decide (x = .non))) H) (tCall spLeadOf [] E0 (tCons (tCall spRestOf [] E0 (tCons (tFld K (tVar 0) "_prime") (tCons (tFld K (tVar 1) "_basis") (tCons (tVar 3) tNil)))) tNil)) (tC .non)) rfl scLies.nd (pi_seq (pe_fld (pv 0) rfl)) (blkOk_by (N := NLies) (sc := defScope sLies) (by decide +kernel)) (fun _ _ _ _ _ => (pg_tup rfl (pgs_cons (pg_name (i := 2) scLies.nd rfl (Or.inl rfl)) (pgs_cons (pg_name (i := 3) scLies.nd rfl (Or.inl rfl)) pgs_nil)))) (fun _ _ _ _ _ => pts_nil) (fun _ _ _ _ _ => (pe_cmpR op_isN (pe_own GL (hr.mono (by decide)) pass0 (pa_cons (pe_own GR (hr.mono (by decide)) pass0 (pa_cons (pe_fld (pv 0) rfl) (pa_cons (pe_fld (pv 1) rfl) (pa_cons (pv 3) pa_nil)))) pa_nil)) pe_non (nomark _)))) pa_nil))))), ?_⟩
    refine ⟨_, rfl, _, rfl, a, b, p, W, qs, q, v, rs, rfl, sa, sb, fun e => ?_, qf⟩
    obtain ⟨rfl, rfl⟩ := e
    have w12 := g1.hw
    obtain ⟨k, c, xs, ds, rfl', hs, al, lk⟩ := pairs_seq at_ (pairsT_D qs)
    cases rfl'
    have lx := (anyL_len al).trans lk.len
    have l1 := g1.g.le
    have l2 := g2.g.le
    refine ⟨_, rfl, a, C, dx, _, _, rfl, ea, R.cl, R.n3, rfl, _, k, xs, rfl, hs (Same.refl _) K, fun D hD => ?_⟩
    refine lc_it walk_seq (Pv := fun i H' => Same H H' ∧ H' D = some (.lst (((qs.take i).map fun q => (leadR (restR p rs q.2)).isNone).map V.bl))) ⟨same_new hD, by rw [List.take_zero]; exact upd_same⟩ (fun i H' _ h => hs h.1 K) ?_ ?_
    · rintro i x H2 H3 hi ⟨s2, eD⟩ ⟨rfl, hx⟩
      obtain ⟨dj, hdj, ax⟩ := anyL_at al hx
      obtain ⟨qq, e, hq, rfl, re⟩ := lk.at_ hdj
      obtain ⟨tt, ur, rfl, et, ar⟩ := pair_at (ax.keep s2)
      have mq := List.mem_of_getElem? hq
      have rng := g1.g.rng qq mq
      have lq := g1.g.len qq mq
      have pp := prime_pos g1.hp
      have sm : SmV qq.2 := ⟨fun x hx => by
        obtain ⟨j, hj⟩ := List.getElem?_of_mem hx
        have hj2 := (List.getElem?_eq_some_iff.mp hj).1
        have := rng j (by omega)
        unfold cl at this
        rw [hj] at this
        have h3 : 0 ≤ x ∧ x < p := this
        exact Nat.lt_of_le_of_lt (by omega : x.natAbs ≤ 13) (by decide)⟩
      refine ⟨tt, _, rfl, SqT.of et, rfl, _, _, rfl, _, _, rfl, rfl, rfl, ?_⟩
      unfold tYes
      refine Eq.mpr (if_pos (rfl : true = true)) ?_
      refine ⟨_, rfl, a, C, dx, _, _, rfl, s2 _ _ ea, R.cl, R.n1, rfl, _, rfl, b, C, dy, _, _, rfl, s2 _ _ eb, R.cl, R.n3, rfl, _, rfl, p, _, ur, rs, qq.2, _, e, W, rfl, g1.hp, bt.keep s2, pairsT_D rs, ar, re, lq, by omega, by omega, g2.g, sm, fun l H4 hl k4 el => ?_⟩
      refine ⟨_, restR p rs qq.2, _, rfl, row_of_list el, .inl rfl, by rw [rest_len lq g2.g.len]; omega, fun H5 k5 => ⟨rfl, ?_⟩⟩
      have eo : decide (oNat (leadR (restR p rs qq.2)) = .non) = (leadR (restR p rs qq.2)).isNone := by
        cases leadR (restR p rs qq.2) with
        | none => rfl
        | some l => exact decide_eq_false (fun z => by cases z)
      rw [eo]
      refine ⟨_, k5 _ _ (k4 _ _ eD), Nat.lt_of_le_of_lt (by rw [List.length_map, List.length_map, List.length_take]; omega : _ ≤ 100) (by decide), fun z o ez => ?_, ?_⟩
      · rw [upd_ne (ne_of_none ez hD)]
        exact k5 _ _ (k4 _ _ (s2 _ _ ez))
      · rw [upd_same, List.take_add_one, hq, List.map_append, List.map_append] <;> rfl
    · rintro H2 ⟨s2, eD⟩
      rw [lx, List.take_length] at eD
      refine ⟨D, _, rfl, SqL.of eD, ?_⟩
      have e : ((qs.map fun q => (leadR (restR p rs q.2)).isNone).all id) = liesB p qs rs := by
        unfold liesB
        rw [List.all_map] <;> rfl
      rw [e]
      exact qt rfl rfl _ s2
end
end K6

set_option Elab.async false
set_option linter.all false
set_option maxRecDepth 100000
set_option maxHeartbeats 1000000
/-! TkJG: what the law of spaces reckons: inverses, rows less a multiple of a head, drawn vectors, bases. -/
namespace Rw
open PySem PySem.Spec PyProof.Rows L2
def rowD (r : List Int) : PyData := .list (r.map .int)
def rowsD (rs : List (List Int)) : PyData := .list (rs.map rowD)
def spTurn : Sp := fun vs H Q _ => ∃ p x : Int, vs = [.int p, .int x] ∧ p ∈ primesL ∧ x % p ≠ 0 ∧ x.natAbs < 10 ^ 40 ∧ ∀ t H', Same H H' → 0 < t → t < p → x * t % p = 1 → Q (.int t) H'
def spLess : Sp := fun vs H Q _ => ∃ (p : Int) (va vb : V) (rs : List (List Int)) (hd : List Int) (db : PyData) (s : Nat), vs = [.int p, va, vb, .int (s : Int)] ∧ p ∈ primesL ∧ Any H va (rowsD rs) ∧ Any H vb db ∧ VecD hd db ∧ rs.length ≤ 100 ∧ hd.length ≤ 100 ∧ s < hd.length ∧ (∀ r, r ∈ rs → r.length = hd.length) ∧ (∀ r, r ∈ hd :: rs → ∀ x, x ∈ r → 0 ≤ x ∧ x < 13) ∧
  ∀ l acc H', H l = none → Same H H' → H' l = some (.lst acc) → AnyL (del H' l) acc ((rs.map (lessR p hd s)).map rowD) → Q (.ref l) H'
theorem dec_intR {a b : Int} : decide (V.int a = V.int b) = decide (a = b) := by
  by_cases h : a = b
  · rw [h, decide_eq_true rfl, decide_eq_true rfl]
  · rw [decide_eq_false h, decide_eq_false (fun z => h (V.int.inj z))]
theorem sqb_or {K : PySem.W.Frag} {H : Hp} {k : Bool} {a : Addr} {xs : List V} (h : SqB K H k a xs) : SqL K H a xs ∨ SqT K H a xs := by
  cases k with
  | true => exact .inl h
  | false => exact .inr h
theorem rowD_any {H : Hp} {v : V} {r : List Int} (h : Any H v (rowD r)) : ∃ c, v = .ref c ∧ H c = some (.lst (r.map V.int)) := by
  cases h with
  | lst e al => exact ⟨_, rfl, by rw [e, anyL_ints al]⟩
theorem any_rowD {H : Hp} {c : Addr} {r : List Int} (h : H c = some (.lst (r.map V.int))) : Any H (.ref c) (rowD r) := .lst h (ints_anyL r)
/-- rows stand clear of a list of rows that changes -/
theorem rows_put : ∀ {H : Hp} {xs : List V} {rs : List (List Int)} {l : Addr} {ac : List V} {o : HO}, AnyL H xs (rs.map rowD) → H l = some (.lst ac) → (∀ v, v ∈ ac → ∃ c, v = .ref c) → (∀ r, r ∈ rs → r ≠ []) → AnyL (upd H l o) xs (rs.map rowD)
  | _, _, [], _, _, _, h, _, _, _ => by
    cases h
    exact .nil
  | H, _, r :: rs, l, ac, o, h, e, hr, ne => by
    cases h with
    | cons a b =>
      refine .cons ?_ (rows_put b e hr fun r2 h2 => ne r2 (List.mem_cons_of_mem _ h2))
      obtain ⟨c, rfl, ec⟩ := rowD_any a
      have nc : c ≠ l := fun z => by
        subst z
        rw [e] at ec
        have e2 : ac = r.map V.int := by cases ec; rfl
        cases r with
        | nil => exact ne [] List.mem_cons_self rfl
        | cons x r =>
          obtain ⟨c2, e3⟩ := hr (.int x) (by rw [e2]; exact List.mem_cons_self)
          cases e3
      refine any_rowD ?_
      rw [upd_ne nc]
      exact ec
theorem rows_refs : ∀ {H : Hp} {xs : List V} {rs : List (List Int)}, AnyL H xs (rs.map rowD) → ∀ v, v ∈ xs → ∃ c, v = .ref c
  | _, _, [], h, v, hv => by
    cases h
    cases hv
  | _, _, r :: rs, h, v, hv => by
    cases h with
    | cons a b =>
      rcases List.mem_cons.mp hv with z | z
      · subst z
        obtain ⟨c, e, _⟩ := rowD_any a
        exact ⟨c, e⟩
      · exact rows_refs b v z
theorem anyL_erase : ∀ {H : Hp} {xs : List V} {ds : List PyData} (k : Nat), AnyL H xs ds → AnyL H (xs.eraseIdx k) (ds.eraseIdx k)
  | _, [], _, k, h => by
    cases h
    exact .nil
  | _, x :: xs, _, 0, h => by
    cases h with
    | cons a b => exact b
  | _, x :: xs, _, k + 1, h => by
    cases h with
    | cons a b => exact .cons a (anyL_erase k b)
theorem map_erase {α β : Type} (f : α → β) : ∀ (l : List α) (k : Nat), (l.map f).eraseIdx k = (l.eraseIdx k).map f
  | [], _ => rfl
  | _ :: _, 0 => rfl
  | x :: xs, k + 1 => congrArg (f x :: ·) (map_erase f xs k)
def spVecsW : Sp := fun vs H Q _ => ∃ (p : Addr) (q : Int) (w k n : Nat), vs = [.ref p, .int q, .int (w : Nat), .int (k : Nat)] ∧ q ∈ primesL ∧ w ≤ 12 ∧ k ≤ 6 ∧ Bx H p n ∧ n ≤ 850000 ∧
  ∀ l acc m H', H l = none → Grow p H H' → Bx H' p (n + 300) → H' l = some (.lst acc) → AnyL H' acc (m.map tupI) → BigM k w m → Q (.ref l) H'
/-- the law's own base of some vectors -/
def spBaseL : Sp := fun vs H Q _ => ∃ p v d rows w, vs = [.int p, v] ∧ p ∈ primesL ∧ Any H v d ∧ VecsD rows d ∧ (∃ ds, d = .list ds) ∧ rows.length ≤ 90 ∧ w ≤ 12 ∧ (∀ r, r ∈ rows → r.length = w ∧ SmV r) ∧
  ∀ l acc found H', H l = none → Same H H' → H' l = some (.lst acc) → AnyL (del H' l) acc (found.map tupI) → BaseR p w rows found → Q (.ref l) H'
def spRankL : Sp := fun vs H Q _ => ∃ p v d rows w, vs = [.int p, v] ∧ p ∈ primesL ∧ Any H v d ∧ VecsD rows d ∧ (∃ ds, d = .list ds) ∧ rows.length ≤ 90 ∧ w ≤ 12 ∧ (∀ r, r ∈ rows → r.length = w ∧ SmV r) ∧
  ∀ found H', Same H H' → BaseR p w rows found → Q (.int ((found.length : Nat) : Int)) H'
end Rw

set_option Elab.async false
set_option linter.all false
set_option maxRecDepth 100000
set_option maxHeartbeats 4000000
/-! K6E: the law's draws: cells, boxes, primes, digits, vectors; inverses, rows less a head. -/
namespace K6
open PySem PySem.Spec PyProof.Rows L2 Rw
abbrev sCell : Stmt := top 36
abbrev sBox : Stmt := top 37
abbrev sTake : Stmt := top 38
abbrev sPrimeL : Stmt := top 39
abbrev sDigit : Stmt := top 40
abbrev sVecs : Stmt := top 41
abbrev sTurn : Stmt := top 42
abbrev sLess : Stmt := top 43
abbrev NCell : List Str := ["_law_script", "_law_k"]
theorem scCell : FnScope NCell ["_law_script", "_law_k"] (defScope sCell) := ⟨rfl, rfl, rfl, by decide +kernel, rfl, by decide +kernel, by decide +kernel⟩
abbrev NBox : List Str := ["_law_cell_here"]
theorem scBox : FnScope NBox ["_law_cell_here"] (defScope sBox) := ⟨rfl, rfl, rfl, by decide +kernel, rfl, by decide +kernel, by decide +kernel⟩
abbrev NTake : List Str := ["_law_box_here", "_law_many", "_law_digit_here", "_law_blend"]
theorem scTake : FnScope NTake ["_law_box_here", "_law_many"] (defScope sTake) := ⟨rfl, rfl, rfl, by decide +kernel, rfl, by decide +kernel, by decide +kernel⟩
abbrev NPrimeL : List Str := ["_law_box_here"]
theorem scPrimeL : FnScope NPrimeL ["_law_box_here"] (defScope sPrimeL) := ⟨rfl, rfl, rfl, by decide +kernel, rfl, by decide +kernel, by decide +kernel⟩
theorem scDigit : FnScope ["_law_box_here", "_law_p", "_law_way"] ["_law_box_here", "_law_p"] (defScope sDigit) := ⟨rfl, rfl, rfl, by decide +kernel, rfl, by decide +kernel, by decide +kernel⟩
abbrev NVecs : List Str := ["_law_box_here", "_law_p", "_law_wide", "_law_many", "_law_found", "_law_k", "_law_row", "_law_one", "_law_two", "_law_turn_here", "_law_spot"]
theorem scVecs : FnScope NVecs ["_law_box_here", "_law_p", "_law_wide", "_law_many"] (defScope sVecs) := ⟨rfl, rfl, rfl, by decide +kernel, rfl, by decide +kernel, by decide +kernel⟩
abbrev rInt1 : List V → Hp → VK → Prop := fun xs H Q => (∃ i, xs = [.int i] ∧ Q (.int i) H) ∨ ∃ k, xs = [.bl k] ∧ Q (.int (if k then 1 else 0)) H
abbrev rModN : R2 := rI (fun _ j => j ≠ 0) fun i j => .int (i.fmod j)
abbrev tBlend (K : PySem.W.Frag) : TE := tOp rModN (tCB rInt1 (tCons (tOp (rI0 fun i j => .int (i + j)) (tOp (rI CMul fun i j => .int (i * j)) (tOp (rIxT K) (tVar 7) (tVar 10)) (tVar 9)) (tOp (rIxT K) (tVar 8) (tVar 10))) tNil)) (tVar 1)
abbrev NTurn : List Str := ["_law_p", "_law_item", "_law_k"]
abbrev NLess : List Str := ["_law_p", "_law_rows", "_law_head", "_law_spot", "_law_row", "_law_k"]
theorem scTurn : FnScope NTurn ["_law_p", "_law_item"] (defScope sTurn) := ⟨rfl, rfl, rfl, by decide +kernel, rfl, by decide +kernel, by decide +kernel⟩
theorem scLess : FnScope NLess ["_law_p", "_law_rows", "_law_head", "_law_spot"] (defScope sLess) := ⟨rfl, rfl, rfl, by decide +kernel, rfl, by decide +kernel, by decide +kernel⟩
section
variable {P : Program} {w : World} {K : PySem.W.Frag} {mg : Str → Option Value} {base : Heap}
theorem okCell {f : Addr} {fd : FuncData} (F : Fun K "_law_cell" "_law_cell" sCell f fd) (zl : mg "len" = none) : FnOk P w K mg base CX0 1 f fd ["_law_script", "_law_k"] (spCellR K) := by
  refine F.ok scCell (fun vs H Q E h => ?_) (fun cdv A outer s H vs Q E hr h => ?_)
  · obtain ⟨a, ns, j, rfl, _⟩ := h
    rfl
  · obtain ⟨a, ns, j, rfl, hs, hj, q⟩ := h
    refine ⟨_, (pss_cons (ps_if (pt_cmpR op_lt (pv 1) (pe_callB call_len_seq (by rfl) zl PySem.boot_len (pa_cons (pv 0) pa_nil)) (nomark _)) (pss_one (ps_ret (pe_ix ix_list (pv 0) (pv 1) (fun _ _ => rfl)))) pss_nil)
      (pss_one (ps_ret (pe_op op_add (pe_op op_mul pe_int (pv 1)) pe_int)))), ?_⟩
    refine ⟨_, rfl, _, rfl, a, _, rfl, .inl hs, _, _, rfl, rfl, _, rfl, ?_⟩
    refine ite2 (fun z => ?_) (fun z => ?_)
    · have z2 := of_decide_eq_true z
      have z3 : j < ns.length := by
        rw [List.length_map] at z2
        omega
      exact ⟨_, rfl, _, rfl, a, _, _, _, rfl, rfl, hs, atI_nat (j := j) (v := .int ns[j]) (by rw [List.getElem?_map, List.getElem?_eq_getElem z3] <;> rfl), q _⟩
    · exact ⟨_, rfl, _, _, rfl, rfl, .inr ⟨by omega, by omega⟩, _, _, rfl, rfl, q _⟩
theorem okBox {f : Addr} {fd : FuncData} (F : Fun K "_law_box" "_law_box" sBox f fd) (zm : mg "max" = none) (zi : mg "int" = none) : FnOk P w K mg base CX0 1 f fd ["_law_cell_here"] spBoxR := by
  refine F.ok scBox (fun vs H Q E h => ?_) (fun cdv A outer s H vs Q E hr h => ?_)
  · obtain ⟨z, rfl, _⟩ := h
    rfl
  · obtain ⟨z, rfl, q⟩ := h
    refine ⟨_, (pss_one (ps_ret (pe_lst (pa_cons (pe_callB (call_max2 rfl) (by rfl) zm (by decide +kernel) (pa_cons pe_int (pa_cons (pe_op op_sub (pv 0) (pe_op op_pow pe_int pe_int)) pa_nil))) (pa_cons (pe_op op_modN (pe_callTy call_int1 (by rfl) zi (by decide +kernel) (pa_cons (pv 0) pa_nil)) pe_int) (pa_cons pe_int pa_nil)))))), ?_⟩
    refine ⟨_, rfl, _, _, rfl, rfl, ⟨by decide, by decide, by decide⟩, _, _, rfl, rfl, _, _, rfl, _, rfl, .inl ⟨_, rfl, _, _, rfl, rfl, (by dsimp only; omega), (by show 3 ≤ sizeLine; decide), fun p hp => ?_⟩⟩
    refine q p _ hp (same_new hp) ⟨_, _, _, upd_same, ?_, ?_, ?_, by omega, by omega⟩
    · split <;> omega
    · rw [fmod_pos (by decide)]
      exact Int.emod_nonneg _ (by decide)
    · rw [fmod_pos (by decide)]
      exact Int.emod_lt_of_pos _ (by decide)
theorem okTake {f : Addr} {fd : FuncData} (F : Fun K "_law_take" "_law_take" sTake f fd) (zi : mg "int" = none) : FnOk P w K mg base CX0 1 f fd ["_law_box_here", "_law_many"] spTakeR := by
  refine F.ok scTake (fun vs H Q E h => ?_) (fun cdv A outer s H vs Q E hr h => ?_)
  · obtain ⟨p, m, n, rfl, _⟩ := h
    rfl
  · obtain ⟨p, m, n, rfl, m0, m1, ⟨a, b, c, hp, a0, b0, b1, c0, c1⟩, hn, q⟩ := h
    refine ⟨_, (pss_cons (ps_if (pt_cmpR op_gt (pe_ix ix_list (pv 0) pe_int (fun _ _ => rfl)) pe_int (nomark _)) (pss_cons (ps_set (i := 2) scTake.nd rfl (Or.inl rfl) (pe_op op_modN (pe_callTy call_int1 (by rfl) zi (by decide +kernel) (pa_cons (pe_ix ix_list (pv 0) pe_int (fun _ _ => rfl)) pa_nil)) (pv 1)))
        (pss_cons (ps_asg (pe_op op_fdivW (pe_ix ix_list (pv 0) pe_int (fun _ _ => rfl)) (pv 1)) (pg_sub (pv 0) pe_int set_list))
        (pss_one (ps_ret (pv 2))))) pss_nil)
      (pss_cons (ps_asg (pe_op op_add (pe_ix ix_list (pv 0) pe_int (fun _ _ => rfl)) pe_int) (pg_sub (pv 0) pe_int set_list))
      (pss_cons (ps_set (i := 3) scTake.nd rfl (Or.inl rfl) (pe_op op_modN (pe_op op_pow (pe_callTy call_int1 (by rfl) zi (by decide +kernel) (pa_cons (pe_op op_add (pe_op op_add (pe_ix ix_list (pv 0) pe_int (fun _ _ => rfl)) (pe_op op_mul pe_int (pe_ix ix_list (pv 0) pe_int (fun _ _ => rfl)))) pe_int) pa_nil)) pe_int) pe_int))
      (pss_cons (ps_set (i := 3) scTake.nd rfl (Or.inl rfl) (pe_op op_modN (pe_op op_pow (pe_callTy call_int1 (by rfl) zi (by decide +kernel) (pa_cons (pe_op op_add (pv 3) (pe_op op_mul pe_int (pe_ix ix_list (pv 0) pe_int (fun _ _ => rfl)))) pa_nil)) pe_int) pe_int))
      (pss_one (ps_ret (pe_op op_modN (pe_callTy call_int1 (by rfl) zi (by decide +kernel) (pa_cons (pe_op op_fdivW (pv 3) pe_int) pa_nil)) (pv 1)))))))), ?_⟩
    refine ⟨_, rfl, p, _, 0, _, rfl, rfl, SqL.of hp, atI_nat (j := 0) rfl, _, _, rfl, rfl, _, rfl, ?_⟩
    refine ite2 (fun z => ?_) (fun z => ?_)
    · refine ⟨_, rfl, p, _, 0, _, rfl, rfl, SqL.of hp, atI_nat (j := 0) rfl, .inl ⟨_, rfl, _, rfl, _, _, rfl, rfl, (by show m ≠ 0; omega), ?_⟩⟩
      refine ⟨_, rfl, p, _, 0, _, rfl, rfl, SqL.of hp, atI_nat (j := 0) rfl, _, rfl, _, _, rfl, rfl, wide_div (b := 200) m0 (by omega) (by decide) (by decide), _, rfl, p, _, 0, 0, rfl, rfl, hp, rfl, ?_⟩
      refine ⟨_, rfl, ?_⟩
      show Q (.int (a.fmod m)) _
      rw [fmod_pos m0]
      exact q _ _ (Int.emod_nonneg _ (by omega)) (Int.emod_lt_of_pos _ m0) Grow.put ⟨_, b, c, upd_same, fdiv_nonneg' a0 m0, b0, b1, c0, by omega⟩
    · refine ⟨_, rfl, p, _, 2, _, rfl, rfl, SqL.of hp, atI_nat (j := 2) rfl, _, _, rfl, rfl, _, rfl, p, _, 2, 2, rfl, rfl, hp, rfl, ?_⟩
      have hp2 : (upd H p (.lst ([V.int a, V.int b, V.int c].set 2 (.int (c + 1))))) p = some (.lst [.int a, .int b, .int (c + 1)]) := upd_same
      refine ⟨_, rfl, p, _, 1, _, rfl, rfl, SqL.of hp2, atI_nat (j := 1) rfl, _, rfl, p, _, 2, _, rfl, rfl, SqL.of hp2, atI_nat (j := 2) rfl, _, _, rfl, rfl, .inl ⟨by omega, by omega⟩, _, _, rfl, rfl, _, _, rfl, rfl, .inl ⟨_, rfl, _, _, rfl, rfl, ⟨by decide, by decide, by omega⟩, _, _, rfl, rfl, (by dsimp only; omega), ?_⟩⟩
      generalize ((b + _ * (c + 1) + _) ^ _ : Int) = y1
      have y2 : 0 ≤ y1.fmod 2147483647 ∧ y1.fmod 2147483647 < 2147483647 := by
        rw [fmod_pos (by decide)]
        exact ⟨Int.emod_nonneg _ (by decide), Int.emod_lt_of_pos _ (by decide)⟩
      refine ⟨_, rfl, _, rfl, p, _, 2, _, rfl, rfl, SqL.of hp2, atI_nat (j := 2) rfl, _, _, rfl, rfl, .inl ⟨by omega, by omega⟩, _, _, rfl, rfl, .inl ⟨_, rfl, _, _, rfl, rfl, ⟨by decide, by decide, by omega⟩, _, _, rfl, rfl, (by dsimp only; omega), ?_⟩⟩
      generalize ((y1.fmod 2147483647 + _ * (c + 1)) ^ _ : Int) = y4
      refine ⟨_, rfl, _, _, rfl, rfl, ⟨by decide, by decide +kernel⟩, .inl ⟨_, rfl, _, rfl, _, _, rfl, rfl, (by show m ≠ 0; omega), ?_⟩⟩
      show Q (.int (Int.fmod _ m)) _
      rw [fmod_pos m0]
      exact q _ _ (Int.emod_nonneg _ (by omega)) (Int.emod_lt_of_pos _ m0) Grow.put ⟨a, b, c + 1, hp2, a0, b0, b1, by omega, by omega⟩
theorem okPrimeL {f : Addr} {fd : FuncData} (F : Fun K "_law_prime" "_law_prime" sPrimeL f fd) (GT : Own P w K mg base CX0 1 "_law_take" ["_law_box_here", "_law_many"] [] spTakeR) : FnOk P w K mg base CX0 2 f fd ["_law_box_here"] spPrimeR := by
  refine F.ok scPrimeL (fun vs H Q E h => ?_) (fun cdv A outer s H vs Q E hr h => ?_)
  · obtain ⟨p, n, rfl, _⟩ := h
    rfl
  · obtain ⟨p, n, rfl, bx, hn, q⟩ := h
    refine ⟨_, (pss_one (ps_ret (pe_ix ix_list (pe_lst (pa_cons pe_int (pa_cons pe_int (pa_cons pe_int (pa_cons pe_int (pa_cons pe_int (pa_cons pe_int (pa_cons pe_int (pa_cons pe_int pa_nil))))))))) (pe_own GT hr pass0 (pa_cons (pv 0) (pa_cons pe_int pa_nil))) (fun _ _ => rfl)))), ?_⟩
    refine ⟨by show 8 ≤ sizeLine; decide, fun l hl => ?_⟩
    have nl : l ≠ p := (bx.ne hl).symm
    refine ⟨_, rfl, p, 8, n, rfl, by decide, by decide, bx.keep (same_new hl), by omega, fun r H' r0 r1 G B => ?_⟩
    obtain ⟨i, rfl⟩ : ∃ i : Nat, r = (i : Int) := ⟨r.toNat, by omega⟩
    have hi : i < ([2, 3, 5, 7, 11, 13, 2, 3] : List Int).length := by show i < 8; omega
    have mem : ∀ z ∈ ([2, 3, 5, 7, 11, 13, 2, 3] : List Int), z ∈ primesL := by decide
    refine ⟨l, ([2, 3, 5, 7, 11, 13, 2, 3] : List Int).map V.int, _, _, rfl, rfl, SqL.of (G l _ nl upd_same), atI_nat (v := .int (([2, 3, 5, 7, 11, 13, 2, 3] : List Int)[i])) (by rw [List.getElem?_map, List.getElem?_eq_getElem hi] <;> rfl), q _ H' (mem _ (List.getElem_mem hi)) ((Grow.of (same_new hl)).trans G) B⟩
theorem okDigit {f : Addr} {fd : FuncData} (F : Fun K "_law_digit" "_law_digit" sDigit f fd) (GT : Own P w K mg base CX0 1 "_law_take" ["_law_box_here", "_law_many"] [] spTakeR) : FnOk P w K mg base CX0 2 f fd ["_law_box_here", "_law_p"] spDigit := by
  refine F.ok scDigit (fun vs H Q E h => ?_) (fun cdv A outer s H vs Q E hr h => ?_)
  · obtain ⟨p, q, n, rfl, _⟩ := h
    rfl
  · obtain ⟨p, q, n, rfl, hq, bx, hn, k⟩ := h
    have pp := prime_pos hq
    refine ⟨_, (pss_cons (ps_set (i := 2) scDigit.nd rfl (Or.inl rfl) (pe_own GT hr pass0 (pa_cons (pv 0) (pa_cons pe_int pa_nil))))
      (pss_cons (ps_if (pt_cmpR op_lt (pv 2) pe_int (nomark _)) (pss_one (ps_ret pe_int)) pss_nil)
      (pss_one (ps_ret (pe_op op_add (pe_own GT hr pass0 (pa_cons (pv 0) (pa_cons (pv 1) pa_nil))) (pe_op op_mul (pv 1) (pe_ix ix_list (pe_lst (pa_cons pe_int (pa_cons pe_int (pa_cons pe_int (pa_cons (pe_un un_neg pe_int) (pa_cons pe_int (pa_cons (pe_op op_pow pe_int pe_int) pa_nil))))))) (pe_own GT hr pass0 (pa_cons (pv 0) (pa_cons pe_int pa_nil))) (fun _ _ => rfl)))))))), ?_⟩
    refine ⟨_, rfl, p, 6, n, rfl, by decide, by decide, bx, by omega, fun r H1 r0 r1 G1 B1 => ?_⟩
    refine ⟨_, rfl, _, _, rfl, rfl, _, rfl, ite2 (fun _ => ?_) (fun _ => ?_)⟩
    · exact k 0 H1 (by unfold Big; decide) G1 (B1.more (by omega))
    refine ⟨_, rfl, _, rfl, p, q, _, rfl, by omega, by omega, B1, by omega, fun a H2 a0 a1 G2 B2 => ?_⟩
    refine ⟨_, rfl, _, rfl, _, _, rfl, rfl, ⟨by decide, by decide, by decide⟩, by show 6 ≤ sizeLine; decide, fun l hl => ?_⟩
    have k3 := same_new (o := .lst [.int 0, .int 0, .int 0, .int (-1), .int 1, .int (10 ^ Int.toNat 27)]) hl
    have ne := B2.ne hl
    refine ⟨_, rfl, p, 6, _, rfl, by decide, by decide, B2.keep k3, by omega, fun i H3 i0 i1 G3 B3 => ?_⟩
    obtain ⟨j, rfl⟩ : ∃ j : Nat, i = (j : Int) := ⟨i.toNat, by omega⟩
    have hj : j < ([0, 0, 0, -1, 1, 10 ^ Int.toNat 27] : List Int).length := by show j < 6; omega
    have mem : ∀ z ∈ ([0, 0, 0, -1, 1, 10 ^ Int.toNat 27] : List Int), z.natAbs ≤ 10 ^ 27 := by decide
    refine ⟨l, ([0, 0, 0, -1, 1, 10 ^ Int.toNat 27] : List Int).map V.int, _, _, rfl, rfl, SqL.of (G3 l _ ne.symm upd_same), atI_nat (v := .int (([0, 0, 0, -1, 1, 10 ^ Int.toNat 27] : List Int)[j])) (by rw [List.getElem?_map, List.getElem?_eq_getElem hj] <;> rfl), ?_⟩
    refine ⟨_, _, rfl, rfl, .inl ⟨by omega, by omega⟩, _, _, rfl, rfl, ?_⟩
    exact k _ H3 (digit_big hq a0 a1 (mem _ (List.getElem_mem hj))) ((G1.trans G2).trans ((Grow.of k3).trans G3)) (B3.more (by omega))
set_option pp.maxSteps 400 in
theorem okVecs {f : Addr} {fd : FuncData} (F : Fun K "_law_vectors" "_law_vectors" sVecs f fd) (zr : mg "range" = none) (zl : mg "len" = none) (zi : mg "int" = none) (zt : mg "tuple" = none) (GT : Own P w K mg base CX0 1 "_law_take" ["_law_box_here", "_law_many"] [] spTakeR) (GD : Own P w K mg base CX0 2 "_law_digit" ["_law_box_here", "_law_p"] [] spDigit) :
    FnOk P w K mg base CX0 3 f fd ["_law_box_here", "_law_p", "_law_wide", "_law_many"] spVecsW := by
  refine F.ok scVecs (fun vs H Q E h => ?_) (fun cdv A outer s H vs Q E hr h => ?_)
  · obtain ⟨p, q, ww, kk, n, rfl, _⟩ := h
    rfl
  · obtain ⟨p, q, ww, kk, n, rfl, hq, w6, k6, bx, hn, k⟩ := h
    have pp := prime_pos hq
    refine ⟨_, (pss_cons (ps_set (i := 4) scVecs.nd rfl (Or.inl rfl) (pe_lst pa_nil))
      (pss_cons (ps_for PassesOwn.never rfl (pi_range1 rfl zr (pa_cons (pv 3) pa_nil)) (pg_name (i := 5) scVecs.nd rfl (Or.inl rfl)) (pss_cons (ps_setLc (i := 6) (own := [("_law_spot", 10)]) (g := gName 10) (tt := tYes) rfl scVecs.nd rfl rfl (sw_true rfl rfl rfl (by decide +kernel)) (pi_range1 rfl zr (pa_cons (pv 2) pa_nil)) (blkOk_by (N := NVecs) (sc := defScope sVecs) (by decide +kernel)) (fun _ _ _ _ _ => (pg_name (i := 10) scVecs.nd rfl (Or.inl rfl))) (fun _ _ _ _ _ => pts_nil) (fun _ _ _ _ _ => (pe_own GD (hr.mono (by decide)) pass0 (pa_cons (pv 0) (pa_cons (pv 1) pa_nil)))))
        (Evl.pss_cut (ps_if (PW.pt (pw_and (pt_cmpR op_gt (pe_callB call_len_seq (by rfl) zl boot_len (pa_cons (pv 4) pa_nil)) pe_int (nomark _)) (pw_and1 (pt_cmpR op_eq (pe_own GT (hr.mono (by decide)) pass0 (pa_cons (pv 0) (pa_cons pe_int pa_nil))) pe_int (nomark _))))) (pss_cons (ps_asg (pe_tup (pa_cons (pe_ix ix_list (pv 4) (pe_own GT (hr.mono (by decide)) pass0 (pa_cons (pv 0) (pa_cons (pe_callB call_len_seq (by rfl) zl boot_len (pa_cons (pv 4) pa_nil)) pa_nil))) (fun _ _ => rfl)) (pa_cons (pe_ix ix_list (pv 4) (pe_own GT (hr.mono (by decide)) pass0 (pa_cons (pv 0) (pa_cons (pe_callB call_len_seq (by rfl) zl boot_len (pa_cons (pv 4) pa_nil)) pa_nil))) (fun _ _ => rfl)) pa_nil))) (pg_tup rfl (pgs_cons (pg_name (i := 7) scVecs.nd rfl (Or.inr rfl)) (pgs_cons (pg_name (i := 8) scVecs.nd rfl (Or.inr rfl)) pgs_nil))))
          (pss_cons (ps_set (i := 9) scVecs.nd rfl (Or.inr rfl) (pe_own GT (hr.mono (by decide)) pass0 (pa_cons (pv 0) (pa_cons (pv 1) pa_nil))))
          (pss_one (ps_setLc (i := 6) (own := [("_law_spot", 10)]) (g := gName 10) (tt := tYes) (te := tBlend K) rfl scVecs.nd rfl rfl (sw_true rfl rfl rfl (by decide +kernel)) (pi_range1 rfl zr (pa_cons (pv 2) pa_nil)) (blkOk_by (N := NVecs) (sc := defScope sVecs) (by decide +kernel)) (fun _ _ _ _ _ => (pg_name (i := 10) scVecs.nd rfl (Or.inl rfl))) (fun _ _ _ _ _ => pts_nil) (fun _ _ _ _ _ => (pe_op op_modN (pe_callTy call_int1 (by rfl) zi (by decide +kernel) (pa_cons (pe_op op_add (pe_op op_mul (pe_ix ix_tup (pv 7) (pv 10) (fun _ _ => rfl)) (pv 9)) (pe_ix ix_tup (pv 8) (pv 10) (fun _ _ => rfl))) pa_nil)) (pv 1))))))) pss_nil)
        (pss_one (ps_expr (pe_bm PySem.F.plainAttrs_list PySem.F.slot_list_append PySem.F.type_list_append mt_append (pv 4) (pa_cons (pe_callTy call_tuple_of (by rfl) zt (by decide +kernel) (pa_cons (pv 6) pa_nil)) pa_nil)))))))
      (pss_one (ps_ret (pv 4))))), ?_⟩
    refine ⟨by show 0 ≤ sizeLine; decide, fun F0 hF => ?_⟩
    have nF : F0 ≠ p := (bx.ne hF).symm
    refine ⟨_, rfl, (kk : Int), rfl, by omega, by omega, ?_⟩
    refine for_range (lo := 0) (n := kk) (fun i σ' H' => (∃ y5 y6 y7 y8 y9, σ' = [some (.ref p), some (.int q), some (.int (ww : Nat)), some (.int (kk : Nat)), some (.ref F0), y5, y6, y7, y8, y9, none]) ∧ Grow p H H' ∧ Bx H' p (n + i * 40) ∧ ∃ acc m, H' F0 = some (.lst acc) ∧ AnyL H' acc (m.map tupI) ∧ BigM i ww m) ⟨⟨_, _, _, _, _, rfl⟩, Grow.of (same_new hF), (bx.keep (same_new hF)).more (by omega), [], [], upd_same, .nil, rfl, fun r hr => (nomatch hr)⟩ ?_ ?_
    · rintro i σ' H1 hi ⟨⟨y5, y6, y7, y8, y9, rfl⟩, g1, b1, acc, m, ea, al, bm⟩
      have lacc := anyL_len al
      rw [List.length_map, bm.h] at lacc
      refine ⟨_, rfl, (ww : Int), rfl, by omega, by omega, fun D hD => ?_⟩
      refine lc_boxN (walk_rng (n := ww)) (by omega) hD b1 (fun _ _ => trivial) (t := 3) (fun d => ∃ e : Int, d = .int e ∧ Big e) (by rintro d ⟨e, rfl, _⟩; rfl) ?_ ?_
      · rintro j y H2 hj rfl g2 b2
        refine ⟨rfl, fun k3 hk3 => ?_⟩
        exact ⟨_, rfl, _, rfl, p, q, _, rfl, hq, b2, by omega, fun e H3 he G3 B3 => hk3 _ _ _ G3 (B3.more (by omega)) ⟨e, rfl, he⟩ (.int _)⟩
      · intro H2 ac ds g2 b2 hac alr ld gd
        have nD : D ≠ p := (b1.ne hD).symm
        obtain ⟨r, e1, e2⟩ : ∃ r : List Int, ds = r.map .int ∧ ∀ e, e ∈ r → Big e := by
          clear alr ld
          induction ds with
          | nil => exact ⟨[], rfl, fun e he => (nomatch he)⟩
          | cons d ds ih =>
            obtain ⟨r, h1, h2⟩ := ih fun e he => gd e (List.mem_cons_of_mem _ he)
            obtain ⟨e, h3, h4⟩ := gd d List.mem_cons_self
            exact ⟨e :: r, by rw [h3, h1] <;> rfl, fun z hz => (List.mem_cons.mp hz).elim (fun y => by rw [y]; exact h4) (h2 z)⟩
        subst e1
        rw [List.length_map] at ld
        have er := anyL_ints alr
        subst er
        have nF1 : F0 ≠ p := nF
        have ea2 := g2 _ _ nF1 ea
        have al2 := tups_lt al (grow_lt b1 g2)
        have g12 := g1.trans g2
        refine ⟨fun σ' H' => (∃ (y7 y8 y9 : Option V) (l : Addr) (r : List Int), σ' = [some (.ref p), some (.int q), some (.int (ww : Nat)), some (.int (kk : Nat)), some (.ref F0), some (.int (0 + (i : Int))), some (.ref l), y7, y8, y9, none] ∧ H' l = some (.lst (r.map V.int)) ∧ r.length = ww ∧ ∀ e, e ∈ r → Big e) ∧ Grow p H2 H' ∧ Bx H' p (n + i * 40 + 40), ?_, ?_⟩
        · refine ⟨_, rfl, F0, acc, rfl, .inl (SqL.of ea2), _, _, rfl, rfl, _, rfl, ite2 (fun z => ?_) (fun _ => iteF ⟨⟨_, _, _, _, _, rfl, hac, ld, e2⟩, Grow.refl, b2.more (by omega)⟩)⟩
          have hlen : 1 < acc.length := by have := of_decide_eq_true z; omega
          refine ⟨_, rfl, p, 3, _, rfl, by decide, by decide, b2, by omega, fun t3 H3 t30 t31 G3 B3 => ?_⟩
          refine ⟨rfl, _, rfl, ?_⟩
          by_cases e0 : V.int t3 = V.int 0
          case neg =>
            rw [decide_eq_false e0]
            exact iteF ⟨⟨_, _, _, _, _, rfl, G3 _ _ nD hac, ld, e2⟩, G3, B3.more (by omega)⟩
          rw [decide_eq_true e0]
          refine iteT ?_
          have ea3 := G3 _ _ nF1 ea2
          have al3 := tups_lt al2 (grow_lt b2 G3)
          refine ⟨_, rfl, _, rfl, _, rfl, F0, acc, rfl, .inl (SqL.of ea3), p, _, _, rfl, by omega, by omega, B3, by omega, fun i1 H4 i10 i11 G4 B4 => ?_⟩
          obtain ⟨j1, rfl⟩ : ∃ j : Nat, i1 = (j : Int) := ⟨i1.toNat, by omega⟩
          have ea4 := G4 _ _ nF1 ea3
          have al4 := tups_lt al3 (grow_lt B3 G4)
          obtain ⟨t1, r1, ht1, hr1, et1⟩ := tup_row al4 (j := j1) (by rw [bm.h]; omega)
          refine ⟨F0, acc, _, _, rfl, rfl, SqL.of ea4, atI_nat ht1, ?_⟩
          refine ⟨_, rfl, _, rfl, _, rfl, F0, acc, rfl, .inl (SqL.of ea4), p, _, _, rfl, by omega, by omega, B4, by omega, fun i2 H5 i20 i21 G5 B5 => ?_⟩
          obtain ⟨j2, rfl⟩ : ∃ j : Nat, i2 = (j : Int) := ⟨i2.toNat, by omega⟩
          have ea5 := G5 _ _ nF1 ea4
          have al5 := tups_lt al4 (grow_lt B4 G5)
          obtain ⟨t2, r2, ht2, hr2, et2⟩ := tup_row al5 (j := j2) (by rw [bm.h]; omega)
          have et15 := grow_lt B4 G5 _ _ et1 (fun xs z => by cases z)
          refine ⟨F0, acc, _, _, rfl, rfl, SqL.of ea5, atI_nat ht2, by show 2 ≤ sizeLine; decide, fun t ht => ?_⟩
          have k6 := same_new (o := .tup [.ref t1, .ref t2]) ht
          refine ⟨t, _, rfl, SqT.of upd_same, rfl, _, _, rfl, _, _, rfl, rfl, ?_⟩
          have B6 := B5.keep k6
          have et16 := k6 _ _ et15
          have et26 := k6 _ _ et2
          have G6 := (G3.trans G4).trans (G5.trans (Grow.of k6))
          generalize upd H5 t (.tup [.ref t1, .ref t2]) = H6 at B6 et16 et26 G6 ⊢
          refine ⟨_, rfl, _, rfl, p, q, _, rfl, by omega, by omega, B6, by omega, fun tt H7 tt0 tt1 G7 B7 => ?_⟩
          have et17 := grow_lt B6 G7 _ _ et16 (fun xs z => by cases z)
          have et27 := grow_lt B6 G7 _ _ et26 (fun xs z => by cases z)
          obtain ⟨w1, c1⟩ := bm.w r1 hr1
          obtain ⟨w2, c2⟩ := bm.w r2 hr2
          refine ⟨_, rfl, (ww : Int), rfl, by omega, by omega, fun D2 hD2 => ?_⟩
          refine lc_tup (n := ww) walk_range (by omega) hD2 (fun _ _ => trivial) (fun j => .int ((r1[j]?.getD 0 * tt + r2[j]?.getD 0).fmod q)) (fun _ _ => rfl) ?_ ?_
          · rintro j y H8 hj rfl s8 _
            refine ⟨rfl, fun k3 hk3 => ?_⟩
            have ej : (0 + (j : Int)) = ((j : Nat) : Int) := by omega
            show tBlend K [some (.ref p), some (.int q), some (.int (ww : Nat)), some (.int (kk : Nat)), some (.ref F0), some (.int (0 + (i : Int))), some (.ref D), some (.ref t1), some (.ref t2), some (.int tt), some (.int (0 + (j : Int)))] H8 k3
            rw [ej]
            have g1' : (r1.map V.int)[j]? = some (.int (r1[j]?.getD 0)) := by
              rw [List.getElem?_map, List.getElem?_eq_getElem (by omega)] <;> rfl
            have g2' : (r2.map V.int)[j]? = some (.int (r2[j]?.getD 0)) := by
              rw [List.getElem?_map, List.getElem?_eq_getElem (by omega)] <;> rfl
            refine ⟨_, rfl, _, rfl, t1, _, _, _, rfl, rfl, SqT.of (s8 _ _ et17), atI_nat g1', _, rfl, _, _, rfl, rfl, .inr ⟨by omega, by omega⟩, ?_⟩
            refine ⟨_, rfl, _, rfl, t2, _, _, _, rfl, rfl, SqT.of (s8 _ _ et27), atI_nat g2', _, _, rfl, rfl, .inl ⟨_, rfl, _, rfl, _, _, rfl, rfl, (by show q ≠ 0; omega), ?_⟩⟩
            exact hk3 _ _ (Same.refl _) (.int _)
          · intro H8 ac2 s8 ha8 al8
            have e8 : ac2 = ((List.range ww).map fun j => (r1[j]?.getD 0 * tt + r2[j]?.getD 0).fmod q).map V.int := anyL_ints (by rw [List.map_map]; exact al8)
            subst e8
            refine ⟨⟨_, _, _, D2, _, rfl, ha8, by rw [List.length_map, List.length_range], fun e he => ?_⟩, G6.trans (G7.trans (Grow.of s8)), (B7.keep s8).more (by omega)⟩
            obtain ⟨j, _, rfl⟩ := List.mem_map.mp he
            have m0 := Int.emod_nonneg (r1[j]?.getD 0 * tt + r2[j]?.getD 0) (show q ≠ 0 by omega)
            have m1 := Int.emod_lt_of_pos (r1[j]?.getD 0 * tt + r2[j]?.getD 0) (show 0 < q by omega)
            rw [fmod_pos (by omega)]
            unfold Big
            have : (10 : Nat) ^ 29 > 100 := by decide
            omega
        · rintro σ' H3 ⟨⟨y7', y8', y9', l, r', rfl, el, lr', br'⟩, g3, b3⟩
          have ea3 := g3 _ _ nF1 ea2
          have al3 := tups_lt al2 (grow_lt b2 g3)
          refine ⟨_, rfl, .inl ⟨rfl, _, SqL.of ea3⟩, _, rfl, l, _, rfl, .inl ⟨SqL.of el, fun t ht => ?_⟩⟩
          have k4 := same_new (o := .tup (r'.map V.int)) ht
          have ea4 := k4 _ _ ea3
          refine ⟨F0, acc, _, rfl, rfl, ea4, Nat.lt_of_le_of_lt (by omega : acc.length ≤ 6) (by decide), ?_⟩
          have lt5 : Lt (upd H3 t (.tup (r'.map V.int))) (upd (upd H3 t (.tup (r'.map V.int))) F0 (.lst (acc ++ [.ref t]))) := Lt.put ea4
          have al4 : AnyL (upd H3 t (.tup (r'.map V.int))) (acc ++ [.ref t]) ((m ++ [r']).map tupI) := by
            rw [List.map_append]
            exact anyL_snoc (anyL_keep k4 al3) (.tup upd_same (ints_anyL r'))
          have al5 := tups_lt al4 lt5
          have nF5 : Grow p H (upd (upd H3 t (.tup (r'.map V.int))) F0 (.lst (acc ++ [.ref t]))) := fun b o nb eo => by
            rw [upd_ne (ne_of_none eo hF)]
            exact k4 _ _ ((g12.trans g3) b o nb eo)
          refine ⟨⟨_, _, _, _, _, rfl⟩, nF5, ?_, acc ++ [.ref t], m ++ [r'], upd_same, al5, ?_, ?_⟩
          · obtain ⟨a1, a2, a3, h1, rest⟩ := b3.keep k4
            exact Bx.more ⟨a1, a2, a3, by rw [upd_ne (Ne.symm nF1)]; exact h1, rest⟩ (by rw [Nat.succ_mul]; omega)
          · rw [List.length_append, bm.h] <;> rfl
          · intro r2 hr2
            rcases List.mem_append.mp hr2 with z | z
            · exact bm.w r2 z
            · rw [List.mem_singleton.mp z]
              exact ⟨lr', br'⟩
    · rintro σ' H1 ⟨⟨y5, y6, y7, y8, y9, rfl⟩, g1, b1, acc, m, ea, al, bm⟩
      exact ⟨_, rfl, k F0 acc m H1 hF g1 (b1.more (by omega)) ea al bm⟩
theorem okTurn {f : Addr} {fd : FuncData} (F : Fun K "_law_turn" "_law_turn" sTurn f fd) (zr : mg "range" = none) (zi : mg "int" = none) : FnOk P w K mg base CX0 1 f fd ["_law_p", "_law_item"] spTurn := by
  refine F.ok scTurn (fun vs H Q E h => ?_) (fun cdv A outer s H vs Q E hr h => ?_)
  · obtain ⟨p, x, rfl, _⟩ := h
    rfl
  · obtain ⟨p, n, rfl, hp, nz, hn, k1⟩ := h
    have pp := prime_pos hp
    refine ⟨_, (pss_one (ps_ret (pe_ix ix_list (pe_lc (own := [("_law_k", 2)]) (g := gName 2) rfl scTurn.nd (pi_range2 rfl zr (pa_cons pe_int (pa_cons (pv 0) pa_nil))) (blkOk_by (N := NTurn) (sc := defScope sTurn) (by decide +kernel)) (fun _ _ _ _ _ => (pg_name (i := 2) scTurn.nd rfl (Or.inl rfl)))
      (fun _ _ _ _ _ => (pts_one (pt_cmpR op_eq (pe_op op_modN (pe_callTy call_int1 (by rfl) zi (by decide +kernel) (pa_cons (pe_op op_mul (pv 1) (pv 2)) pa_nil)) (pv 0)) pe_int (nomark _)))) (fun _ _ _ _ _ => (pv 2))) pe_int (fun _ _ => rfl)))), ?_⟩
    refine ⟨_, rfl, 1, p, rfl, ⟨by omega, by omega, by omega, by omega⟩, fun D hD => ?_⟩
    refine lc_range (lo := 1) (n := (p - 1).toNat) (fun i H' => ∃ acc : List Int, H' = upd H D (.lst (acc.map V.int)) ∧ acc.length ≤ i ∧ (∀ r ∈ acc, 0 < r ∧ r < p ∧ (r * n) % p = 1) ∧ (∀ j : Nat, j < i → ((1 + (j : Int)) * n) % p = 1 → acc ≠ []))
      ⟨[], rfl, Nat.le_refl _, fun r hr => (nomatch hr), fun j hj => absurd hj (Nat.not_lt_zero _)⟩ ?_ ?_
    · rintro i H' hi ⟨acc, rfl, hl, hr1, hr2⟩
      have hi2 : (i : Int) < p - 1 := by omega
      refine ⟨rfl, _, rfl, _, rfl, _, _, rfl, rfl, .inr ⟨by omega, by omega⟩, .inl ⟨_, rfl, _, rfl, _, _, rfl, rfl, (by show p ≠ 0; omega), rfl, _, rfl, ?_⟩⟩
      rw [dec_intR, fmod_pos (by omega), Int.mul_comm]
      refine ite2 (fun z => ⟨_, rfl, _, upd_same, ?_, ?_⟩) (fun z => ?_)
      · rw [List.length_map]
        exact Nat.lt_of_le_of_lt (Nat.le_trans hl (by omega : i ≤ 100)) (by decide)
      · refine ⟨acc ++ [1 + (i : Int)], ?_, ?_, ?_, ?_⟩
        · rw [upd_upd, List.map_append] <;> rfl
        · rw [List.length_append, List.length_singleton]
          omega
        · intro r hr
          rcases List.mem_append.mp hr with h | h
          · exact hr1 r h
          · have e := List.mem_singleton.mp h
            subst e
            exact ⟨by omega, by omega, of_decide_eq_true z⟩
        · intro j _ _ h
          exact absurd h (by simp)
      · refine ⟨acc, rfl, by omega, hr1, fun j hj e => ?_⟩
        by_cases h : j = i
        · subst h
          exact absurd (decide_eq_true e) z
        · exact hr2 j (by omega) e
    · rintro H' ⟨acc, rfl, hl, hr1, hr2⟩
      obtain ⟨j, j1, j2⟩ := has_inverse hp nz
      have ne := hr2 j (by omega) j2
      cases acc with
      | nil => exact absurd rfl ne
      | cons r acc =>
        obtain ⟨a, b, c⟩ := hr1 r List.mem_cons_self
        exact ⟨D, _, 0, _, rfl, rfl, SqL.of upd_same, atI_nat (j := 0) rfl, k1 r _ (same_new hD) a b (by rw [Int.mul_comm]; exact c)⟩
abbrev tLessC (K : PySem.W.Frag) : TE := tOp (rI (fun _ j => j ≠ 0) fun i j => .int (i.fmod j)) (tCB (fun xs H Q => (∃ i, xs = [.int i] ∧ Q (.int i) H) ∨ ∃ k, xs = [.bl k] ∧ Q (.int (if k then 1 else 0)) H) (tCons (tOp (rI0 fun i j => .int (i - j)) (tOp (rIxL K) (tVar 4) (tVar 5)) (tOp (rI CMul fun i j => .int (i * j)) (tOp (rIxL K) (tVar 4) (tVar 3)) (tOp (rIx K) (tVar 2) (tVar 5)))) tNil)) (tVar 0)
abbrev tLenK (K : PySem.W.Frag) (i : Nat) : TE := tCB (fun xs H Q => ∃ p ys, xs = [.ref p] ∧ (SqL K H p ys ∨ SqT K H p ys) ∧ Q (.int ys.length) H) (tCons (tVar i) tNil)
theorem okLess {f : Addr} {fd : FuncData} (F : Fun K "_law_less" "_law_less" sLess f fd) (zr : mg "range" = none) (zi : mg "int" = none) (zl : mg "len" = none) : FnOk P w K mg base CX0 1 f fd ["_law_p", "_law_rows", "_law_head", "_law_spot"] spLess := by
  refine F.ok scLess (fun vs H Q E h => ?_) (fun cdv A outer s H vs Q E hr h => ?_)
  · obtain ⟨p, va, vb, rs, hd, db, st, rfl, _⟩ := h
    rfl
  · obtain ⟨p, va, vb, rs, hd, db, st, rfl, hp, av, bv, eb, l1, l2, hs, hl, sm, q⟩ := h
    have pp := prime_pos hp
    refine ⟨_, (pss_one (ps_ret (pe_lc (own := [("_law_row", 4)]) (g := gName 4) (tt := tYes) (te := tLc (iRng1 (tCons (tLenK K 2) tNil)) (gName 5) tYes (tLessC K) [5]) rfl scLess.nd (pi_seq (pv 1)) (blkOk_by (N := NLess) (sc := defScope sLess) (by decide +kernel)) (fun _ _ _ _ _ => (pg_name (i := 4) scLess.nd rfl (Or.inr rfl))) (fun _ _ _ _ _ => pts_nil)
      (fun _ _ _ _ _ => (pe_lc (own := [("_law_k", 5)]) (g := gName 5) (tt := tYes) (te := tLessC K) rfl scLess.nd (pi_range1 (by rfl) zr (pa_cons (pe_callB call_len_seq (by rfl) zl (by decide +kernel) (pa_cons (pv 2) pa_nil)) pa_nil)) (blkOk_by (N := NLess) (by rfl)) (fun _ _ _ _ _ => (pg_name (i := 5) scLess.nd rfl (Or.inl rfl))) (fun _ _ _ _ _ => pts_nil)
        (fun _ _ _ _ _ => (pe_op op_modN (pe_callTy call_int1 (by rfl) zi (by decide +kernel) (pa_cons (pe_op op_sub (pe_ix ix_list (pv 4) (pv 5) (fun _ _ => rfl)) (pe_op op_mul (pe_ix ix_list (pv 4) (pv 3) (fun _ _ => rfl)) (pe_ix ix_seq (pv 2) (pv 5) (fun _ _ => rfl)))) pa_nil)) (pv 0)))))))), ?_⟩
    cases av with
    | lst ea ha =>
      rename_i a xs
      obtain ⟨kb, b, rfl, hsb⟩ := row_seq bv eb
      · skip
        have ln := anyL_len ha
        rw [List.length_map] at ln
        refine ⟨_, rfl, a, true, xs, rfl, SqL.of ea, fun D hD => ?_⟩
        refine lc_same (walk_seq (k := true)) (by omega) hD (fun H' s' => SqL.of (s' _ _ ea)) (fun i => rowD (lessR p hd st (rs[i]?.getD []))) ?_ ?_
        · rintro i x H1 hi hx s1 ⟨o, hd1⟩
          refine ⟨rfl, fun k' hk => ?_⟩
          obtain ⟨dx, hdx, ax⟩ := anyL_at ha hx
          rw [List.getElem?_map] at hdx
          obtain ⟨r, hr1, rfl⟩ : ∃ r, rs[i]? = some r ∧ rowD r = dx := by
            cases e : rs[i]? with
            | none => rw [e] at hdx; cases hdx
            | some r =>
              rw [e] at hdx
              exact ⟨r, rfl, Option.some.inj hdx⟩
          have hrm := List.mem_of_getElem? hr1
          have rl := hl r hrm
          rw [hr1] at hk
          cases ax with
          | lst er har =>
            rename_i c zs
            have ezs := anyL_ints har
            subst ezs
            refine ⟨_, rfl, b, _, rfl, sqb_or (hsb s1 K), _, rfl, by omega, by rw [List.length_map]; omega, fun D2 hD2 => ?_⟩
            have hdl : ((hd.map V.int).length : Int).toNat = hd.length := by rw [List.length_map] <;> rfl
            refine lc_same (n := ((hd.map V.int).length : Int).toNat) walk_rng (by omega) hD2 (fun _ _ => trivial) (fun k => .int ((cl r k - cl r st * cl hd k) % p)) ?_ ?_
            · rintro k x H2 hk2 rfl s2 _
              refine ⟨rfl, fun k4 hk4 => ?_⟩
              have s12 := s1.trans s2
              have hk3 : k < hd.length := by omega
              have hkr : k < r.length := by omega
              have hsr : st < r.length := by omega
              have at1 : (r.map V.int)[k]? = some (.int (cl r k)) := by
                unfold cl
                rw [List.getElem?_map, List.getElem?_eq_getElem hkr] <;> rfl
              have at2 : (r.map V.int)[st]? = some (.int (cl r st)) := by
                unfold cl
                rw [List.getElem?_map, List.getElem?_eq_getElem hsr] <;> rfl
              have at3 : (hd.map V.int)[k]? = some (.int (cl hd k)) := by
                unfold cl
                rw [List.getElem?_map, List.getElem?_eq_getElem hk3] <;> rfl
              have b3 : 0 ≤ cl hd k ∧ cl hd k < 13 := by
                unfold cl
                rw [List.getElem?_eq_getElem hk3]
                exact sm hd List.mem_cons_self _ (List.getElem_mem hk3)
              refine ⟨_, rfl, _, rfl, c, _, (k : Int), _, rfl, rfl, SqL.of (s12 _ _ er), atI_nat at1, _, rfl, _, rfl, c, _, (st : Int), _, rfl, rfl, SqL.of (s12 _ _ er), atI_nat at2, _, rfl, _, rfl, ix_rowg (hsb s12 K) hk3 ?_⟩
              refine ⟨_, _, rfl, rfl, .inr ⟨by omega, by omega⟩, _, _, rfl, rfl, .inl ⟨_, rfl, _, rfl, _, p, rfl, rfl, (by show p ≠ 0; omega), ?_⟩⟩
              show k4 (.int ((cl r k - cl r st * cl hd k).fmod p)) H2
              rw [fmod_pos (by omega)]
              exact hk4 _ _ (fun _ _ z => z) (.int _)
            · intro H2 acc s2 ha2 hal2
              refine hk (.ref D2) H2 s2 (.lst (xs := acc) ?_ ?_)
              · rw [del_ne (ne_of_none hd1 hD2).symm]
                exact ha2
              · have e2 : acc = (lessR p hd st r).map V.int := anyL_ints (H := del H2 D2) (by
                  unfold lessR
                  rw [List.map_map, ← hdl]
                  exact hal2)
                rw [e2]
                exact ints_anyL _
        · intro H1 acc s1 ha1 hal1
          refine q D acc H1 hD s1 ha1 ?_
          have e := map_get (fun r => rowD (lessR p hd st r)) [] rs
          rw [← ln] at e
          rw [e] at hal1
          rw [List.map_map]
          exact hal1
end
end K6

set_option Elab.async false
set_option linter.all false
set_option maxRecDepth 100000
set_option maxHeartbeats 1000000
/-! TkJH: for the law's own base. -/
namespace Rw
open PySem PySem.Spec PyProof.Rows L2
theorem eqv_nilL (ds : List PyData) : PyData.eqv (.list ds) (.list []) = decide (ds = []) := by
  cases ds with
  | nil => rw [PyData.eqv, PyData.eqvAll]; rfl
  | cons d ds => rw [PyData.eqv, PyData.eqvAll]; rfl
theorem rowD_ok (r : List Int) : (rowD r).canLay0 = true ∧ (rowD r).depth ≤ 10 := by
  constructor
  · refine lay_list fun d hd => ?_
    obtain ⟨n, _, rfl⟩ := List.mem_map.mp hd
    rfl
  · have h3 : PyData.depthAll (r.map PyData.int) ≤ 3 := dep_le fun x hx => by
      obtain ⟨n, _, rfl⟩ := List.mem_map.mp hx
      exact dep_int _
    unfold rowD
    simp only [PyData.depth]
    omega
theorem rowsD_ok (rs : List (List Int)) : (rowsD rs).canLay0 = true ∧ (rowsD rs).depth ≤ 64 := by
  constructor
  · refine lay_list fun d hd => ?_
    obtain ⟨r, _, rfl⟩ := List.mem_map.mp hd
    exact (rowD_ok r).1
  · have h3 : PyData.depthAll (rs.map rowD) ≤ 20 := dep_le fun x hx => by
      obtain ⟨r, _, rfl⟩ := List.mem_map.mp hx
      have := (rowD_ok r).2
      omega
    unfold rowsD
    simp only [PyData.depth]
    omega
theorem base_of_elim {p : Int} {w w' : Nat} {rows left found : List (List Int)} (e : Elim p w' rows w' left found) (h : (rows = [] ∧ w' = 0) ∨ w' = w) : BaseR p w rows found := by
  obtain ⟨⟨L, R⟩, s1, s2⟩ := e.done
  rcases h with ⟨h, h2⟩ | h
  · subst h2
    subst h
    have : found = [] := by
      cases found with
      | nil => rfl
      | cons r rs => exact absurd (R.lt 0 (by simp)) (Nat.not_lt_zero _)
    subst this
    exact ⟨fun _ z => (nomatch z), ⟨fun _ => 0, ⟨fun i hi => absurd hi (Nat.not_lt_zero _), fun i j _ hj => absurd hj (Nat.not_lt_zero _), fun i hi => absurd hi (Nat.not_lt_zero _), fun i j hi => absurd hi (Nat.not_lt_zero _), fun i c hi => absurd hi (Nat.not_lt_zero _), fun i c hi => absurd hi (Nat.not_lt_zero _)⟩⟩, fun _ z => (nomatch z), fun _ z => (nomatch z)⟩
  · subst h
    exact ⟨fun r hr => e.len r (List.mem_append_right _ hr), ⟨L, R⟩, s1, s2⟩
theorem same_put {H H' : Hp} {l : Addr} {o : HO} (k : Same H H') (h : H l = none) : Same H (upd H' l o) := fun b x e => by
  rw [upd_ne (ne_of_none e h)]
  exact k b x e
/-- what a row less a head holds, within the prime -/
theorem less_rng {p : Int} {hd r : List Int} {s : Nat} (hp : 0 < p) : ∀ x, x ∈ lessR p hd s r → 0 ≤ x ∧ x < p := fun x hx => by
  obtain ⟨k, _, rfl⟩ := List.mem_map.mp hx
  exact ⟨Int.emod_nonneg _ (by omega), Int.emod_lt_of_pos _ hp⟩
theorem unit_rng {p t : Int} {r : List Int} (hp : 0 < p) : ∀ x, x ∈ unitR p t r → 0 ≤ x ∧ x < p := fun x hx => by
  obtain ⟨k, _, rfl⟩ := List.mem_map.mp hx
  exact ⟨Int.emod_nonneg _ (by omega), Int.emod_lt_of_pos _ hp⟩
end Rw

set_option Elab.async false
set_option linter.all false
set_option maxRecDepth 100000
set_option maxHeartbeats 8000000
/-! K6F: the law's own base of some vectors. -/
namespace K6
open PySem PySem.Spec PyProof.Rows L2 Rw
abbrev sBaseL : Stmt := top 44
abbrev sRankL : Stmt := top 45
abbrev NBaseL : List Str := ["_law_p", "_law_rows", "_law_left", "_law_found", "_law_spot", "_law_heads", "_law_head", "_law_turn_here", "_law_row", "_law_k", "_law_item"]
theorem scBaseL : FnScope NBaseL ["_law_p", "_law_rows"] (defScope sBaseL) := ⟨rfl, rfl, rfl, by decide +kernel, rfl, by decide +kernel, by decide +kernel⟩
abbrev NRankL : List Str := ["_law_p", "_law_rows"]
theorem scRankL : FnScope NRankL ["_law_p", "_law_rows"] (defScope sRankL) := ⟨rfl, rfl, rfl, by decide +kernel, rfl, by decide +kernel, by decide +kernel⟩
abbrev tMod10 : TE := tOp rModN (tCB rInt1 (tCons (tVar 10) tNil)) (tVar 0)
abbrev tMul10 : TE := tOp rModN (tCB rInt1 (tCons (tOp (rI CMul fun i j => .int (i * j)) (tVar 10) (tVar 7)) tNil)) (tVar 0)
abbrev tHd (K : PySem.W.Frag) : TE := tOp rNe (tOp (rIxL K) (tOp (rIxL K) (tVar 2) (tVar 9)) (tVar 4)) (tC (.int 0))
/-- where the law's elimination stands -/
def LF (p : Int) (W : Nat) (rows : List (List Int)) (H H' : Hp) (l g : Addr) (i : Nat) : Prop := ∃ acc bcc left found, Same H H' ∧ H l = none ∧ H g = none ∧ l ≠ g ∧ H' l = some (.lst acc) ∧ AnyL H' acc (left.map rowD) ∧ H' g = some (.lst bcc) ∧ AnyL H' bcc (found.map rowD) ∧ Elim p W rows i left found ∧ left.length + found.length ≤ 90
theorem ixn2 {n j : Nat} (hj : j < n) : seqIndex? ((j : Nat) : Int) n = some j := by
  have h : ixN n (j : Int) = some j := by
    unfold ixN
    rw [if_pos (by omega), if_pos (by omega)]
    simp
  exact (ixN_seq h).1
section
variable {P : Program} {w : World} {K : PySem.W.Frag} {mg : Str → Option Value} {base : Heap}
theorem okBaseL {f : Addr} {fd : FuncData} (F : Fun K "_law_base" "_law_base" sBaseL f fd) (zr : mg "range" = none) (zl : mg "len" = none) (zi : mg "int" = none) (zt : mg "tuple" = none) (GT : Own P w K mg base CX0 1 "_law_turn" ["_law_p", "_law_item"] [] spTurn) (GL : Own P w K mg base CX0 1 "_law_less" ["_law_p", "_law_rows", "_law_head", "_law_spot"] [] spLess) :
    FnOk P w K mg base CX0 2 f fd ["_law_p", "_law_rows"] spBaseL := by
  refine F.ok scBaseL (fun vs H Q E h => ?_) (fun cdv A outer s H vs Q E hr h => ?_)
  · obtain ⟨p, v, d, rows, W, rfl, _⟩ := h
    rfl
  · obtain ⟨p, v, d, rows, W, rfl, hp, av, ed, ⟨ds0, rfl⟩, l90, w12, hrow, q⟩ := h
    have pp := prime_pos hp
    refine ⟨_, (pss_cons (ps_asg (pe_tup (pa_cons (pe_lc (own := [("_law_row", 8)]) (g := gName 8) (tt := tYes) (te := tLc (iSeq K (tVar 8)) (gName 10) tYes tMod10 [10]) rfl scBaseL.nd (pi_seq (pv 1)) (blkOk_by (N := NBaseL) (sc := defScope sBaseL) (by decide +kernel)) (fun _ _ _ _ _ => (pg_name (i := 8) scBaseL.nd rfl (Or.inl rfl))) (fun _ _ _ _ _ => pts_nil) (fun _ _ _ _ _ => (pe_lc (own := [("_law_item", 10)]) (g := gName 10) (tt := tYes) (te := tMod10) rfl scBaseL.nd (pi_seq (pv 8)) (blkOk_by (N := NBaseL) (by rfl)) (fun _ _ _ _ _ => (pg_name (i := 10) scBaseL.nd rfl (Or.inl rfl))) (fun _ _ _ _ _ => pts_nil) (fun _ _ _ _ _ => (pe_op op_modN (pe_callTy call_int1 (by rfl) zi (by decide +kernel) (pa_cons (pv 10) pa_nil)) (pv 0)))))) (pa_cons (pe_lst pa_nil) pa_nil))) (pg_tup rfl (pgs_cons (pg_name (i := 2) scBaseL.nd rfl (Or.inr rfl)) (pgs_cons (pg_name (i := 3) scBaseL.nd rfl (Or.inl rfl)) pgs_nil))))
      (pss_cons (ps_for PassesOwn.never rfl (pi_range1 rfl zr (pa_cons (pe_ifExp (pt_cmpR (op_neD (hr.units)) (pv 2) (pe_lst pa_nil) (nomark _)) (pe_callB call_len_seq (by rfl) zl boot_len (pa_cons (pe_ix ix_list (pv 2) pe_int (fun _ _ => rfl)) pa_nil)) pe_int) pa_nil)) (pg_name (i := 4) scBaseL.nd rfl (Or.inr rfl)) (pss_cons (ps_setLc (i := 5) (own := [("_law_k", 9)]) (g := gName 9) (tt := tTest (tHd K)) rfl scBaseL.nd rfl rfl (sw_true rfl rfl rfl (by decide +kernel)) (pi_range1 rfl zr (pa_cons (pe_callB call_len_seq (by rfl) zl boot_len (pa_cons (pv 2) pa_nil)) pa_nil)) (blkOk_by (N := NBaseL) (sc := defScope sBaseL) (by decide +kernel)) (fun _ _ _ _ _ => (pg_name (i := 9) scBaseL.nd rfl (Or.inl rfl))) (fun _ _ _ _ _ => (pts_one (pt_cmpR op_ne (pe_ix ix_list (pe_ix ix_list (pv 2) (pv 9) (fun _ _ => rfl)) (pv 4) (fun _ _ => rfl)) pe_int (nomark _)))) (fun _ _ _ _ _ => (pv 9)))
        (pss_one (ps_if (pt_cmpR (op_neD (hr.units)) (pv 5) (pe_lst pa_nil) (nomark _)) (pss_cons (ps_set (i := 6) scBaseL.nd rfl (Or.inl rfl) (pe_bm PySem.F.plainAttrs_list PySem.F.slot_list_pop PySem.F.type_list_pop mt_popAt (pv 2) (pa_cons (pe_ix ix_list (pv 5) pe_int (fun _ _ => rfl)) pa_nil)))
          (pss_cons (ps_set (i := 7) scBaseL.nd rfl (Or.inr rfl) (pe_own GT (hr.mono (by decide)) pass0 (pa_cons (pv 0) (pa_cons (pe_ix ix_list (pv 6) (pv 4) (fun _ _ => rfl)) pa_nil))))
          (pss_cons (ps_setLc (i := 6) (own := [("_law_item", 10)]) (g := gName 10) (tt := tYes) (te := tMul10) rfl scBaseL.nd rfl rfl (sw_true rfl rfl rfl (by decide +kernel)) (pi_seq (pv 6)) (blkOk_by (N := NBaseL) (sc := defScope sBaseL) (by decide +kernel)) (fun _ _ _ _ _ => (pg_name (i := 10) scBaseL.nd rfl (Or.inl rfl))) (fun _ _ _ _ _ => pts_nil) (fun _ _ _ _ _ => (pe_op op_modN (pe_callTy call_int1 (by rfl) zi (by decide +kernel) (pa_cons (pe_op op_mul (pv 10) (pv 7)) pa_nil)) (pv 0))))
          (pss_one (ps_asg (pe_tup (pa_cons (pe_own GL (hr.mono (by decide)) pass0 (pa_cons (pv 0) (pa_cons (pv 2) (pa_cons (pv 6) (pa_cons (pv 4) pa_nil))))) (pa_cons (pe_op op_cat (pe_own GL (hr.mono (by decide)) pass0 (pa_cons (pv 0) (pa_cons (pv 3) (pa_cons (pv 6) (pa_cons (pv 4) pa_nil))))) (pe_lst (pa_cons (pv 6) pa_nil))) pa_nil))) (pg_tup rfl (pgs_cons (pg_name (i := 2) scBaseL.nd rfl (Or.inr rfl)) (pgs_cons (pg_name (i := 3) scBaseL.nd rfl (Or.inl rfl)) pgs_nil)))))))) pss_nil))))
      (pss_one (ps_ret (pe_lc (own := [("_law_row", 8)]) (g := gName 8) (tt := tYes) (te := tCB (rTupOf K) (tCons (tVar 8) tNil)) rfl scBaseL.nd (pi_seq (pv 3)) (blkOk_by (N := NBaseL) (sc := defScope sBaseL) (by decide +kernel)) (fun _ _ _ _ _ => (pg_name (i := 8) scBaseL.nd rfl (Or.inl rfl))) (fun _ _ _ _ _ => pts_nil) (fun _ _ _ _ _ => (pe_callTy call_tuple_of (by rfl) zt (by decide +kernel) (pa_cons (pv 8) pa_nil)))))))), ?_⟩
    obtain ⟨k, a, xs, ds, rfl, hs, al, lk⟩ := vecs_seq av ed
    have lx := (anyL_len al).trans lk.len
    refine ⟨_, rfl, a, k, xs, rfl, hs (Same.refl _) K, fun D hD => ?_⟩
    refine lc_same (walk_seq (k := k)) (by omega) hD (fun H' s' => hs s' K) (fun i => rowD ((rows[i]?.getD []).map fun x => x % p)) ?_ ?_
    · rintro i x H1 hi hx s1 ⟨o, hd1⟩
      refine ⟨rfl, fun k' hk => ?_⟩
      obtain ⟨dx, hdx, ax⟩ := anyL_at al hx
      obtain ⟨r, hr2, er⟩ := lk.at_ i dx hdx
      rw [hr2] at hk
      obtain ⟨lr, sm⟩ := hrow r (List.mem_of_getElem? hr2)
      obtain ⟨kr, c, rfl, hc⟩ := row_seq ax er
      refine ⟨_, rfl, c, kr, r.map V.int, rfl, hc s1 K, fun D2 hD2 => ?_⟩
      refine lc_same (n := r.length) (by rw [← List.length_map (f := V.int) (as := r)]; exact walk_seq (k := kr)) (by omega) hD2 (fun H' s' => hc (s1.trans s') K) (fun j => .int (cl r j % p)) ?_ ?_
      · rintro j x H2 hj hx2 s2 _
        refine ⟨rfl, fun k4 hk4 => ?_⟩
        have ex := int_cl hx2 hj
        subst ex
        have b := sm.sm (cl r j) (List.mem_of_getElem? (at_cl hj))
        refine ⟨_, rfl, .inl ⟨_, rfl, _, rfl, _, p, rfl, rfl, (by show p ≠ 0; omega), ?_⟩⟩
        show k4 (.int ((cl r j).fmod p)) H2
        rw [fmod_pos (by omega)]
        exact hk4 _ _ (fun _ _ z => z) (.int _)
      · intro H2 acc s2 ha2 hal2
        refine hk (.ref D2) H2 s2 (.lst (xs := acc) ?_ ?_)
        · rw [del_ne (ne_of_none hd1 hD2).symm]
          exact ha2
        · have e3 : (List.range r.length).map (fun j => PyData.int (cl r j % p)) = (r.map fun x => x % p).map PyData.int := by
            rw [List.map_map]
            exact map_get (fun x => PyData.int (x % p)) 0 r
          rw [e3] at hal2
          rw [anyL_ints hal2]
          exact ints_anyL _
    · intro H1 acc s1 ha1 hal1
      have e3 : (List.range xs.length).map (fun i => rowD ((rows[i]?.getD []).map fun x => x % p)) = (rows.map fun r => r.map fun x => x % p).map rowD := by
        rw [List.map_map, lx]
        exact map_get (fun r => rowD (r.map fun x => x % p)) [] rows
      rw [e3] at hal1
      refine ⟨by show 0 ≤ sizeLine; decide, fun F0 hF => ?_⟩
      have DF : D ≠ F0 := ne_of_none ha1 hF
      have k2 := same_new (o := .lst []) hF
      have eF := upd_same (H := H1) (a := F0) (o := .lst [])
      have al2 : AnyL (upd H1 F0 (.lst [])) acc ((rows.map fun r => r.map fun x => x % p).map rowD) := anyL_keep k2 (anyL_keep (same_del (p := D)) hal1)
      refine ⟨by show 2 ≤ sizeLine; decide, fun t ht => ?_⟩
      refine ⟨t, _, rfl, SqT.of upd_same, rfl, _, _, rfl, _, _, rfl, rfl, ?_⟩
      have k3 := same_new (o := .tup [.ref D, .ref F0]) ht
      have eF3 := k3 _ _ eF
      have eD3 := k3 _ _ (k2 _ _ ha1)
      have al3 := anyL_keep k3 al2
      have s3 := s1.trans (k2.trans k3)
      have hF0 : H F0 = none := s1.free hF
      clear eF al2 k3 ht k2 hal1
      generalize upd (upd H1 F0 (.lst [])) t (.tup [.ref D, .ref F0]) = H3 at eF3 eD3 al3 s3 ⊢
      refine ⟨_, rfl, by show 0 ≤ sizeLine; decide, fun l0 hl0 => ?_⟩
      have k4 := same_new (o := .lst []) hl0
      have eF4 := k4 _ _ eF3
      have eD4 := k4 _ _ eD3
      have al4 := anyL_keep k4 al3
      have s4 := s3.trans k4
      refine ne_two (d := rowsD (rows.map fun r => r.map fun x => x % p)) (e := .list []) (.lst eD4 al4) (.lst upd_same .nil) (rowsD_ok _).1 rfl (rowsD_ok _).2 (by decide) ?_
      clear eF3 eD3 al3 s3 k4
      generalize upd H3 l0 (.lst []) = H4 at eF4 eD4 al4 s4 ⊢
      refine ⟨_, rfl, ?_⟩
      unfold rowsD
      rw [eqv_nilL]
      by_cases hrows : rows = []
      · have hb : (!decide ((rows.map fun r => r.map fun x => x % p).map rowD = [])) = false := by
          rw [hrows] <;> rfl
        rw [hb]
        refine iteF ?_
        refine ⟨_, rfl, by decide, by decide, ?_⟩
        refine for_range (lo := 0) (n := 0) (fun i σ' H' => i = 0 ∧ σ' = [some (.int p), some (.ref a), some (.ref D), some (.ref F0), none, none, none, none, none, none, none] ∧ H' = H4) ⟨rfl, rfl, rfl⟩ (fun i _ _ hi => absurd hi (Nat.not_lt_zero _)) ?_
        rintro σ' H' ⟨_, rfl, rfl⟩
        refine ⟨_, rfl, F0, true, _, rfl, SqL.of eF4, fun D5 hD5 => ?_⟩
        refine lc_same (walk_seq (k := true)) (by decide) hD5 (fun H' s' => SqL.of (s' _ _ eF4)) (fun i => .int 0) (fun i x H1 hi => absurd hi (Nat.not_lt_zero _)) ?_
        intro H6 ac s6 ha6 al6
        subst hrows
        exact q D5 ac [] H6 (s4.free hD5) (s4.trans s6) ha6 al6 ⟨fun _ z => (nomatch z), ⟨fun _ => 0, ⟨fun i hi => absurd hi (Nat.not_lt_zero _), fun i j _ hj => absurd hj (Nat.not_lt_zero _), fun i hi => absurd hi (Nat.not_lt_zero _), fun i j hi => absurd hi (Nat.not_lt_zero _), fun i c hi => absurd hi (Nat.not_lt_zero _), fun i c hi => absurd hi (Nat.not_lt_zero _)⟩⟩, fun _ z => (nomatch z), fun _ z => (nomatch z)⟩
      · obtain ⟨r0, rows0, hrows2⟩ := List.exists_cons_of_ne_nil hrows
        have hb : (!decide ((rows.map fun r => r.map fun x => x % p).map rowD = [])) = true := by
          rw [hrows2] <;> rfl
        rw [hb]
        have nW : ∀ r, r ∈ rows → r.length = W := fun r hr => (hrow r hr).1
        have el0 := Elim.start (rows := rows) (by omega : 1 < p) nW
        have len0 : (rows.map fun r => r.map fun x => x % p).length ≤ 90 := by rw [List.length_map]; exact l90
        have z0 : ∃ c, acc[0]? = some (.ref c) ∧ H4 c = some (.lst ((r0.map fun x => x % p).map V.int)) := by
          rw [hrows2] at al4
          cases al4 with
          | cons a1 _ =>
            obtain ⟨c, rfl, ec⟩ := rowD_any a1
            exact ⟨c, rfl, ec⟩
        generalize (rows.map fun r => r.map fun x => x % p) = left0 at al4 el0 len0
        refine iteT ?_
        obtain ⟨c0, hc0, ec0⟩ := z0
        refine ⟨_, rfl, D, acc, 0, _, rfl, rfl, SqL.of eD4, atI_nat (j := 0) hc0, c0, _, rfl, .inl (SqL.of ec0), ((W : Nat) : Int), ?_, by omega, by omega, ?_⟩
        · rw [List.length_map, List.length_map, nW r0 (by rw [hrows2]; exact List.mem_cons_self)]
        refine for_range (lo := 0) (n := W) (fun i σ' H' => ∃ l g y4 y5 y6 y7, σ' = [some (.int p), some (.ref a), some (.ref l), some (.ref g), y4, y5, y6, y7, none, none, none] ∧ LF p W rows H H' l g i) ⟨_, _, _, _, _, _, rfl, ⟨acc, [], left0, [], s4, hD, hF0, DF, eD4, al4, eF4, .nil, el0, by simpa using len0⟩⟩ ?_ ?_
        · rintro i σ' H5 hi ⟨l, g, y4, y5, y6, y7, rfl, ⟨ac, bc, left, found, s5, hl, hg, nlg, e1, a1, e2, a2, el, ln⟩⟩
          rw [Int.zero_add]
          have la := (anyL_len a1).trans (List.length_map _)
          have lb := (anyL_len a2).trans (List.length_map _)
          have rlen : ∀ r, r ∈ left → r.length = W := fun r hr => el.len r (List.mem_append_left _ hr)
          have flen : ∀ r, r ∈ found → r.length = W := fun r hr => el.len r (List.mem_append_right _ hr)
          have rat : ∀ (j : Nat) (r : List Int), left[j]? = some r → ∃ c, ac[j]? = some (.ref c) ∧ H5 c = some (.lst (r.map V.int)) := fun j r hj => by
            have hj2 := (List.getElem?_eq_some_iff.mp hj).1
            obtain ⟨d, hd, ad⟩ := anyL_at a1 (i := j) (List.getElem?_eq_getElem (by omega))
            rw [List.getElem?_map, hj] at hd
            cases Option.some.inj hd
            obtain ⟨c, hc, ec⟩ := rowD_any ad
            exact ⟨c, by rw [List.getElem?_eq_getElem (by omega), hc], ec⟩
          refine ⟨_, rfl, l, ac, rfl, .inl (SqL.of e1), _, rfl, by omega, by omega, fun D5 hD5 => ?_⟩
          have k5 := same_new (o := .lst []) hD5
          refine lc_range (lo := 0) (n := ac.length) (fun j H' => ∃ ks : List Nat, H' = upd H5 D5 (.lst ((ks.map fun k => ((k : Nat) : Int)).map V.int)) ∧ ks.length ≤ j ∧ (∀ k, k ∈ ks → ∃ r, left[k]? = some r ∧ cl r i ≠ 0) ∧ (ks = [] → ∀ (m : Nat) r, m < j → left[m]? = some r → cl r i = 0)) ⟨[], rfl, Nat.le_refl _, fun k z => (nomatch z), fun _ m r z => absurd z (Nat.not_lt_zero _)⟩ ?_ ?_
          · rintro j H6 hj ⟨ks, rfl, hks, h1, h2⟩
            rw [Int.zero_add]
            have hj2 : left[j]? = some left[j] := List.getElem?_eq_getElem (by omega)
            obtain ⟨c, hc, ec⟩ := rat j _ hj2
            have lr := rlen left[j] (List.getElem_mem (by omega))
            have k6 := same_new (o := .lst ((ks.map fun k => ((k : Nat) : Int)).map V.int)) hD5
            refine ⟨rfl, _, rfl, _, rfl, l, _, _, _, rfl, rfl, SqL.of (k6 _ _ e1), atI_nat hc, _, rfl, c, _, _, .int (cl left[j] i), rfl, rfl, SqL.of (k6 _ _ ec), atI_nat (by rw [List.getElem?_map, at_cl (by omega)] <;> rfl), rfl, _, rfl, ?_⟩
            by_cases z : cl left[j] i = 0
            · rw [show (!decide (V.int (cl left[j] i) = V.int 0)) = false by rw [z, decide_eq_true rfl] <;> rfl]
              refine iteF ⟨ks, rfl, by omega, h1, fun e m r hm er => ?_⟩
              by_cases y : m = j
              · subst y
                rw [hj2] at er
                cases er
                exact z
              · exact h2 e m r (by omega) er
            · rw [show (!decide (V.int (cl left[j] i) = V.int 0)) = true by rw [decide_eq_false (fun y => z (V.int.inj y))] <;> rfl]
              refine iteT ⟨_, rfl, _, upd_same, ?_, ks ++ [j], ?_, ?_, ?_, ?_⟩
              · rw [List.length_map, List.length_map]
                exact Nat.lt_of_le_of_lt (by omega : ks.length ≤ 1000) (by decide)
              · rw [upd_upd, List.map_append, List.map_append] <;> rfl
              · rw [List.length_append, List.length_singleton]
                omega
              · intro k hk
                rcases List.mem_append.mp hk with y | y
                · exact h1 k y
                · rw [List.mem_singleton.mp y]
                  exact ⟨_, hj2, z⟩
              · intro e
                exact absurd e (by simp)
          · rintro H6 ⟨ks, rfl, hks, h1, h2⟩
            have k6 := same_new (o := .lst ((ks.map fun k => ((k : Nat) : Int)).map V.int)) hD5
            have eK := upd_same (H := H5) (a := D5) (o := .lst ((ks.map fun k => ((k : Nat) : Int)).map V.int))
            have s6 := s5.trans k6
            have e16 := k6 _ _ e1
            have e26 := k6 _ _ e2
            have a16 := anyL_keep k6 a1
            have a26 := anyL_keep k6 a2
            have rat6 : ∀ (j : Nat) (r : List Int), left[j]? = some r → ∃ c, ac[j]? = some (.ref c) ∧ upd H5 D5 (.lst ((ks.map fun k => ((k : Nat) : Int)).map V.int)) c = some (.lst (r.map V.int)) := fun j r hj => by
              obtain ⟨c, h3, h4⟩ := rat j r hj
              exact ⟨c, h3, k6 _ _ h4⟩
            have nlD : l ≠ D5 := ne_of_none e1 hD5
            have hDn : H D5 = none := s5.free hD5
            clear k5 k6 rat e1 e2 a1 a2 s5 hD5
            generalize upd H5 D5 (.lst ((ks.map fun k => ((k : Nat) : Int)).map V.int)) = H6 at eK s6 e16 e26 a16 a26 rat6 ⊢
            refine ⟨_, rfl, by show 0 ≤ sizeLine; decide, fun l0 hl0 => ?_⟩
            have k7 := same_new (o := .lst []) hl0
            refine ne_two (d := rowD (ks.map fun k => ((k : Nat) : Int))) (e := .list []) (any_rowD (k7 _ _ eK)) (.lst upd_same .nil) (rowD_ok _).1 rfl (Nat.le_trans (rowD_ok _).2 (by decide)) (by decide) ?_
            refine ⟨_, rfl, ?_⟩
            have eK7 := k7 _ _ eK
            have e17 := k7 _ _ e16
            have e27 := k7 _ _ e26
            have a17 := anyL_keep k7 a16
            have a27 := anyL_keep k7 a26
            have s7 := s6.trans k7
            have rat7 : ∀ (j : Nat) (r : List Int), left[j]? = some r → ∃ c, ac[j]? = some (.ref c) ∧ upd H6 l0 (.lst []) c = some (.lst (r.map V.int)) := fun j r hj => by
              obtain ⟨c, h3, h4⟩ := rat6 j r hj
              exact ⟨c, h3, k7 _ _ h4⟩
            clear rat6 eK e16 e26 a16 a26 s6 k7 hl0
            generalize upd H6 l0 (.lst []) = H7 at eK7 e17 e27 a17 a27 s7 rat7 ⊢
            unfold rowD
            rw [eqv_nilL]
            cases ks with
            | nil =>
              refine iteF ⟨l, g, _, _, _, _, rfl, ac, bc, left, found, s7, hl, hg, nlg, e17, a17, e27, a27, el.skip fun r hr => ?_, ln⟩
              obtain ⟨m, hm⟩ := List.getElem?_of_mem hr
              exact h2 rfl m r (by have := (List.getElem?_eq_some_iff.mp hm).1; omega) hm
            | cons k ks =>
              refine iteT ?_
              obtain ⟨h0, hk, nz⟩ := h1 k List.mem_cons_self
              have hk2 := (List.getElem?_eq_some_iff.mp hk).1
              obtain ⟨c, hc, ec⟩ := rat7 k h0 hk
              have m0 : h0 ∈ left := List.mem_of_getElem? hk
              have l0W := rlen h0 m0
              have rng := fun c2 hc2 => el.rng h0 (List.mem_append_left _ m0) c2 hc2
              refine ⟨_, rfl, .inl ⟨rfl, _, SqL.of e17⟩, _, rfl, D5, _, 0, _, rfl, rfl, SqL.of eK7, atI_nat (j := 0) rfl, l, ac, ((k : Nat) : Int), k, .ref c, rfl, rfl, e17, by omega, by omega, ixn2 (by omega), hc, ?_⟩
              have refs := rows_refs a17
              have nonE : ∀ r, r ∈ left ++ found → r ≠ [] := fun r hr z => by
                have := el.len r hr
                rw [z] at this
                exact absurd this (by show ¬ (0 = W); omega)
              have a18 : AnyL (upd H7 l (.lst (ac.eraseIdx k))) (ac.eraseIdx k) ((left.eraseIdx k).map rowD) := by
                rw [← map_erase]
                exact anyL_erase k (rows_put a17 e17 refs fun r hr => nonE r (List.mem_append_left _ hr))
              have a28 : AnyL (upd H7 l (.lst (ac.eraseIdx k))) bc (found.map rowD) := rows_put a27 e17 refs fun r hr => nonE r (List.mem_append_right _ hr)
              have ncl : c ≠ l := fun z => by
                rw [z, e17] at ec
                have e9 : ac = h0.map V.int := by cases ec; rfl
                rw [e9, List.getElem?_map] at hc
                cases e10 : h0[k]? with
                | none => rw [e10] at hc; cases hc
                | some x => rw [e10] at hc; cases hc
              have ec8 : upd H7 l (.lst (ac.eraseIdx k)) c = some (.lst (h0.map V.int)) := by
                rw [upd_ne ncl]
                exact ec
              have e28 : upd H7 l (.lst (ac.eraseIdx k)) g = some (.lst bc) := by
                rw [upd_ne nlg.symm]
                exact e27
              have s8 : Same H (upd H7 l (.lst (ac.eraseIdx k))) := same_put s7 hl
              have e18 := upd_same (H := H7) (a := l) (o := .lst (ac.eraseIdx k))
              generalize upd H7 l (.lst (ac.eraseIdx k)) = H8 at a18 a28 ec8 e28 s8 e18 ⊢
              clear rat7 eK7 e17 e27 a17 a27 s7 ec
              have bi := rng i hi
              refine ⟨_, rfl, _, rfl, _, rfl, c, _, _, _, rfl, rfl, SqL.of ec8, atI_nat (by rw [List.getElem?_map, at_cl (by omega)] <;> rfl), p, cl h0 i, rfl, hp, ?_, ?_, fun t H9 k9 t0 t1 te => ?_⟩
              · rw [Int.emod_eq_of_lt bi.1 bi.2]
                exact nz
              · exact Nat.lt_of_le_of_lt (by omega : (cl h0 i).natAbs ≤ 13) (by decide)
              refine ⟨_, rfl, c, true, _, rfl, SqL.of (k9 _ _ ec8), fun D2 hD2 => ?_⟩
              refine lc_same (n := h0.length) (by rw [← List.length_map (f := V.int) (as := h0)]; exact walk_seq (k := true)) (by omega) hD2 (fun H' s' => SqL.of (s' _ _ (k9 _ _ ec8))) (fun j => .int (cl h0 j * t % p)) ?_ ?_
              · rintro j x H10 hj hx2 s10 _
                refine ⟨rfl, fun k4 hk4 => ?_⟩
                have ex := int_cl hx2 hj
                subst ex
                have bj := rng j (by omega)
                refine ⟨_, rfl, _, rfl, _, _, rfl, rfl, .inr ⟨by omega, by omega⟩, .inl ⟨_, rfl, _, rfl, _, p, rfl, rfl, (by show p ≠ 0; omega), ?_⟩⟩
                show k4 (.int ((cl h0 j * t).fmod p)) H10
                rw [fmod_pos (by omega)]
                exact hk4 _ _ (fun _ _ z => z) (.int _)
              · intro H10 acc2 s10 ha10 hal10
                have e3 : (List.range h0.length).map (fun j => PyData.int (cl h0 j * t % p)) = (unitR p t h0).map PyData.int := by
                  unfold unitR
                  rw [List.map_map]
                  exact map_get (fun x => PyData.int (x * t % p)) 0 h0
                rw [e3] at hal10
                have e4 := anyL_ints hal10
                subst e4
                have k10 := k9.trans s10
                have a1a := anyL_keep k10 a18
                have a2a := anyL_keep k10 a28
                have e1a := k10 _ _ e18
                have e2a := k10 _ _ e28
                have sa := s8.trans k10
                have lu : (unitR p t h0).length = W := by unfold unitR; rw [List.length_map]; exact l0W
                have ru := unit_rng (p := p) (t := t) (r := h0) (by omega)
                have rng2 : ∀ r, r ∈ left ++ found → ∀ x, x ∈ r → 0 ≤ x ∧ x < 13 := fun r hr x hx => by
                  obtain ⟨m, hm⟩ := List.getElem?_of_mem hx
                  have hm2 := (List.getElem?_eq_some_iff.mp hm).1
                  have lw := el.len r hr
                  have := el.rng r hr m (by omega)
                  unfold cl at this
                  rw [hm] at this
                  have h9 : 0 ≤ x ∧ x < p := this
                  omega
                have el2 := el.turn (by omega) hi hk te
                have lE : (left.eraseIdx k).length = left.length - 1 := by
                  rw [List.length_eraseIdx, if_pos (by omega)]
                refine ⟨_, rfl, _, rfl, _, rfl, _, rfl, p, _, _, left.eraseIdx k, unitR p t h0, _, i, rfl, hp, .lst e1a a1a, any_rowD ha10, .inl rfl, by omega, by omega, by omega, fun r hr => (rlen r (List.mem_of_mem_eraseIdx hr)).trans lu.symm, fun r hr x hx => ?_, fun l1 ac1 Hb hl1 sb el1 al1 => ?_⟩
                · rcases List.mem_cons.mp hr with y | y
                  · rw [y] at hx
                    have := ru x hx
                    omega
                  · exact rng2 r (List.mem_append_left _ (List.mem_of_mem_eraseIdx y)) x hx
                refine ⟨_, rfl, _, rfl, _, rfl, _, rfl, p, _, _, found, unitR p t h0, _, i, rfl, hp, .lst (sb _ _ e2a) (anyL_keep sb a2a), any_rowD (sb _ _ ha10), .inl rfl, by omega, by omega, by omega, fun r hr => (flen r hr).trans lu.symm, fun r hr x hx => ?_, fun g1 bc1 Hc hg1 sc eg1 ag1 => ?_⟩
                · rcases List.mem_cons.mp hr with y | y
                  · rw [y] at hx
                    have := ru x hx
                    omega
                  · exact rng2 r (List.mem_append_right _ y) x hx
                refine ⟨_, rfl, by show 1 ≤ sizeLine; decide, fun b1 hb1 => ?_⟩
                have kd := same_new (o := .lst [.ref D2]) hb1
                have lbc1 := (anyL_len ag1).trans (by rw [List.length_map, List.length_map])
                refine ⟨g1, b1, bc1, _, rfl, rfl, kd _ _ eg1, upd_same, Nat.le_trans (by show bc1.length + 1 ≤ 100; omega) (by decide), fun g2 hg2 => ?_⟩
                have ke := same_new (o := .lst (bc1 ++ [.ref D2])) hg2
                refine ⟨by show 2 ≤ sizeLine; decide, fun t2 ht2 => ?_⟩
                have kf := same_new (o := .tup [.ref l1, .ref g2]) ht2
                refine ⟨t2, _, rfl, SqT.of upd_same, rfl, _, _, rfl, _, _, rfl, rfl, ?_⟩
                have s1f := sc.trans (kd.trans (ke.trans kf))
                refine ⟨l1, g2, _, _, _, _, rfl, ac1, bc1 ++ [.ref D2], _, _, sa.trans (sb.trans s1f), sa.free hl1, (sa.trans (sb.trans (sc.trans kd))).free hg2, ne_of_none ((sc.trans kd) _ _ el1) hg2, s1f _ _ el1, anyL_keep s1f (anyL_keep (same_del (p := l1)) al1), kf _ _ upd_same, ?_, el2, ?_⟩
                · rw [List.map_append]
                  exact anyL_snoc (anyL_keep (kd.trans (ke.trans kf)) (anyL_keep (same_del (p := g1)) ag1)) (any_rowD ((sb.trans s1f) _ _ ha10))
                · rw [List.length_append, List.length_map, List.length_map, List.length_singleton, lE]
                  omega
        · rintro σ' H5 ⟨l, g, y4, y5, y6, y7, rfl, ⟨ac, bc, left, found, s5, hl, hg, nlg, e1, a1, e2, a2, el, ln⟩⟩
          have lb := (anyL_len a2).trans (List.length_map _)
          refine ⟨_, rfl, g, true, bc, rfl, SqL.of e2, fun D5 hD5 => ?_⟩
          refine lc_same (walk_seq (k := true)) (by omega) hD5 (fun H' s' => SqL.of (s' _ _ e2)) (fun i => tupI (found[i]?.getD [])) ?_ ?_
          · rintro i x H6 hi hx s6 ⟨o, ho⟩
            refine ⟨rfl, fun k6 hk6 => ?_⟩
            obtain ⟨dx, hdx, ax⟩ := anyL_at a2 hx
            rw [List.getElem?_map] at hdx
            cases er : found[i]? with
            | none => rw [er] at hdx; cases hdx
            | some r =>
              rw [er] at hdx hk6
              cases Option.some.inj hdx
              obtain ⟨c, rfl, ec⟩ := rowD_any ax
              refine ⟨_, rfl, c, _, rfl, .inl ⟨SqL.of (s6 _ _ ec), fun l6 hl6 => ?_⟩⟩
              refine hk6 _ _ (same_new hl6) (.tup ?_ (ints_anyL r))
              rw [del_ne (ne_of_none ho hl6).symm]
              exact upd_same
          · intro H6 ac2 s6 ha6 al6
            have e4 := map_get (fun r => tupI r) [] found
            rw [← lb] at e4
            rw [e4] at al6
            exact q D5 ac2 found H6 (s5.free hD5) (s5.trans s6) ha6 al6 (base_of_elim el (.inr rfl))
end
end K6

set_option Elab.async false
set_option linter.all false
set_option maxRecDepth 100000
set_option maxHeartbeats 1000000
/-! TkJI: rests by steps; spaces in spaces; ranks. -/
namespace Rw
open PySem PySem.Spec PyProof.Rows L2
variable {p : Int} {w n : Nat}
theorem incr_id {f : Nat → Nat} (mono : ∀ i j, i < j → j < n → f i < f j) (lt : ∀ j, j < n → f j < n) : ∀ j, j < n → f j = j := by
  have lo : ∀ j, j < n → j ≤ f j := by
    intro j
    induction j with
    | zero => intro _; exact Nat.zero_le _
    | succ j ih =>
      intro hj
      have := mono j (j + 1) (Nat.lt_succ_self j) hj
      have := ih (by omega)
      omega
  have hi : ∀ d j, j + d < n → f j + d ≤ f (j + d) := by
    intro d
    induction d with
    | zero => intro j _; exact Nat.le_refl _
    | succ d ih =>
      intro j hj
      have := ih j (by omega)
      have := mono (j + d) (j + (d + 1)) (by omega) hj
      omega
  intro j hj
  have h1 := lo j hj
  have h2 := hi (n - 1 - j) j (by omega)
  have h3 := lt (j + (n - 1 - j)) (by omega)
  omega
/-- a reduced basis within a space, as long as that of the space, is that of the space -/
theorem red_sub {A B : Nat → Nat → Int} {L M : Nat → Nat} (R : Red p w n A L) (T : Red p w n B M) (hp : 1 < p) (h : ∀ j, j < n → InSpan p w n A (B j)) : ∀ i c, i < n → c < w → B i c = A i c := by
  have l1 := fun j (hj : j < n) => R.lead T hp h hj
  have ex : ∃ f : Nat → Nat, ∀ j, j < n → f j < n ∧ L (f j) = M j := by
    refine ⟨fun j => if hj : j < n then (l1 j hj).choose else 0, fun j hj => ?_⟩
    show (if hj : j < n then (l1 j hj).choose else 0) < n ∧ L (if hj : j < n then (l1 j hj).choose else 0) = M j
    rw [dif_pos hj]
    exact (l1 j hj).choose_spec
  obtain ⟨f, hf⟩ := ex
  have mono : ∀ i j, i < j → j < n → f i < f j := fun i j hij hj => by
    have e1 := (hf i (by omega)).2
    have e2 := (hf j hj).2
    have m := T.mono i j hij hj
    rw [← e1, ← e2] at m
    rcases (by omega : f i < f j ∨ f i = f j ∨ f j < f i) with z | z | z
    · exact z
    · rw [z] at m
      omega
    · have := R.mono (f j) (f i) z (hf i (by omega)).1
      omega
  have idn := incr_id mono fun j hj => (hf j hj).1
  have same : ∀ j, j < n → L j = M j := fun j hj => by
    have := (hf j hj).2
    rwa [idn j hj] at this
  intro i c hi hc
  obtain ⟨g, hg⟩ := h i hi
  have cf := fun j (hj : j < n) => R.coef hg hj
  have e : B i c % p = A i c % p := by
    rw [hg c hc, S_mod p (f := fun j => g j * A j c) (g := fun j => if j = i then A i c else 0) (fun j hj => ?_), S_single (j := i) hi fun k _ ne => if_neg ne]
    · show (if i = i then A i c else 0) % p = _
      rw [if_pos rfl]
    · show (g j * A j c) % p = (if j = i then A i c else 0) % p
      rw [Int.mul_emod, cf j hj, same j hj]
      by_cases y : j = i
      · subst y
        rw [T.one j hj, if_pos rfl, ← Int.mul_emod, Int.one_mul]
      · rw [T.zero i j hi hj (fun z => y z.symm), if_neg y, ← Int.mul_emod, Int.zero_mul]
  obtain ⟨a1, a2⟩ := R.rng i c hi hc
  obtain ⟨b1, b2⟩ := T.rng i c hi hc
  rw [Int.emod_eq_of_lt a1 a2, Int.emod_eq_of_lt b1 b2] at e
  exact e
theorem base_le {rows rows2 a b : List (List Int)} (hp : 1 < p) (A : BaseR p w rows a) (B : BaseR p w rows2 b) (h1 : ∀ r, r ∈ rows → InL p w rows2 (cl r)) (hl : a.length = b.length) : a = b := by
  obtain ⟨L, R⟩ := A.red
  obtain ⟨M, T⟩ := B.red
  have k2 : ∀ i, i < b.length → InSpan p w b.length (fun i c => cl (b[i]?.getD []) c) (fun c => cl (a[i]?.getD []) c) := fun i hi => by
    have m := List.getElem_mem (l := a) (n := i) (by omega)
    rw [at_getD (by omega)]
    exact inL_span (((A.in2 _ m).trans h1).trans B.in1)
  rw [hl] at R
  have n3 := red_sub T R hp k2
  apply List.ext_getElem hl
  intro i hi hj
  refine cl_eq (A.len _ (List.getElem_mem hi)) (B.len _ (List.getElem_mem hj)) fun c hc => ?_
  have := n3 i c hj hc
  rw [at_getD hi, at_getD hj] at this
  exact this
theorem Bas.self {ps : List PR} (g : GS p w ps) : Bas p w (rowsP ps) ps := ⟨g, fun r hr => .row hr, fun q hq => .row (List.mem_map.mpr ⟨q, hq, rfl⟩)⟩
/-- a vector is in the space just when its rest has zeros alone -/
theorem in_rest {ps : List PR} {v : List Int} (hp : 1 < p) (g : GS p w ps) (s : Asc ps) (hv : v.length = w) : InL p w (rowsP ps) (cl v) ↔ leadR (restR p ps v) = none := by
  have hq : ∀ q, q ∈ ps → q.2.length = w := g.len
  have mem : ∀ q, q ∈ ps → q.2 ∈ rowsP ps := fun q hq => List.mem_map.mpr ⟨q, hq, rfl⟩
  constructor
  · intro h
    have h2 : InL p w (rowsP ps) (cl (restR p ps v)) := by
      have h3 : InL p w (rowsP ps ++ [v]) (cl (restR p ps v)) := rest_in hv hq (fun q hq => List.mem_append_left _ (mem q hq)) (List.mem_append_right _ (List.mem_singleton.mpr rfl))
      refine h3.trans fun r hr => ?_
      rcases List.mem_append.mp hr with z | z
      · exact .row z
      · rw [List.mem_singleton.mp z]
        exact h
    obtain ⟨L, R⟩ := ((Bas.self g).base s).red
    have sp := inL_span h2
    obtain ⟨f, hf⟩ := sp
    have cf := fun j (hj : j < (rowsP ps).length) => R.coef hf hj
    have lead : ∀ j, (hj : j < (rowsP ps).length) → L j = (ps[j]'(by rw [List.length_map] at hj; exact hj)).1 := fun j hj => by
      have hj2 : j < ps.length := by rw [List.length_map] at hj; exact hj
      have m := List.getElem_mem hj2
      have e : (rowsP ps)[j]?.getD [] = ps[j].2 := by rw [List.getElem?_map, List.getElem?_eq_getElem hj2] <;> rfl
      have o1 := R.one j hj
      have lo := R.low j
      rw [e] at o1 lo
      rcases (by omega : L j < ps[j].1 ∨ L j = ps[j].1 ∨ ps[j].1 < L j) with z | z | z
      · rw [g.low _ m _ z] at o1
        exact absurd o1 (by decide)
      · exact z
      · have := lo ps[j].1 hj z
        rw [g.one _ m] at this
        exact absurd this (by decide)
    have z : ∀ c, c < w → cl (restR p ps v) c = 0 := fun c hc => by
      have e := hf c hc
      rw [S_mod p (f := fun i => f i * cl ((rowsP ps)[i]?.getD []) c) (g := fun _ => 0) (fun i hi => ?_), S_zero, Int.zero_emod] at e
      · obtain ⟨r1, r2⟩ := rest_rng (p := p) (v := v) (ps := ps) (w := w) (by omega) hv hq hc
        rwa [Int.emod_eq_of_lt r1 r2] at e
      · show (f i * _) % p = 0 % p
        have hi2 : i < ps.length := by rw [List.length_map] at hi; exact hi
        rw [Int.mul_emod, cf i hi, lead i hi, rest_zero g hv (List.getElem_mem hi2), Int.zero_emod, Int.zero_mul, Int.zero_emod]
    cases e : leadR (restR p ps v) with
    | none => rfl
    | some l =>
      obtain ⟨a1, a2, _⟩ := lead_some e
      rw [rest_len hv hq] at a1
      exact absurd (z l a1) a2
  · intro h
    refine vec_in hv hq mem (.zero fun c hc => ?_)
    rw [lead_none h, Int.zero_emod]
theorem rank_in {ps : List PR} {v : List Int} {found : List (List Int)} (hp : 1 < p) (g : GS p w ps) (s : Asc ps) (hv : v.length = w) (b : BaseR p w (rowsP ps ++ [v]) found) : decide (found.length = ps.length) = (leadR (restR p ps v)).isNone := by
  have B0 := (Bas.self g).base s
  by_cases h : leadR (restR p ps v) = none
  · have hin := (in_rest hp g s hv).mpr h
    have e := base_one hp b B0 (fun r hr => by
      rcases List.mem_append.mp hr with z | z
      · exact .row z
      · rw [List.mem_singleton.mp z]
        exact hin) fun r hr => .row (List.mem_append_left _ hr)
    rw [e, h, List.length_map, decide_eq_true rfl] <;> rfl
  · have : ¬ found.length = ps.length := fun e => by
      have e2 := base_le hp B0 b (fun r hr => .row (List.mem_append_left _ hr)) (by rw [List.length_map]; exact e.symm)
      refine h ((in_rest hp g s hv).mp ?_)
      rw [e2]
      exact b.in1 v (List.mem_append_right _ (List.mem_singleton.mpr rfl))
    rw [decide_eq_false this]
    cases e : leadR (restR p ps v) with
    | none => exact absurd e h
    | some l => rfl
theorem lies_iff {ps rs : List PR} (hp : 1 < p) (g : GS p w ps) (s : Asc ps) (k : GS p w rs) : liesB p rs ps = true ↔ ∀ r, r ∈ rowsP rs → InL p w (rowsP ps) (cl r) := by
  unfold liesB
  rw [List.all_eq_true]
  constructor
  · intro h r hr
    obtain ⟨q, hq, rfl⟩ := List.mem_map.mp hr
    refine (in_rest hp g s (k.len q hq)).mpr ?_
    have := h q hq
    cases e : leadR (restR p ps q.2) with
    | none => rfl
    | some l => rw [e] at this; cases this
  · intro h q hq
    rw [(in_rest hp g s (k.len q hq)).mp (h _ (List.mem_map.mpr ⟨q, hq, rfl⟩))] <;> rfl
theorem rank_lies {ps rs : List PR} {rows more all found : List (List Int)} (hp : 1 < p) (B : Bas p w rows ps) (s : Asc ps) (C : Bas p w more rs) (b : BaseR p w all found) (m1 : ∀ r, r ∈ rows → r ∈ all) (m2 : ∀ r, r ∈ more → r ∈ all) (m3 : ∀ r, r ∈ all → r ∈ rows ∨ r ∈ more) : decide (found.length = ps.length) = liesB p rs ps := by
  have B0 := B.base s
  by_cases h : liesB p rs ps = true
  · have hin := (lies_iff hp B.g s C.g).mp h
    have e := base_one hp b B0 (fun r hr => by
      rcases m3 r hr with z | z
      · exact .row z
      · exact ((C.in1 r z).trans hin).trans B0.in2) fun r hr => .row (m1 r hr)
    rw [e, h, List.length_map, decide_eq_true rfl] <;> rfl
  · have : ¬ found.length = ps.length := fun e => by
      have e2 := base_le hp B0 b (fun r hr => .row (m1 r hr)) (by rw [List.length_map]; exact e.symm)
      refine h ((lies_iff hp B.g s C.g).mpr fun r hr => ?_)
      rw [e2]
      obtain ⟨q, hq, rfl⟩ := List.mem_map.mp hr
      exact (((C.in2 q hq).trans fun r hr => .row (m2 r hr)) : InL p w all (cl q.2)).trans b.in1
    rw [decide_eq_false this]
    cases e : liesB p rs ps with
    | false => rfl
    | true => exact absurd e h
theorem lies_self {ps : List PR} (hp : 1 < p) (g : GS p w ps) (s : Asc ps) : liesB p ps ps = true := (lies_iff hp g s g).mpr fun r hr => .row hr
/-- the law's rest, a head at a time -/
theorem rest_fold {v : List Int} : ∀ (ps : List PR) (L : List Int) (f : Nat → Int), L.length = w → (∀ c, c < w → cl L c = (cl v c - f c) % p) → (∀ q, q ∈ ps → f q.1 = 0) → (∀ q, q ∈ ps → q.2.length = w ∧ q.1 < w) → ps.Pairwise (fun a b => cl a.2 b.1 = 0) →
    (ps.foldl (fun L q => lessR p q.2 q.1 L) L).length = w ∧ ∀ c, c < w → cl (ps.foldl (fun L q => lessR p q.2 q.1 L) L) c = (cl v c - (f c + sumR p v c ps)) % p
  | [], L, f, hl, h, _, _, _ => ⟨hl, fun c hc => by
    show cl L c = (cl v c - (f c + 0)) % p
    rw [h c hc, Int.add_zero]⟩
  | q :: qs, L, f, hl, h, hz, hq, pw => by
    obtain ⟨lq, tq⟩ := hq q List.mem_cons_self
    obtain ⟨p1, p2⟩ := List.pairwise_cons.mp pw
    have eq1 : cl L q.1 = cl v q.1 % p := by
      rw [h q.1 tq, hz q List.mem_cons_self, Int.sub_zero]
    have l1 : (lessR p q.2 q.1 L).length = w := by
      unfold lessR
      rw [List.length_map, List.length_range, lq]
    obtain ⟨r1, r2⟩ := rest_fold (v := v) qs (lessR p q.2 q.1 L) (fun c => f c + cl v q.1 % p * cl q.2 c) l1 (fun c hc => by
      rw [cl_less (by omega), eq1, h c hc, Int.sub_emod, Int.emod_emod_of_dvd _ (Int.dvd_refl p), ← Int.sub_emod]
      exact congrArg (· % p) (by omega)) (fun r hr => by
      show f r.1 + cl v q.1 % p * cl q.2 r.1 = 0
      rw [hz r (List.mem_cons_of_mem _ hr), p1 r hr, Int.mul_zero, Int.add_zero]) (fun r hr => hq r (List.mem_cons_of_mem _ hr)) p2
    refine ⟨r1, fun c hc => ?_⟩
    rw [List.foldl_cons, r2 c hc]
    show (cl v c - (f c + cl v q.1 % p * cl q.2 c + sumR p v c qs)) % p = (cl v c - (f c + (cl v q.1 % p * cl q.2 c + sumR p v c qs))) % p
    exact congrArg (· % p) (by omega)
theorem rest_law {ps : List PR} {v : List Int} (g : GS p w ps) (hv : v.length = w) : ps.foldl (fun L q => lessR p q.2 q.1 L) (v.map fun x => x % p) = restR p ps v := by
  have pw : ps.Pairwise (fun a b => cl a.2 b.1 = 0) := by
    rw [List.pairwise_iff_getElem]
    intro i j hi hj hij
    exact g.zero i j _ _ (by omega) (List.getElem?_eq_getElem hi) (List.getElem?_eq_getElem hj)
  obtain ⟨r1, r2⟩ := rest_fold (p := p) (w := w) (v := v) ps (v.map fun x => x % p) (fun _ => 0) (by rw [List.length_map]; exact hv) (fun c hc => by rw [cl_map (by omega), Int.sub_zero]) (fun _ _ => rfl) (fun q hq => ⟨g.len q hq, g.lt q hq⟩) pw
  refine cl_eq r1 (rest_len hv g.len) fun c hc => ?_
  rw [r2 c hc, rest_cl hv g.len hc]
  exact congrArg (· % p) (by omega)
end Rw

set_option Elab.async false
set_option linter.all false
set_option maxRecDepth 100000
set_option maxHeartbeats 8000000
/-! K6G: the law's own ranks and rests. -/
namespace Rw
open PySem PySem.Spec PyProof.Rows L2
def spRestL : Sp := fun vs H Q _ => ∃ p vb vv qs v dv w, vs = [.int p, vb, vv] ∧ p ∈ primesL ∧ Any H vb (.list ((rowsP qs).map tupI)) ∧ Any H vv dv ∧ VecD v dv ∧ v.length = w ∧ w ≤ 12 ∧ GS p w qs ∧ SmV v ∧
  ∀ t H', H t = none → Same H H' → H' t = some (.tup ((restR p qs v).map V.int)) → Q (.ref t) H'
end Rw
namespace K6
open PySem PySem.Spec PyProof.Rows L2 Rw
abbrev sRestL : Stmt := top 46
abbrev NRestL : List Str := ["_law_p", "_law_base_here", "_law_row", "_law_left", "_law_head", "_law_spot", "_law_item", "_law_k"]
theorem scRestL : FnScope NRestL ["_law_p", "_law_base_here", "_law_row"] (defScope sRestL) := ⟨rfl, rfl, rfl, by decide +kernel, rfl, by decide +kernel, by decide +kernel⟩
abbrev tMod6 : TE := tOp rModN (tCB rInt1 (tCons (tVar 6) tNil)) (tVar 0)
abbrev tSpot (K : PySem.W.Frag) : TE := tOp rNe (tOp (rIx K) (tVar 4) (tVar 7)) (tC (.int 0))
section
variable {P : Program} {w : World} {K : PySem.W.Frag} {mg : Str → Option Value} {base : Heap}
theorem okRankL {f : Addr} {fd : FuncData} (F : Fun K "_law_rank" "_law_rank" sRankL f fd) (zl : mg "len" = none) (GB : Own P w K mg base CX0 2 "_law_base" ["_law_p", "_law_rows"] [] spBaseL) : FnOk P w K mg base CX0 3 f fd ["_law_p", "_law_rows"] spRankL := by
  refine F.ok scRankL (fun vs H Q E h => ?_) (fun cdv A outer s H vs Q E hr h => ?_)
  · obtain ⟨p, v, d, rows, W, rfl, _⟩ := h
    rfl
  · obtain ⟨p, v, d, rows, W, rfl, hp, av, ed, hl, l90, w12, hrow, q⟩ := h
    refine ⟨_, (pss_one (ps_ret (pe_callB call_len_seq (by rfl) zl boot_len (pa_cons (pe_own GB hr pass0 (pa_cons (pv 0) (pa_cons (pv 1) pa_nil))) pa_nil)))), ?_⟩
    refine ⟨_, rfl, _, rfl, p, v, d, rows, W, rfl, hp, av, ed, hl, l90, w12, hrow, fun l acc found H' hl' s' e' a' b => ⟨l, acc, rfl, .inl (SqL.of e'), ?_⟩⟩
    have ln := (anyL_len a').trans (List.length_map _)
    rw [ln]
    exact q found H' s' b
theorem okRestL {f : Addr} {fd : FuncData} (F : Fun K "_law_rest" "_law_rest" sRestL f fd) (zr : mg "range" = none) (zl : mg "len" = none) (zi : mg "int" = none) (zt : mg "tuple" = none) (GL : Own P w K mg base CX0 1 "_law_less" ["_law_p", "_law_rows", "_law_head", "_law_spot"] [] spLess) :
    FnOk P w K mg base CX0 2 f fd ["_law_p", "_law_base_here", "_law_row"] spRestL := by
  refine F.ok scRestL (fun vs H Q E h => ?_) (fun cdv A outer s H vs Q E hr h => ?_)
  · obtain ⟨p, vb, vv, qs, v, dv, W, rfl, _⟩ := h
    rfl
  · obtain ⟨p, vb, vv, qs, v, dv, W, rfl, hp, ab, av, ev, lv, w12, g, sm, q⟩ := h
    have pp := prime_pos hp
    refine ⟨_, (pss_cons (ps_setLc (i := 3) (own := [("_law_item", 6)]) (g := gName 6) (tt := tYes) (te := tMod6) rfl scRestL.nd rfl rfl (sw_true rfl rfl rfl (by decide +kernel)) (pi_seq (pv 2)) (blkOk_by (N := NRestL) (sc := defScope sRestL) (by decide +kernel)) (fun _ _ _ _ _ => (pg_name (i := 6) scRestL.nd rfl (Or.inl rfl))) (fun _ _ _ _ _ => pts_nil) (fun _ _ _ _ _ => (pe_op op_modN (pe_callTy call_int1 (by rfl) zi (by decide +kernel) (pa_cons (pv 6) pa_nil)) (pv 0))))
      (pss_cons (ps_for PassesOwn.never rfl (pi_seq (pv 1)) (pg_name (i := 4) scRestL.nd rfl (Or.inr rfl)) (pss_cons (ps_set (i := 5) scRestL.nd rfl (Or.inl rfl) (pe_ix ix_list (pe_lc (own := [("_law_k", 7)]) (g := gName 7) (tt := tTest (tSpot K)) rfl scRestL.nd (pi_range1 rfl zr (pa_cons (pe_callB call_len_seq (by rfl) zl boot_len (pa_cons (pv 4) pa_nil)) pa_nil)) (blkOk_by (N := NRestL) (sc := defScope sRestL) (by decide +kernel)) (fun _ _ _ _ _ => (pg_name (i := 7) scRestL.nd rfl (Or.inl rfl))) (fun _ _ _ _ _ => (pts_one (pt_cmpR op_ne (pe_ix ix_seq (pv 4) (pv 7) (fun _ _ => rfl)) pe_int (nomark _)))) (fun _ _ _ _ _ => (pv 7))) pe_int (fun _ _ => rfl)))
        (pss_one (ps_set (i := 3) scRestL.nd rfl (Or.inl rfl) (pe_ix ix_list (pe_own GL hr pass0 (pa_cons (pv 0) (pa_cons (pe_lst (pa_cons (pv 3) pa_nil)) (pa_cons (pv 4) (pa_cons (pv 5) pa_nil))))) pe_int (fun _ _ => rfl))))))
      (pss_one (ps_ret (pe_callTy call_tuple_of (by rfl) zt (by decide +kernel) (pa_cons (pv 3) pa_nil)))))), ?_⟩
    obtain ⟨kv, c, rfl, hc⟩ := row_seq av ev
    refine ⟨_, rfl, c, kv, _, rfl, hc (Same.refl _) K, fun D hD => ?_⟩
    refine lc_same (n := v.length) (by rw [← List.length_map (f := V.int) (as := v)]; exact walk_seq (k := kv)) (by omega) hD (fun H' s' => hc s' K) (fun j => .int (cl v j % p)) ?_ ?_
    · rintro j x H2 hj hx2 s2 _
      refine ⟨rfl, fun k4 hk4 => ?_⟩
      have ex := int_cl hx2 hj
      subst ex
      refine ⟨_, rfl, .inl ⟨_, rfl, _, rfl, _, p, rfl, rfl, (by show p ≠ 0; omega), ?_⟩⟩
      show k4 (.int ((cl v j).fmod p)) H2
      rw [fmod_pos (by omega)]
      exact hk4 _ _ (fun _ _ z => z) (.int _)
    · intro H2 acc2 s2 ha2 hal2
      have e3 : (List.range v.length).map (fun j => PyData.int (cl v j % p)) = (v.map fun x => x % p).map PyData.int := by
        rw [List.map_map]
        exact map_get (fun x => PyData.int (x % p)) 0 v
      rw [e3] at hal2
      have e4 := anyL_ints hal2
      subst e4
      clear e3 hal2
      cases ab with
      | lst eb ha =>
        rename_i a xs
        have lx := (anyL_len ha).trans ((List.length_map _).trans (List.length_map _))
        have lq := g.le
        refine ⟨_, rfl, a, true, xs, rfl, SqL.of (s2 _ _ eb), ?_⟩
        refine for_it (walk_seq (k := true)) (fun i σ' H' => (∃ l y4 y5 lf, σ' = [some (.int p), some (.ref a), some (.ref c), some (.ref l), y4, y5, none, none] ∧ H' l = some (.lst (lf.map V.int)) ∧ lf = (qs.take i).foldl (fun L q => lessR p q.2 q.1 L) (v.map fun x => x % p) ∧ lf.length = W ∧ ∀ x, x ∈ lf → 0 ≤ x ∧ x < p) ∧ Same H H')
          ⟨⟨D, _, _, _, rfl, ha2, rfl, (by show (v.map fun x => x % p).length = W; rw [List.length_map]; exact lv), fun x hx => ?_⟩, s2⟩ (fun i σ' H' _ h => SqL.of (h.2 _ _ eb)) ?_ ?_
        · obtain ⟨y, _, rfl⟩ := List.mem_map.mp hx
          exact ⟨Int.emod_nonneg _ (by omega), Int.emod_lt_of_pos _ (by omega)⟩
        · rintro i x σ' H4 H3 hi ⟨⟨l, y4, y5, lf, rfl, el, elf, llf, rlf⟩, s3⟩ ⟨rfl, hx⟩
          obtain ⟨dx, hdx, ax⟩ := anyL_at ha hx
          rw [List.map_map, List.getElem?_map] at hdx
          have hiq : i < qs.length := by omega
          rw [List.getElem?_eq_getElem hiq] at hdx
          cases Option.some.inj hdx
          have mq := List.getElem_mem hiq
          have ax2 : Any H x (tupI qs[i].2) := ax
          clear ax
          obtain ⟨u, rfl, eu⟩ := any_tupI ax2
          have lu := g.len _ mq
          have tu := g.lt _ mq
          have ou := g.one _ mq
          have zu := g.low _ mq
          have ru := g.rng _ mq
          have eu3 := s3 _ _ eu
          have hnext : (qs.take (i + 1)).foldl (fun L q => lessR p q.2 q.1 L) (v.map fun x => x % p) = lessR p qs[i].2 qs[i].1 lf := by
            rw [List.take_add_one, List.getElem?_eq_getElem hiq, List.foldl_append, ← elf] <;> rfl
          generalize qs[i] = qq at hnext lu tu ou zu ru eu3 mq
          refine ⟨_, rfl, u, _, rfl, .inr (SqT.of eu3), _, rfl, by omega, by rw [List.length_map]; omega, fun D5 hD5 => ?_⟩
          refine lc_range (lo := 0) (n := ((qq.2.map V.int).length : Int).toNat) (fun j H' => ∃ ks : List Nat, H' = upd H3 D5 (.lst ((ks.map fun k => ((k : Nat) : Int)).map V.int)) ∧ ks.length ≤ j ∧ (j ≤ qq.1 → ks = []) ∧ (qq.1 < j → ∃ ms, ks = qq.1 :: ms)) ⟨[], rfl, Nat.le_refl _, fun _ => rfl, fun z => absurd z (Nat.not_lt_zero _)⟩ ?_ ?_
          · rintro j H6 hj ⟨ks, rfl, hks, h1, h2⟩
            have hj3 : j < qq.2.length := by
              have : j < (qq.2.map V.int).length := hj
              rwa [List.length_map] at this
            rw [Int.zero_add]
            have k6 := same_new (o := .lst ((ks.map fun k => ((k : Nat) : Int)).map V.int)) hD5
            refine ⟨rfl, _, rfl, _, rfl, ix_rowg (k := false) (SqT.of (k6 _ _ eu3)) hj3 ?_⟩
            refine ⟨rfl, _, rfl, ?_⟩
            have put : upd (upd H3 D5 (.lst ((ks.map fun k => ((k : Nat) : Int)).map V.int))) D5 (.lst ((ks.map fun k => ((k : Nat) : Int)).map V.int ++ [.int ((j : Nat) : Int)])) = upd H3 D5 (.lst (((ks ++ [j]).map fun k => ((k : Nat) : Int)).map V.int)) := by
              rw [upd_upd, List.map_append, List.map_append] <;> rfl
            by_cases z : cl qq.2 j = 0
            · rw [show (!decide (V.int (cl qq.2 j) = V.int 0)) = false by rw [z, decide_eq_true rfl] <;> rfl]
              have nj : j ≠ qq.1 := fun y => by
                rw [y, ou] at z
                exact absurd z (by decide)
              exact iteF ⟨ks, rfl, by omega, fun y => h1 (by omega), fun y => h2 (by omega)⟩
            · rw [show (!decide (V.int (cl qq.2 j) = V.int 0)) = true by rw [decide_eq_false (fun y => z (V.int.inj y))] <;> rfl]
              have nj : ¬ j < qq.1 := fun y => z (zu j y)
              refine iteT ⟨_, rfl, _, upd_same, ?_, ks ++ [j], put, ?_, ?_, ?_⟩
              · rw [List.length_map, List.length_map]
                exact Nat.lt_of_le_of_lt (by omega : ks.length ≤ 1000) (by decide)
              · rw [List.length_append, List.length_singleton]
                omega
              · intro y
                omega
              · intro _
                by_cases y : qq.1 < j
                · obtain ⟨ms, e⟩ := h2 y
                  exact ⟨ms ++ [j], by rw [e] <;> rfl⟩
                · have : j = qq.1 := by omega
                  exact ⟨[], by rw [h1 (by omega), this] <;> rfl⟩
          · rintro H6 ⟨ks, rfl, hks, h1, h2⟩
            have e8 : ((qq.2.map V.int).length : Int).toNat = W := by rw [List.length_map, lu] <;> rfl
            obtain ⟨ms, rfl⟩ := h2 (by omega)
            have k6 := same_new (o := .lst (((qq.1 :: ms).map fun k => ((k : Nat) : Int)).map V.int)) hD5
            refine ⟨D5, _, 0, _, rfl, rfl, SqL.of upd_same, atI_nat (j := 0) rfl, ?_⟩
            have s6 := s3.trans k6
            have el6 := k6 _ _ el
            have eu6 := k6 _ _ eu3
            generalize upd H3 D5 (.lst (((qq.1 :: ms).map fun k => ((k : Nat) : Int)).map V.int)) = H6 at s6 el6 eu6 ⊢
            refine ⟨_, rfl, _, rfl, (by show 1 ≤ sizeLine; decide), fun e1 he1 => ?_⟩
            have k7 := same_new (o := .lst [.ref l]) he1
            refine ⟨_, rfl, _, rfl, p, _, _, [lf], qq.2, tupI qq.2, qq.1, rfl, hp, .lst upd_same (.cons (any_rowD (k7 _ _ el6)) .nil), tupI_any (k7 _ _ eu6), .inr rfl, by show 1 ≤ 100; decide, by omega, by omega, fun r hr => ?_, fun r hr x hx => ?_, fun l1 ac1 H8 hl1 s8 el1 al1 => ?_⟩
            · rw [List.mem_singleton.mp hr]
              omega
            · rcases List.mem_cons.mp hr with y | y
              · rw [y] at hx
                obtain ⟨m, hm⟩ := List.getElem?_of_mem hx
                have hm2 := (List.getElem?_eq_some_iff.mp hm).1
                have := ru m (by omega)
                unfold cl at this
                rw [hm] at this
                have h9 : 0 ≤ x ∧ x < p := this
                omega
              · rw [List.mem_singleton.mp y] at hx
                have := rlf x hx
                omega
            · cases al1 with
              | cons b1 b2 =>
                cases b2
                obtain ⟨c1, rfl, ec1⟩ := rowD_any b1
                have s9 := s6.trans (k7.trans s8)
                have ec2 := same_del _ _ ec1
                refine ⟨l1, _, 0, _, rfl, rfl, SqL.of el1, atI_nat (j := 0) rfl, ⟨c1, _, _, _, rfl, ec2, hnext.symm, ?_, less_rng (by omega)⟩, s9⟩
                · unfold lessR
                  rw [List.length_map, List.length_range, lu]
        · rintro σ' H3 ⟨⟨l, y4, y5, lf, rfl, el, elf, llf, rlf⟩, s3⟩
          refine ⟨_, rfl, l, _, rfl, .inl ⟨SqL.of el, fun t ht => q t _ (s3.free ht) (s3.trans (same_new ht)) ?_⟩⟩
          have e9 : qs.take xs.length = qs := by rw [lx, List.take_length]
          rw [e9, rest_law g lv] at elf
          rw [← elf]
          exact upd_same
end
end K6

set_option Elab.async false
set_option linter.all false
set_option maxRecDepth 100000
set_option maxHeartbeats 1000000
/-! TkJK: what the law of spaces asks: promises. -/
namespace Rw
open PySem PySem.Spec PyProof.Rows L2
def vecI (d : PyData) : List Int := (itemsD d).map intN
theorem vecI_of {r : List Int} {d : PyData} (h : VecD r d) : vecI d = r := by
  have : itemsD d = r.map .int := by
    rcases h with z | z <;> rw [z] <;> rfl
  unfold vecI
  rw [this, List.map_map]
  exact List.map_id'' (fun _ => rfl) r
def askD (way : Nat) (p : Int) (w : Nat) (qs : List PR) (d : PyData) : PyData :=
  if isVecD ((w : Nat) : Int) d = true then .list [.str "told", if way = 0 then .bool (leadR (restR p qs (vecI d))).isNone else tupI (restR p qs (vecI d))] else wD "vector" d
def spAsked (C : Addr) : Sp := fun vs H Q _ => ∃ (way : Nat) (a : Addr) (v : V) (p : Int) (w : Nat) (qs : List PR) (d : PyData), vs = [.int (way : Nat), .ref a, v] ∧ way ≤ 1 ∧ SpAt C H a p w qs ∧ GoodSp p w qs ∧ Any H v d ∧ (itemsD d).length ≤ 1000 ∧ (∀ r, VecD r d → SmV r) ∧ ∀ l H', H l = none → Same H H' → Any H' (.ref l) (askD way p w qs d) → Q (.ref l) H'
def liesD (p : Int) (w : Nat) (qs : List PR) (q : Int) (v : Nat) (rs : List PR) : PyData := if p = q ∧ w = v then .list [.str "told", .bool (liesB p qs rs)] else .list [.str "unlike"]
def spLiesL (C : Addr) : Sp := fun vs H Q _ => ∃ a b p w qs q v rs, vs = [.ref a, .ref b] ∧ SpAt C H a p w qs ∧ SpAt C H b q v rs ∧ GoodSp p w qs ∧ GoodSp q v rs ∧ ∀ l H', H l = none → Same H H' → Any H' (.ref l) (liesD p w qs q v rs) → Q (.ref l) H'
def spVecR (C : Addr) : Sp := fun vs H Q _ => ∃ p w a vb vv qs v dv, vs = [.int p, .ref a, vb, vv] ∧ SpAt C H a p w qs ∧ GoodSp p w qs ∧ Any H vb (.list ((rowsP qs).map tupI)) ∧ Any H vv dv ∧ VecD v dv ∧ v.length = w ∧ SmV v ∧ ∀ H', Same H H' → Q (.bl true) H'
def spPairR (C : Addr) : Sp := fun vs H Q _ => ∃ p w a b v1 v2 rows more qs rs, vs = [.int p, .ref a, .ref b, v1, v2] ∧ SpAt C H a p w qs ∧ GoodSp p w qs ∧ SpAt C H b p w rs ∧ GoodSp p w rs ∧ Bas p w rows qs ∧ Bas p w more rs ∧ Any H v1 (.list (rows.map tupI)) ∧ Any H v2 (.list (more.map tupI)) ∧ rows.length ≤ 40 ∧ more.length ≤ 40 ∧ (∀ r, r ∈ rows → r.length = w ∧ SmV r) ∧ (∀ r, r ∈ more → r.length = w ∧ SmV r) ∧ ∀ H', Same H H' → Q (.bl true) H'
theorem str_noN {x : Str} : (!decide (V.str x = V.str x)) = false := by rw [decide_eq_true rfl] <;> rfl
theorem str_eqs {x : Str} : decide (V.str x = V.str x) = true := decide_eq_true rfl
theorem filt_lead : ∀ (r : List Int), decide ((r.filter fun x => decide (x ≠ 0)).map PyData.int = []) = (leadR r).isNone
  | [] => rfl
  | x :: xs => by
    by_cases h : x = 0
    · rw [List.filter_cons_of_neg (by simpa using h), filt_lead xs]
      show _ = (if x = 0 then (leadR xs).map (· + 1) else some 0).isNone
      rw [if_pos h]
      cases leadR xs <;> rfl
    · rw [List.filter_cons_of_pos (by simpa using h)]
      show _ = (if x = 0 then (leadR xs).map (· + 1) else some 0).isNone
      rw [if_neg h]
      rfl
theorem likeV_tups (rows : List (List Int)) : LikeV (rows.map tupI) rows := ⟨List.length_map _, fun i d h => by
  rw [List.getElem?_map] at h
  cases e : rows[i]? with
  | none => rw [e] at h; cases h
  | some r => rw [e] at h; cases h; exact ⟨r, rfl, .inr rfl⟩⟩
theorem likeV_snoc {ds : List PyData} {rows : List (List Int)} {d : PyData} {r : List Int} (h : LikeV ds rows) (k : VecD r d) : LikeV (ds ++ [d]) (rows ++ [r]) := ⟨by rw [List.length_append, List.length_append, h.len] <;> rfl, fun i e he => by
  by_cases z : i < ds.length
  · rw [List.getElem?_append_left z] at he
    obtain ⟨r2, h2, h3⟩ := h.at_ i e he
    exact ⟨r2, by rw [List.getElem?_append_left (by rw [← h.len]; exact z)]; exact h2, h3⟩
  · rw [List.getElem?_append_right (by omega)] at he
    have h4 := (List.getElem?_eq_some_iff.mp he).1
    have h5 : i = ds.length := by
      have : i - ds.length < 1 := h4
      omega
    subst h5
    rw [Nat.sub_self] at he
    cases he
    exact ⟨r, by rw [h.len, List.getElem?_append_right (Nat.le_refl _), Nat.sub_self] <;> rfl, k⟩⟩
theorem tq_row {r : List Int} {d : PyData} (h : VecD r d) (l : r.length ≤ 12) (s : SmV r) : Tq 1 d := by
  have c : ∀ d ∈ r.map PyData.int, Tq 0 d := fun d hd => by
    obtain ⟨x, hx, rfl⟩ := List.mem_map.mp hd
    exact tq_int (s.sm x hx)
  rcases h with z | z
  · rw [z]
    exact tq_list (by rw [List.length_map]; exact l) c
  · rw [z]
    exact tq_tup (by rw [List.length_map]; exact l) c
theorem tq_bool (b : Bool) : Tq 0 (.bool b) := by cases b <;> exact tq_ofB (by decide +kernel)
theorem tq_told : Tq 0 (.str "told") := tq_str (by decide +kernel) (by decide +kernel)
end Rw

set_option Elab.async false
set_option linter.all false
set_option maxRecDepth 100000
set_option maxHeartbeats 8000000
/-! K6H: spaces asked, held against one another, caught. -/
namespace K6
open PySem PySem.Spec PyProof.Rows L2 Rw
abbrev sAsked : Stmt := top 47
abbrev sLiesL : Stmt := top 49
theorem scAsked : FnScope ["_law_way", "_law_space", "_law_row", "e"] ["_law_way", "_law_space", "_law_row"] (defScope sAsked) := ⟨rfl, rfl, rfl, by decide +kernel, rfl, by decide +kernel, by decide +kernel⟩
theorem scLiesL : FnScope ["_law_one", "_law_two"] ["_law_one", "_law_two"] (defScope sLiesL) := ⟨rfl, rfl, rfl, by decide +kernel, rfl, by decide +kernel, by decide +kernel⟩
structure TxC (K : PySem.W.Frag) (mg : Str → Option Value) (CE CV CU : Addr) : Prop where
  gR : mg "RowError" = some (.ref CE)
  vv : PySem.W.exmOne K (.ref CV) (.ref CV) = some true
  uu : PySem.W.exmOne K (.ref CU) (.ref CU) = some true
structure SpAts (P : Program) (w : World) (K : PySem.W.Frag) (mg : Str → Option Value) (base : Heap) (C CV CU : Addr) : Prop where
  cl : Cls K C
  inn : ∃ (f : Addr) (fd : FuncData), InC K C f ∧ FnOk P w K mg base (L2.CX P w) 6 f fd ["self", "x"] (spInSp C CV) ∧ Binds K fd ["self", "x"] []
  rest : ∃ (f : Addr) (fd : FuncData), Meth K C "rest" f ∧ FnOk P w K mg base (L2.CX P w) 5 f fd ["self", "vector"] (spRestSp C CV) ∧ Binds K fd ["self", "vector"] []
  lies : ∃ (f : Addr) (fd : FuncData), Meth K C "lies_in" f ∧ FnOk P w K mg base (L2.CX P w) 5 f fd ["self", "other"] (spLies C CU) ∧ Binds K fd ["self", "other"] []
  eq : ∃ (f : Addr) (fd : FuncData), EqC K C f ∧ FnOk P w K mg base CX0 1 f fd ["self", "other"] (spEqSp C) ∧ Binds K fd ["self", "other"] []
  ne : NeC K C
section
variable {P : Program} {w : World} {K : PySem.W.Frag} {mg : Str → Option Value} {base : Heap} {aI CP CS CV CU C CR CE : Addr} {kI : List (Int × Value)}
theorem okAsked {f : Addr} {fd : FuncData} (F : Fun K "_law_asked" "_law_asked" sAsked f fd) (T : Txt K mg aI CP CS CV CU kI) (TC : TxC K mg CE CV CU) (SA : SpAts P w K mg base C CV CU) :
    FnOk P w K mg base CX0 7 f fd ["_law_way", "_law_space", "_law_row"] (spAsked C) := by
  obtain ⟨fi, fdi, O, Fi, bi⟩ := SA.inn
  obtain ⟨fr, fdr, hm, Fr, br⟩ := SA.rest
  refine F.ok scAsked (fun vs H Q E h => ?_) (fun cdv A outer s H vs Q E hr h => ?_)
  · obtain ⟨way, a, v, p, W, qs, d, rfl, _⟩ := h
    rfl
  · obtain ⟨way, a, v, p, W, qs, d, rfl, hw, sa, g, av, l1000, sm, k0⟩ := h
    obtain ⟨dx, t, ea, at_⟩ := id sa
    refine ⟨_, (pss_one (ps_tries rfl rfl scAsked.nd takes0
      (fun W pn xe tk pw => (pss_cons (ps_if (pt_cmpR op_eq (pv 0) pe_int (nomark _)) (pss_one (ps_ret (pe_lst (pa_cons pe_str (pa_cons (pe_inS (W := W) O Fi (hr.mono (by decide)) bi (fun σ => passAt tk σ) (pv 2) (pv 1) rfl) pa_nil))))) pss_nil)
        (pss_one (ps_ret (pe_lst (pa_cons pe_str (pa_cons (pe_methS (W := W) (pv 1) SA.cl hm Fr (hr.mono (by decide)) br .nil (fun σ => passAt tk σ) (pa_cons (pv 2) pa_nil)) pa_nil)))))))
      (.as (i := 3) rfl rfl ⟨rfl, by decide, .inl T.eV.g⟩ (fun a oe cls d pn hz hf => pss_one (ps_ret (pe_lst (pa_cons pe_str (pa_cons (pe_xf T.eV.xf T.eV.no hz hf (pv 3)) pa_nil)))))
      (.anon ⟨rfl, by decide, .inl TC.gR⟩ (fun a oe cls d pn hz hf => pss_one (ps_ret (pe_lst (pa_cons pe_str pa_nil)))) .nil)))), ?_⟩
    have bad : isVecD ((W : Nat) : Int) d = false → askD way p W qs d = wD "vector" d := fun z => by
      unfold askD
      rw [if_neg (by rw [z]; exact Bool.false_ne_true)]
    have good : ∀ r, r.length = W → VecD r d → askD way p W qs d = .list [.str "told", if way = 0 then .bool (leadR (restR p qs r)).isNone else tupI (restR p qs r)] := fun r lr e => by
      obtain ⟨v1, _⟩ := vec_is e
      rw [lr] at v1
      unfold askD
      rw [if_pos v1, vecI_of e]
    rcases (by omega : way = 0 ∨ way = 1) with rfl | rfl
    · refine ⟨_, rfl, rfl, _, rfl, iteT ?_⟩
      refine ⟨_, rfl, _, rfl, a, dx, _, rfl, ea, a, v, p, W, qs, d, rfl, sa, g, av, l1000, ?_, ?_⟩
      · intro z dd H1 s1 hd hx
        refine ⟨true, TC.vv, fun _ b hb => ?_, fun z => (nomatch z)⟩
        refine ⟨_, rfl, rfl, rfl, dd, _, v, rfl, hx, rfl, (by show 2 ≤ sizeLine; decide), fun l hl => k0 l _ (s1.free hl) (s1.trans (same_new hl)) ?_⟩
        rw [bad z]
        exact pair_any hl (av.keep s1)
      · intro r lr e
        refine ⟨sm r e, fun H1 s1 => ⟨_, rfl, by show 2 ≤ sizeLine; decide, fun l hl => k0 l _ (s1.free hl) (s1.trans (same_new hl)) ?_⟩⟩
        rw [good r lr e]
        exact .lst upd_same (.cons (.str _) (.cons (.bl _) .nil))
    · refine ⟨_, rfl, rfl, _, rfl, iteF ?_⟩
      refine ⟨_, rfl, a, dx, _, rfl, ea, rfl, _, rfl, a, v, p, W, qs, d, rfl, sa, g, av, l1000, ?_, ?_⟩
      · intro z dd H1 s1 hd hx
        refine ⟨true, TC.vv, fun _ b hb => ?_, fun z => (nomatch z)⟩
        refine ⟨_, rfl, rfl, rfl, dd, _, v, rfl, hx, rfl, (by show 2 ≤ sizeLine; decide), fun l hl => k0 l _ (s1.free hl) (s1.trans (same_new hl)) ?_⟩
        rw [bad z]
        exact pair_any hl (av.keep s1)
      · intro r lr e
        refine ⟨sm r e, fun t1 H1 ht1 s1 a1 => ⟨by show 2 ≤ sizeLine; decide, fun l hl => k0 l _ (s1.free hl) (s1.trans (same_new hl)) ?_⟩⟩
        rw [good r lr e]
        exact .lst upd_same (.cons (.str _) (.cons (a1.keep (same_new hl)) .nil))
theorem okLiesL {f : Addr} {fd : FuncData} (F : Fun K "_law_lies" "_law_lies" sLiesL f fd) (T : Txt K mg aI CP CS CV CU kI) (TC : TxC K mg CE CV CU) (SA : SpAts P w K mg base C CV CU) :
    FnOk P w K mg base CX0 7 f fd ["_law_one", "_law_two"] (spLiesL C) := by
  obtain ⟨fr, fdr, hm, Fr, br⟩ := SA.lies
  refine F.ok scLiesL (fun vs H Q E h => ?_) (fun cdv A outer s H vs Q E hr h => ?_)
  · obtain ⟨a, b, p, W, qs, q, v, rs, rfl, _⟩ := h
    rfl
  · obtain ⟨a, b, p, W, qs, q, v, rs, rfl, sa, sb, g1, g2, k0⟩ := h
    obtain ⟨dx, t, ea, at_⟩ := id sa
    refine ⟨_, (pss_one (ps_tries rfl rfl scLiesL.nd takes0
      (fun W pn xe tk pw => (pss_one (ps_ret (pe_lst (pa_cons pe_str (pa_cons (pe_methS (W := W) (pv 0) SA.cl hm Fr (hr.mono (by decide)) br .nil (fun σ => passAt tk σ) (pa_cons (pv 1) pa_nil)) pa_nil))))))
      (.anon ⟨rfl, by decide, .inl T.eU.g⟩ (fun a oe cls d pn hz hf => pss_one (ps_ret (pe_lst (pa_cons pe_str pa_nil))))
      (.anon ⟨rfl, by decide, .inl TC.gR⟩ (fun a oe cls d pn hz hf => pss_one (ps_ret (pe_lst (pa_cons pe_str pa_nil)))) .nil)))), ?_⟩
    refine ⟨_, rfl, a, dx, _, rfl, ea, rfl, _, rfl, a, b, p, W, qs, q, v, rs, rfl, sa, sb, g1, g2, ?_, ?_⟩
    · intro ne H1 s1
      refine ⟨true, TC.uu, fun _ b hb => ?_, fun z => (nomatch z)⟩
      refine ⟨by show 1 ≤ sizeLine; decide, fun l hl => k0 l _ (s1.free hl) (s1.trans (same_new hl)) ?_⟩
      unfold liesD
      rw [if_neg ne]
      exact .lst upd_same (.cons (.str _) .nil)
    · intro e1 e2 H1 s1
      refine ⟨by show 2 ≤ sizeLine; decide, fun l hl => k0 l _ (s1.free hl) (s1.trans (same_new hl)) ?_⟩
      unfold liesD
      rw [if_pos ⟨e1, e2⟩]
      exact .lst upd_same (.cons (.str _) (.cons (.bl _) .nil))
end
end K6

set_option Elab.async false
set_option linter.all false
set_option maxRecDepth 100000
set_option maxHeartbeats 8000000
/-! K6I: a vector asked of a space; two spaces held against one another. -/
namespace Rw
open PySem PySem.Spec PyProof.Rows L2
theorem dec_len {a b : Nat} : decide (V.int ((a : Nat) : Int) = V.int ((b : Nat) : Int)) = decide (a = b) := by
  by_cases h : a = b
  · rw [h, decide_eq_true rfl, decide_eq_true rfl]
  · rw [decide_eq_false h, decide_eq_false (fun z => h (by have := V.int.inj z; omega))]
theorem dec_bl {a b : Bool} : decide (V.bl a = V.bl b) = decide (a = b) := by cases a <;> cases b <;> decide
def tupsD (rs : List (List Int)) : PyData := .list (rs.map tupI)
theorem tupsD_ok (rs : List (List Int)) : (tupsD rs).canLay0 = true ∧ (tupsD rs).depth ≤ 64 := by
  constructor
  · refine lay_list fun d hd => ?_
    obtain ⟨r, _, rfl⟩ := List.mem_map.mp hd
    exact lay_tupI r
  · have h3 : PyData.depthAll (rs.map tupI) ≤ 20 := dep_le fun x hx => by
      obtain ⟨r, _, rfl⟩ := List.mem_map.mp hx
      have h3 : PyData.depthAll (r.map PyData.int) ≤ 3 := dep_le fun x hx => by
        obtain ⟨n, _, rfl⟩ := List.mem_map.mp hx
        exact dep_int _
      unfold tupI
      simp only [PyData.depth]
      omega
    unfold tupsD
    simp only [PyData.depth]
    omega
theorem eqv_tups (a b : List (List Int)) : PyData.eqv (tupsD a) (tupsD b) = decide (a = b) := by
  unfold tupsD
  rw [PyData.eqv]
  exact eqvAll_map tupI (fun a b => eqv_tupI a b) a b
theorem alike_iff {p : Int} {w : Nat} {rows more a b : List (List Int)} {qs rs : List PR} (hp : 1 < p) (B : Bas p w rows qs) (s : Asc qs) (C : Bas p w more rs) (t : Asc rs) (A : BaseR p w rows a) (D : BaseR p w more b) : decide (a = b) = decide (qs = rs) := by
  have e1 := base_one hp A (B.base s) (fun r hr => .row hr) fun r hr => .row hr
  have e2 := base_one hp D (C.base t) (fun r hr => .row hr) fun r hr => .row hr
  rw [e1, e2]
  by_cases h : qs = rs
  · rw [h, decide_eq_true rfl, decide_eq_true rfl]
  · rw [decide_eq_false h, decide_eq_false fun z => h (pairs_of (w2 := 0) B.g C.g hp z)]
end Rw
namespace K6
open PySem PySem.Spec PyProof.Rows L2 Rw
abbrev sVecR : Stmt := top 48
abbrev sPairR : Stmt := top 50
abbrev NVecR : List Str := ["_law_p", "_law_space", "_law_base_here", "_law_row", "_law_due", "_law_kept", "_law_inside", "_law_turn_here", "_law_found", "_law_item"]
theorem scVecR : FnScope NVecR ["_law_p", "_law_space", "_law_base_here", "_law_row"] (defScope sVecR) := ⟨rfl, rfl, rfl, by decide +kernel, rfl, by decide +kernel, by decide +kernel⟩
abbrev NPairR : List Str := ["_law_p", "_law_one", "_law_two", "_law_rows", "_law_more", "_law_due", "_law_alike1"]
theorem scPairR : FnScope NPairR ["_law_p", "_law_one", "_law_two", "_law_rows", "_law_more"] (defScope sPairR) := ⟨rfl, rfl, rfl, by decide +kernel, rfl, by decide +kernel, by decide +kernel⟩
section
variable {P : Program} {w : World} {K : PySem.W.Frag} {mg : Str → Option Value} {base : Heap} {aI CP CS CV CU C CR CE : Addr} {kI : List (Int × Value)}
theorem okVecR {f : Addr} {fd : FuncData} (F : Fun K "_law_vector_right" "_law_vector_right" sVecR f fd) (zr : mg "repr" = none) (zg : mg "range" = none) (zl : mg "len" = none) (GS : Own P w K mg base CX0 2 "_law_rest" ["_law_p", "_law_base_here", "_law_row"] [] spRestL) (GA : Own P w K mg base CX0 7 "_law_asked" ["_law_way", "_law_space", "_law_row"] [] (spAsked C)) (GR : Own P w K mg base CX0 3 "_law_rank" ["_law_p", "_law_rows"] [] spRankL) :
    FnG P w K mg base CX0 8 f fd ["_law_p", "_law_space", "_law_base_here", "_law_row"] (spVecR C) := by
  refine funG F scVecR (fun vs H Q E h => ?_) (fun cdv A outer sh H vs Q E gu hr h => ?_)
  · obtain ⟨p, W, a, vb, vv, qs, v, dv, rfl, _⟩ := h
    rfl
  · obtain ⟨p, W, a, vb, vv, qs, v, dv, rfl, sa, g, ab, av, ev, lv, sm, k0⟩ := h
    have pp := prime_pos g.hp
    have w12 := g.hw
    refine ⟨_, (pss_cons (ps_par (i := 4) (j := 5) (by rfl) scVecR.nd rfl rfl (by decide) rfl rfl (pa_cons (pe_own GS (hr.mono (by decide)) pass0 (pa_cons (pv 0) (pa_cons (pv 2) (pa_cons (pv 3) pa_nil)))) (pa_cons (pe_callB (call_reprA gu hr.units) (by rfl) zr (by decide +kernel) (pa_cons (pv 3) pa_nil)) pa_nil)) (by rfl))
      (pss_cons (ps_set (i := 6) scVecR.nd rfl (Or.inl rfl) (pe_cmpR (op_eqD hr.units) (pe_lc (own := [("_law_item", 9)]) (g := gName 9) (tt := tTest (tOp rNe (tVar 9) (tC (.int 0)))) (te := tVar 9) rfl scVecR.nd (pi_seq (pv 4)) (blkOk_by (N := NVecR) (sc := defScope sVecR) (by decide +kernel)) (fun _ _ _ _ _ => (pg_name (i := 9) scVecR.nd rfl (Or.inl rfl))) (fun _ _ _ _ _ => (pts_one (pt_cmpR op_ne (pv 9) pe_int (nomark _)))) (fun _ _ _ _ _ => (pv 9))) (pe_lst pa_nil) (nomark _)))
      (pss_cons (ps_for PassesOwn.never rfl (pi_range1 rfl zg (pa_cons pe_int pa_nil)) (pg_name (i := 7) scVecR.nd rfl (Or.inl rfl)) (pss_cons (ps_set (i := 8) scVecR.nd rfl (Or.inl rfl) (pe_lst (pa_cons (pe_own GA (hr.mono (by decide)) pass0 (pa_cons pe_int (pa_cons (pv 1) (pa_cons (pv 3) pa_nil)))) (pa_cons (pe_own GA (hr.mono (by decide)) pass0 (pa_cons pe_int (pa_cons (pv 1) (pa_cons (pv 3) pa_nil)))) pa_nil))))
        (pss_one (ps_if (PW.pt (pw_or (pt_cmpR op_ne (pe_callB (call_reprA gu hr.units) (by rfl) zr (by decide +kernel) (pa_cons (pv 8) pa_nil)) (pe_callB (call_reprA gu hr.units) (by rfl) zr (by decide +kernel) (pa_cons (pe_lst (pa_cons (pe_lst (pa_cons pe_str (pa_cons (pv 6) pa_nil))) (pa_cons (pe_lst (pa_cons pe_str (pa_cons (pv 4) pa_nil))) pa_nil))) pa_nil)) (nomark _)) (pw_or1 (pt_cmpR op_ne (pe_callB (call_reprA gu hr.units) (by rfl) zr (by decide +kernel) (pa_cons (pv 3) pa_nil)) (pv 5) (nomark _))))) (pss_one (ps_ret pe_bl)) pss_nil))))
      (pss_one (ps_ret (pe_cmpR op_eq (pv 6) (pe_cmpR op_eq (pe_own GR (hr.mono (by decide)) pass0 (pa_cons (pv 0) (pa_cons (pe_op op_cat (pv 2) (pe_lst (pa_cons (pv 3) pa_nil))) pa_nil))) (pe_callB call_len_seq (by rfl) zl boot_len (pa_cons (pv 2) pa_nil)) (nomark _)) (nomark _))))))), ?_⟩
    have trow := tq_row ev (by omega) sm
    obtain ⟨t1, t2, t3⟩ := tq_fine (trow.up (by decide))
    refine ⟨_, rfl, _, rfl, _, rfl, p, vb, vv, qs, v, dv, W, rfl, g.hp, ab, av, ev, lv, w12, g.g, sm, fun t H1 ht s1 et => ?_⟩
    refine ⟨_, rfl, vv, dv, rfl, av.keep s1, t1, t2, t3, ?_⟩
    have lr : (restR p qs v).length = W := rest_len lv g.g.len
    have srng : SmV (restR p qs v) := ⟨fun x hx => by
      obtain ⟨j, hj⟩ := List.getElem?_of_mem hx
      have hj2 := (List.getElem?_eq_some_iff.mp hj).1
      have := rest_rng (p := p) (v := v) (ps := qs) (w := W) (by omega) lv g.g.len (c := j) (by omega)
      unfold cl at this
      rw [hj] at this
      have h3 : 0 ≤ x ∧ x < p := this
      exact Nat.lt_of_le_of_lt (by omega : x.natAbs ≤ 13) (by decide)⟩
    refine ⟨_, _, rfl, _, rfl, t, false, _, rfl, SqT.of et, fun D hD => ?_⟩
    refine lc_it (walk_seq (k := false)) (Pv := fun i H' => Same H1 H' ∧ H' D = some (.lst ((((restR p qs v).take i).filter fun x => decide (x ≠ 0)).map V.int))) ⟨same_new hD, by rw [List.take_zero]; exact upd_same⟩ (fun i H' _ h => SqT.of (h.1 _ _ et)) ?_ ?_
    · rintro i x H2 H3 hi ⟨s2, eD⟩ ⟨rfl, hx⟩
      rw [List.length_map] at hi
      have ex := int_cl hx hi
      subst ex
      refine ⟨rfl, _, rfl, rfl, _, rfl, ?_⟩
      have tk : (restR p qs v).take (i + 1) = (restR p qs v).take i ++ [cl (restR p qs v) i] := by
        rw [List.take_add_one, at_cl hi] <;> rfl
      by_cases z : cl (restR p qs v) i = 0
      · rw [show (!decide (V.int (cl (restR p qs v) i) = V.int 0)) = false by rw [z, decide_eq_true rfl] <;> rfl]
        refine iteF ⟨s2, ?_⟩
        rw [tk, List.filter_append, List.filter_cons_of_neg (by simpa using z), List.filter_nil, List.append_nil]
        exact eD
      · rw [show (!decide (V.int (cl (restR p qs v) i) = V.int 0)) = true by rw [decide_eq_false (fun y => z (V.int.inj y))] <;> rfl]
        refine iteT ⟨_, rfl, _, eD, ?_, same_put s2 hD, ?_⟩
        · rw [List.length_map]
          exact Nat.lt_of_le_of_lt (Nat.le_trans (List.length_filter_le _ _) (by rw [List.length_take]; omega : _ ≤ 1000)) (by decide)
        · rw [tk, List.filter_append, List.filter_cons_of_pos (by simpa using z), List.filter_nil, List.map_append]
          exact upd_same
    · rintro H2 ⟨s2, eD⟩
      rw [List.length_map, List.take_length] at eD
      refine ⟨by show 0 ≤ sizeLine; decide, fun l0 hl0 => ?_⟩
      have k3 := same_new (o := .lst []) hl0
      refine eq_two (d := rowD ((restR p qs v).filter fun x => decide (x ≠ 0))) (e := .list []) (any_rowD (k3 _ _ eD)) (.lst upd_same .nil) (rowD_ok _).1 rfl (Nat.le_trans (rowD_ok _).2 (by decide)) (by decide) ?_
      unfold rowD
      rw [eqv_nilL, filt_lead]
      have s3 := (s1.trans s2).trans k3
      have et3 := (s2.trans k3) _ _ et
      generalize upd H2 l0 (.lst []) = H3 at s3 et3 ⊢
      clear k3 hl0 eD s2 hD ht
      refine ⟨2, rfl, by decide, by decide, ?_⟩
      refine for_range (lo := 0) (n := 2) (fun i σ' H' => (∃ y7 y8, σ' = [some (.int p), some (.ref a), some vb, some vv, some (.ref t), some (.str dv.shown), some (.bl (leadR (restR p qs v)).isNone), y7, y8, none]) ∧ Same H3 H') ⟨⟨_, _, rfl⟩, Same.refl _⟩ ?_ ?_
      · rintro i σ' H4 hi ⟨⟨y7, y8, rfl⟩, s4⟩
        have g4 := s3.trans s4
        have l1000 : (itemsD dv).length ≤ 1000 := by
          rw [(vec_is ev).2]
          omega
        have sv : ∀ r, VecD r dv → SmV r := fun r e => by rw [vec_one e ev]; exact sm
        have vok : isVecD ((W : Nat) : Int) dv = true := by
          rw [← lv]
          exact (vec_is ev).1
        have a0 : ∀ way, askD way p W qs dv = .list [.str "told", if way = 0 then .bool (leadR (restR p qs v)).isNone else tupI (restR p qs v)] := fun way => by
          unfold askD
          rw [if_pos vok, vecI_of ev]
        refine ⟨_, rfl, _, rfl, 0, _, _, p, W, qs, dv, rfl, by decide, sa.keep g4, g, av.keep g4, l1000, sv, fun l1 H5 hl1 s5 an1 => ?_⟩
        have g5 := g4.trans s5
        refine ⟨_, rfl, _, rfl, 1, _, _, p, W, qs, dv, rfl, by decide, sa.keep g5, g, av.keep g5, l1000, sv, fun l2 H6 hl2 s6 an2 => ?_⟩
        rw [a0] at an1 an2
        have g6 := g5.trans s6
        refine ⟨by show 2 ≤ sizeLine; decide, fun l3 hl3 => ?_⟩
        have k7 := same_new (o := .lst [.ref l1, .ref l2]) hl3
        have an3 : Any (upd H6 l3 (.lst [.ref l1, .ref l2])) (.ref l3) (.list [.list [.str "told", .bool (leadR (restR p qs v)).isNone], .list [.str "told", tupI (restR p qs v)]]) := .lst upd_same (.cons (an1.keep (s6.trans k7)) (.cons (an2.keep k7) .nil))
        have tq3 : Tq 3 (.list [.list [.str "told", .bool (leadR (restR p qs v)).isNone], .list [.str "told", tupI (restR p qs v)]]) := tq_list (by show 2 ≤ 12; decide) (by
          intro d hd
          rcases List.mem_cons.mp hd with z | z
          · rw [z]
            exact tq_wX tq_told ((tq_bool _).up (by decide))
          · rw [List.mem_singleton.mp z]
            exact tq_wX tq_told (tq_row (.inr rfl) (by omega) srng))
        obtain ⟨u1, u2, u3⟩ := tq_fine (tq3.up (by decide))
        have s37 := s4.trans (s5.trans (s6.trans k7))
        have et7 := s37 _ _ et3
        have g7 := g6.trans k7
        generalize upd H6 l3 (.lst [.ref l1, .ref l2]) = H7 at an3 et7 g7 s37 ⊢
        refine ⟨_, rfl, _, _, rfl, an3, u1, u2, u3, ?_⟩
        refine ⟨_, rfl, by show 2 ≤ sizeLine; decide, fun l4 hl4 => ?_⟩
        have k8 := same_new (o := .lst [.str "told", .bl (leadR (restR p qs v)).isNone]) hl4
        refine ⟨_, rfl, by show 2 ≤ sizeLine; decide, fun l5 hl5 => ?_⟩
        have k9 := same_new (o := .lst [.str "told", .ref t]) hl5
        refine ⟨by show 2 ≤ sizeLine; decide, fun l6 hl6 => ?_⟩
        have k10 := same_new (o := .lst [.ref l4, .ref l5]) hl6
        refine ⟨_, _, rfl, .lst upd_same (.cons ((pair_any hl4 (.bl _)).keep (k9.trans k10)) (.cons ((pair_any hl5 (tupI_any (k8 _ _ et7))).keep k10) .nil)), u1, u2, u3, ?_⟩
        refine ⟨rfl, _, rfl, ?_⟩
        rw [str_noN]
        refine iteF ?_
        have g10 := g7.trans (k8.trans (k9.trans k10))
        refine ⟨_, rfl, vv, dv, rfl, av.keep g10, t1, t2, t3, _, rfl, rfl, _, rfl, ?_⟩
        rw [str_noN]
        exact iteF ⟨⟨_, _, rfl⟩, s37.trans (k8.trans (k9.trans k10))⟩
      · rintro σ' H4 ⟨⟨y7, y8, rfl⟩, s4⟩
        have g4 := s3.trans s4
        have ab4 := ab.keep g4
        have av4 := av.keep g4
        cases ab4 with
        | lst eb ha =>
          rename_i lb xs
          have lx := (anyL_len ha).trans ((List.length_map _).trans (List.length_map _))
          have lq := g.g.le
          refine ⟨_, rfl, _, rfl, _, rfl, _, rfl, by show 1 ≤ sizeLine; decide, fun l hl => ?_⟩
          have k5 := same_new (o := .lst [vv]) hl
          refine ⟨lb, l, xs, _, rfl, rfl, k5 _ _ eb, upd_same, Nat.le_trans (by show xs.length + 1 ≤ 100; omega) (by decide), fun m hm => ?_⟩
          have k6 := same_new (o := .lst (xs ++ [vv])) hm
          have k56 := k5.trans k6
          refine ⟨p, _, _, rowsP qs ++ [v], W, rfl, g.hp, .lst upd_same (anyL_snoc (anyL_keep k56 ha) (av4.keep k56)), ⟨_, .inl rfl, likeV_snoc (likeV_tups _) ev⟩, ⟨_, rfl⟩, by rw [List.length_append, List.length_map]; show qs.length + 1 ≤ 90; omega, w12, fun r hr => ?_, fun found H6 s6 b => ?_⟩
          · rcases List.mem_append.mp hr with z | z
            · obtain ⟨q, hq, rfl⟩ := List.mem_map.mp z
              refine ⟨g.g.len q hq, ⟨fun x hx => ?_⟩⟩
              obtain ⟨j, hj⟩ := List.getElem?_of_mem hx
              have hj2 := (List.getElem?_eq_some_iff.mp hj).1
              have := g.g.rng q hq j (by have := g.g.len q hq; omega)
              unfold cl at this
              rw [hj] at this
              have h3 : 0 ≤ x ∧ x < p := this
              exact Nat.lt_of_le_of_lt (by omega : x.natAbs ≤ 13) (by decide)
            · rw [List.mem_singleton.mp z]
              exact ⟨lv, sm⟩
          · refine ⟨_, rfl, lb, xs, rfl, .inl (SqL.of ((k56.trans s6) _ _ eb)), rfl, rfl, ?_⟩
            rw [lx, dec_len, rank_in (by omega) g.g g.s lv b, decide_eq_true rfl]
            exact k0 _ (g4.trans (k56.trans s6))
end
end K6

set_option Elab.async false
set_option linter.all false
set_option maxRecDepth 100000
set_option maxHeartbeats 8000000
/-! K6J: two spaces held against one another; sums drawn. -/
namespace Rw
open PySem PySem.Spec PyProof.Rows L2
theorem tq_bools (a b c d : Bool) : Tq 1 (.list [.bool a, .bool b, .bool c, .bool d]) := tq_list (by show 4 ≤ 12; decide) (by
  intro x hx
  simp only [List.mem_cons, List.not_mem_nil, or_false] at hx
  rcases hx with z | z | z | z <;> rw [z] <;> exact tq_bool _)
theorem liesD_at {p : Int} {w : Nat} {qs rs : List PR} : liesD p w qs p w rs = .list [.str "told", .bool (liesB p qs rs)] := by
  unfold liesD
  rw [if_pos ⟨rfl, rfl⟩]
theorem tq_toldB (b : Bool) : Tq 1 (.list [.str "told", .bool b]) := tq_wX tq_told (tq_bool b)
end Rw
namespace K6
open PySem PySem.Spec PyProof.Rows L2 Rw
section
variable {P : Program} {w : World} {K : PySem.W.Frag} {mg : Str → Option Value} {base : Heap} {aI CP CS CV CU C CR CE : Addr} {kI : List (Int × Value)}
theorem okPairR {f : Addr} {fd : FuncData} (F : Fun K "_law_pair_right" "_law_pair_right" sPairR f fd) (zr : mg "repr" = none) (SA : SpAts P w K mg base C CV CU) (GB : Own P w K mg base CX0 2 "_law_base" ["_law_p", "_law_rows"] [] spBaseL) (GR : Own P w K mg base CX0 3 "_law_rank" ["_law_p", "_law_rows"] [] spRankL) (GL : Own P w K mg base CX0 7 "_law_lies" ["_law_one", "_law_two"] [] (spLiesL C)) :
    FnG P w K mg base CX0 8 f fd ["_law_p", "_law_one", "_law_two", "_law_rows", "_law_more"] (spPairR C) := by
  obtain ⟨fe, fde, EC, Fe, be⟩ := SA.eq
  refine funG F scPairR (fun vs H Q E h => ?_) (fun cdv A outer sh H vs Q E gu hr h => ?_)
  · obtain ⟨p, W, a, b, v1, v2, rows, more, qs, rs, rfl, _⟩ := h
    rfl
  · obtain ⟨p, W, a, b, v1, v2, rows, more, qs, rs, rfl, sa, g1, sb, g2, B1, B2, a1, a2, l1, l2, h1, h2, k0⟩ := h
    have pp := prime_pos g1.hp
    have w12 := g1.hw
    refine ⟨_, (pss_cons (ps_set (i := 5) scPairR.nd rfl (Or.inl rfl) (pe_cmpR op_eq (pe_own GR (hr.mono (by decide)) pass0 (pa_cons (pv 0) (pa_cons (pe_op op_cat (pv 3) (pv 4)) pa_nil))) (pe_own GR (hr.mono (by decide)) pass0 (pa_cons (pv 0) (pa_cons (pv 3) pa_nil))) (nomark _)))
      (pss_cons (ps_set (i := 6) scPairR.nd rfl (Or.inl rfl) (pe_cmpR (op_eqD hr.units) (pe_own GB (hr.mono (by decide)) pass0 (pa_cons (pv 0) (pa_cons (pv 3) pa_nil))) (pe_own GB (hr.mono (by decide)) pass0 (pa_cons (pv 0) (pa_cons (pv 4) pa_nil))) (nomark _)))
      (pss_cons (ps_if (pt_cmpR op_ne (pe_callB (call_reprA gu hr.units) (by rfl) zr (by decide +kernel) (pa_cons (pe_lst (pa_cons (pe_cmpR (op_eqO EC Fe (hr.mono (by decide)) be) (pv 1) (pv 2) (nomark _)) (pa_cons (pe_cmpR (op_eqO EC Fe (hr.mono (by decide)) be) (pv 2) (pv 1) (nomark _)) (pa_cons (pe_cmpR (op_neO EC SA.ne Fe (hr.mono (by decide)) be) (pv 1) (pv 2) (nomark _)) (pa_cons (pe_cmpR (op_neO EC SA.ne Fe (hr.mono (by decide)) be) (pv 2) (pv 1) (nomark _)) pa_nil))))) pa_nil)) (pe_callB (call_reprA gu hr.units) (by rfl) zr (by decide +kernel) (pa_cons (pe_lst (pa_cons (pv 6) (pa_cons (pv 6) (pa_cons (pe_not (pv 6)) (pa_cons (pe_not (pv 6)) pa_nil))))) pa_nil)) (nomark _)) (pss_one (ps_ret pe_bl)) pss_nil)
      (pss_cons (ps_if (PW.pt (pw_or (pt_cmpR op_ne (pe_callB (call_reprA gu hr.units) (by rfl) zr (by decide +kernel) (pa_cons (pe_own GL (hr.mono (by decide)) pass0 (pa_cons (pv 2) (pa_cons (pv 1) pa_nil))) pa_nil)) (pe_callB (call_reprA gu hr.units) (by rfl) zr (by decide +kernel) (pa_cons (pe_lst (pa_cons pe_str (pa_cons (pv 5) pa_nil))) pa_nil)) (nomark _)) (pw_or1 (pt_cmpR op_ne (pe_callB (call_reprA gu hr.units) (by rfl) zr (by decide +kernel) (pa_cons (pe_own GL (hr.mono (by decide)) pass0 (pa_cons (pv 1) (pa_cons (pv 1) pa_nil))) pa_nil)) (pe_callB (call_reprA gu hr.units) (by rfl) zr (by decide +kernel) (pa_cons (pe_lst (pa_cons pe_str (pa_cons pe_bl pa_nil))) pa_nil)) (nomark _))))) (pss_one (ps_ret pe_bl)) pss_nil)
      (pss_one (ps_ret (pe_cmpR op_eq (pe_callB (call_reprA gu hr.units) (by rfl) zr (by decide +kernel) (pa_cons (pe_own GL (hr.mono (by decide)) pass0 (pa_cons (pv 1) (pa_cons (pv 2) pa_nil))) pa_nil)) (pe_callB (call_reprA gu hr.units) (by rfl) zr (by decide +kernel) (pa_cons (pe_lst (pa_cons pe_str (pa_cons (pe_cmpR op_eq (pe_own GR (hr.mono (by decide)) pass0 (pa_cons (pv 0) (pa_cons (pe_op op_cat (pv 3) (pv 4)) pa_nil))) (pe_own GR (hr.mono (by decide)) pass0 (pa_cons (pv 0) (pa_cons (pv 4) pa_nil))) (nomark _)) pa_nil))) pa_nil)) (nomark _)))))))), ?_⟩
    obtain ⟨dx, t, ea, _⟩ := id sa
    obtain ⟨dy, u, eb, _⟩ := id sb
    have hall : ∀ r, r ∈ rows ++ more → r.length = W ∧ SmV r := fun r hr => (List.mem_append.mp hr).elim (h1 r) (h2 r)
    have rk : ∀ found, BaseR p W (rows ++ more) found → decide (found.length = qs.length) = liesB p rs qs ∧ decide (found.length = rs.length) = liesB p qs rs := fun found b => ⟨rank_lies (by omega) B1 g1.s B2 b (fun r hr => List.mem_append_left _ hr) (fun r hr => List.mem_append_right _ hr) (fun r hr => List.mem_append.mp hr), rank_lies (by omega) B2 g2.s B1 b (fun r hr => List.mem_append_right _ hr) (fun r hr => List.mem_append_left _ hr) (fun r hr => (List.mem_append.mp hr).symm)⟩
    have one1 : ∀ found, BaseR p W rows found → found.length = qs.length := fun found b => by
      rw [base_one (by omega) b (B1.base g1.s) (fun r hr => .row hr) fun r hr => .row hr, List.length_map]
    have one2 : ∀ found, BaseR p W more found → found.length = rs.length := fun found b => by
      rw [base_one (by omega) b (B2.base g2.s) (fun r hr => .row hr) fun r hr => .row hr, List.length_map]
    have a10 := a1
    have a20 := a2
    cases a1 with
    | lst e1 c1 =>
      rename_i n1 xs
      cases a2 with
      | lst e2 c2 =>
        rename_i n2 ys
        have lx := (anyL_len c1).trans (List.length_map _)
        have ly := (anyL_len c2).trans (List.length_map _)
        have cat : ∀ (H1 : Hp) (Q' : VK), Same H H1 → (∀ m H2, Same H1 H2 → Any H2 (.ref m) (.list ((rows ++ more).map tupI)) → Q' (.ref m) H2) → rCat (.ref n1) (.ref n2) H1 Q' := fun H1 Q' s1 q => by
          refine ⟨n1, n2, xs, ys, rfl, rfl, s1 _ _ e1, s1 _ _ e2, Nat.le_trans (by omega : _ ≤ 100) (by decide), fun m hm => q m _ (same_new hm) (.lst upd_same ?_)⟩
          rw [List.map_append]
          exact anyL_app (anyL_keep (s1.trans (same_new hm)) c1) (anyL_keep (s1.trans (same_new hm)) c2)
        refine ⟨_, rfl, _, rfl, _, rfl, cat _ _ (Same.refl _) fun m H2 s2 am => ?_⟩
        refine ⟨p, _, _, rows ++ more, W, rfl, g1.hp, am, ⟨_, .inl rfl, likeV_tups _⟩, ⟨_, rfl⟩, by rw [List.length_append]; omega, w12, hall, fun f3 H3 s3 b3 => ?_⟩
        have s13 := s2.trans s3
        refine ⟨_, rfl, _, rfl, p, _, _, rows, W, rfl, g1.hp, a10.keep s13, ⟨_, .inl rfl, likeV_tups _⟩, ⟨_, rfl⟩, by omega, w12, h1, fun f4 H4 s4 b4 => ?_⟩
        have s14 := s13.trans s4
        refine ⟨rfl, ?_⟩
        rw [dec_len, one1 f4 b4, (rk f3 b3).1]
        refine ⟨_, rfl, _, rfl, p, _, _, rows, W, rfl, g1.hp, a10.keep s14, ⟨_, .inl rfl, likeV_tups _⟩, ⟨_, rfl⟩, by omega, w12, h1, fun l5 ac5 f5 H5 hl5 s5 e5 al5 b5 => ?_⟩
        have s15 := s14.trans s5
        refine ⟨_, rfl, _, rfl, p, _, _, more, W, rfl, g1.hp, a20.keep s15, ⟨_, .inl rfl, likeV_tups _⟩, ⟨_, rfl⟩, by omega, w12, h2, fun l6 ac6 f6 H6 hl6 s6 e6 al6 b6 => ?_⟩
        have s16 := s15.trans s6
        refine eq_two (d := tupsD f5) (e := tupsD f6) (.lst (s6 _ _ e5) (anyL_keep s6 (anyL_keep (same_del (p := l5)) al5))) (.lst e6 (anyL_keep (same_del (p := l6)) al6)) (tupsD_ok _).1 (tupsD_ok _).1 (tupsD_ok _).2 (tupsD_ok _).2 ?_
        rw [eqv_tups, alike_iff (by omega) B1 g1.s B2 g2.s b5 b6]
        have eA := s16 _ _ ea
        have eB := s16 _ _ eb
        have al : (decide (p = p) && (decide (W = W) && decide (qs = rs))) = decide (qs = rs) := by
          rw [decide_eq_true rfl, decide_eq_true rfl, Bool.true_and, Bool.true_and]
        have al2 : (decide (p = p) && (decide (W = W) && decide (rs = qs))) = decide (qs = rs) := by
          rw [decide_eq_true rfl, decide_eq_true rfl, Bool.true_and, Bool.true_and]
          exact decide_eq_decide.mpr eq_comm
        refine ⟨_, rfl, _, rfl, a, dx, _, rfl, eA, .inl ⟨b, dy, _, rfl, eB⟩, a, b, p, W, qs, p, W, rs, rfl, sa.keep s16, sb.keep s16, g1, g2, ?_⟩
        rw [al]
        refine ⟨_, rfl, _, rfl, _, rfl, b, dy, _, rfl, eB, .inl ⟨a, dx, _, rfl, eA⟩, b, a, p, W, rs, p, W, qs, rfl, sb.keep s16, sa.keep s16, g2, g1, ?_⟩
        rw [al2]
        refine ⟨_, rfl, _, rfl, _, rfl, a, b, dx, dy, _, _, rfl, rfl, eA, eB, a, b, p, W, qs, p, W, rs, rfl, sa.keep s16, sb.keep s16, g1, g2, ?_⟩
        rw [al]
        refine ⟨_, rfl, _, rfl, _, rfl, b, a, dy, dx, _, _, rfl, rfl, eB, eA, b, a, p, W, rs, p, W, qs, rfl, sb.keep s16, sa.keep s16, g2, g1, ?_⟩
        rw [al2]
        refine ⟨_, rfl, by show 4 ≤ sizeLine; decide, fun l7 hl7 => ?_⟩
        obtain ⟨t1, t2, t3⟩ := tq_fine ((tq_bools (decide (qs = rs)) (decide (qs = rs)) (!decide (qs = rs)) (!decide (qs = rs))).up (by decide))
        refine ⟨_, _, rfl, .lst upd_same (.cons (.bl _) (.cons (.bl _) (.cons (.bl _) (.cons (.bl _) .nil)))), t1, t2, t3, ?_⟩
        have k7 := same_new (o := .lst [.bl (decide (qs = rs)), .bl (decide (qs = rs)), .bl (!decide (qs = rs)), .bl (!decide (qs = rs))]) hl7
        have s17 := s16.trans k7
        refine ⟨_, rfl, _, rfl, _, rfl, _, rfl, _, rfl, _, rfl, by show 4 ≤ sizeLine; decide, fun l8 hl8 => ?_⟩
        have k8 := same_new (o := .lst [.bl (decide (qs = rs)), .bl (decide (qs = rs)), .bl (!decide (qs = rs)), .bl (!decide (qs = rs))]) hl8
        have s18 := s17.trans k8
        refine ⟨_, _, rfl, .lst upd_same (.cons (.bl _) (.cons (.bl _) (.cons (.bl _) (.cons (.bl _) .nil)))), t1, t2, t3, ?_⟩
        refine ⟨rfl, _, rfl, ?_⟩
        rw [str_noN]
        refine iteF ?_
        generalize upd (upd H6 l7 (.lst [.bl (decide (qs = rs)), .bl (decide (qs = rs)), .bl (!decide (qs = rs)), .bl (!decide (qs = rs))])) l8 (.lst [.bl (decide (qs = rs)), .bl (decide (qs = rs)), .bl (!decide (qs = rs)), .bl (!decide (qs = rs))]) = H8 at s18 ⊢
        clear s17 k7 k8 hl8 hl7 eA eB
        refine ⟨_, rfl, _, rfl, b, a, p, W, rs, p, W, qs, rfl, sb.keep s18, sa.keep s18, g2, g1, fun m1 Ha hm1 sa1 am1 => ?_⟩
        rw [liesD_at] at am1
        obtain ⟨u1, u2, u3⟩ := tq_fine ((tq_toldB (liesB p rs qs)).up (by decide))
        refine ⟨_, _, rfl, am1, u1, u2, u3, ?_⟩
        refine ⟨_, rfl, by show 2 ≤ sizeLine; decide, fun m2 hm2 => ?_⟩
        have k9 := same_new (o := .lst [.str "told", .bl (liesB p rs qs)]) hm2
        refine ⟨_, _, rfl, .lst upd_same (.cons (.str _) (.cons (.bl _) .nil)), u1, u2, u3, ?_⟩
        refine ⟨rfl, _, rfl, ?_⟩
        rw [str_noN]
        refine iteF ?_
        have s19 := s18.trans (sa1.trans k9)
        generalize upd Ha m2 (.lst [.str "told", .bl (liesB p rs qs)]) = H9 at s19 ⊢
        clear am1 sa1 k9 hm1 hm2
        refine ⟨_, rfl, _, rfl, a, a, p, W, qs, p, W, qs, rfl, sa.keep s19, sa.keep s19, g1, g1, fun m3 Hb hm3 sb1 am3 => ?_⟩
        rw [liesD_at, lies_self (by omega) g1.g g1.s] at am3
        obtain ⟨v1, v2, v3⟩ := tq_fine ((tq_toldB true).up (by decide))
        refine ⟨_, _, rfl, am3, v1, v2, v3, ?_⟩
        refine ⟨by show 2 ≤ sizeLine; decide, fun m4 hm4 => ?_⟩
        have k10 := same_new (o := .lst [.str "told", .bl true]) hm4
        refine ⟨_, _, rfl, .lst upd_same (.cons (.str _) (.cons (.bl _) .nil)), v1, v2, v3, ?_⟩
        refine ⟨rfl, _, rfl, ?_⟩
        rw [str_noN]
        refine iteF ?_
        have s20 := s19.trans (sb1.trans k10)
        generalize upd Hb m4 (.lst [.str "told", .bl true]) = H10 at s20 ⊢
        clear am3 sb1 k10 hm3 hm4
        refine ⟨_, rfl, _, rfl, a, b, p, W, qs, p, W, rs, rfl, sa.keep s20, sb.keep s20, g1, g2, fun m5 Hc hm5 sc1 am5 => ?_⟩
        rw [liesD_at] at am5
        obtain ⟨w1, w2, w3⟩ := tq_fine ((tq_toldB (liesB p qs rs)).up (by decide))
        refine ⟨_, _, rfl, am5, w1, w2, w3, ?_⟩
        have s21 := s20.trans sc1
        refine ⟨_, rfl, _, rfl, _, rfl, cat _ _ s21 fun m6 Hd sd am6 => ?_⟩
        refine ⟨p, _, _, rows ++ more, W, rfl, g1.hp, am6, ⟨_, .inl rfl, likeV_tups _⟩, ⟨_, rfl⟩, by rw [List.length_append]; omega, w12, hall, fun f7 He se b7 => ?_⟩
        have s22 := s21.trans (sd.trans se)
        refine ⟨_, rfl, _, rfl, p, _, _, more, W, rfl, g1.hp, a20.keep s22, ⟨_, .inl rfl, likeV_tups _⟩, ⟨_, rfl⟩, by omega, w12, h2, fun f8 Hf sf b8 => ?_⟩
        have s23 := s22.trans sf
        refine ⟨rfl, ?_⟩
        rw [dec_len, one2 f8 b8, (rk f7 b7).2]
        refine ⟨by show 2 ≤ sizeLine; decide, fun m7 hm7 => ?_⟩
        refine ⟨_, _, rfl, .lst upd_same (.cons (.str _) (.cons (.bl _) .nil)), w1, w2, w3, ?_⟩
        refine ⟨rfl, ?_⟩
        rw [str_eqs]
        exact k0 _ (s23.trans (same_new hm7))
end
end K6

set_option Elab.async false
set_option linter.all false
set_option maxRecDepth 100000
set_option maxHeartbeats 8000000
/-! K6K: sums drawn. -/
namespace Rw
open PySem PySem.Spec PyProof.Rows L2
def spSums : Sp := fun vs H Q _ => ∃ (p : Addr) (q : Int) (l0 : Addr) (xs : List V) (rows : List (List Int)) (k w n : Nat), vs = [.ref p, .int q, .ref l0, .int (w : Nat)] ∧ q ∈ primesL ∧ w ≤ 12 ∧ k ≤ 6 ∧ H l0 = some (.lst xs) ∧ l0 ≠ p ∧ AnyL H xs (rows.map tupI) ∧ BigM k w rows ∧ Bx H p n ∧ n ≤ 800000 ∧
  ∀ l acc m j H', H l = none → Grow p H H' → Bx H' p (n + 400) → H' l = some (.lst acc) → AnyL H' acc (m.map tupI) → j ≤ 4 → BigM j w m → Q (.ref l) H'
end Rw
namespace K6
open PySem PySem.Spec PyProof.Rows L2 Rw
abbrev sSums : Stmt := top 51
abbrev NSums : List Str := ["_law_box_here", "_law_p", "_law_rows", "_law_wide", "_law_found", "_law_turn_here", "_law_one", "_law_two", "_law_many", "_law_k"]
theorem scSums : FnScope NSums ["_law_box_here", "_law_p", "_law_rows", "_law_wide"] (defScope sSums) := ⟨rfl, rfl, rfl, by decide +kernel, rfl, by decide +kernel, by decide +kernel⟩
abbrev tBlend2 (K : PySem.W.Frag) : TE := tOp rModN (tCB rInt1 (tCons (tOp (rI0 fun i j => .int (i + j)) (tOp (rI CMul fun i j => .int (i * j)) (tOp (rIxT K) (tVar 6) (tVar 9)) (tVar 8)) (tOp (rIxT K) (tVar 7) (tVar 9))) tNil)) (tVar 1)
section
variable {P : Program} {w : World} {K : PySem.W.Frag} {mg : Str → Option Value} {base : Heap}
theorem okSums {f : Addr} {fd : FuncData} (F : Fun K "_law_sums" "_law_sums" sSums f fd) (zr : mg "range" = none) (zl : mg "len" = none) (zi : mg "int" = none) (zt : mg "tuple" = none) (GT : Own P w K mg base CX0 1 "_law_take" ["_law_box_here", "_law_many"] [] spTakeR) (GV : Own P w K mg base CX0 3 "_law_vectors" ["_law_box_here", "_law_p", "_law_wide", "_law_many"] [] spVecsW) :
    FnOk P w K mg base CX0 4 f fd ["_law_box_here", "_law_p", "_law_rows", "_law_wide"] spSums := by
  refine F.ok scSums (fun vs H Q E h => ?_) (fun cdv A outer s H vs Q E hr h => ?_)
  · obtain ⟨p, q, l0, xs, rows, kk, ww, n, rfl, _⟩ := h
    rfl
  · obtain ⟨p, q, l0, xs, rows, kk, ww, n, rfl, hq, w12, k6, el, nlp, ar, br, bx, hn, k0⟩ := h
    have pp := prime_pos hq
    have lxs := (anyL_len ar).trans ((List.length_map _).trans br.h)
    refine ⟨_, (pss_cons (ps_set (i := 4) scSums.nd rfl (Or.inl rfl) (pe_lst pa_nil))
      (pss_cons (ps_for PassesOwn.never rfl (pi_range1 rfl zr (pa_cons (pe_op op_mul (pe_own GT (hr.mono (by decide)) pass0 (pa_cons (pv 0) (pa_cons pe_int pa_nil))) (pe_callTy call_int1 (by rfl) zi (by decide +kernel) (pa_cons (pe_cmpR op_gt (pe_callB call_len_seq (by rfl) zl boot_len (pa_cons (pv 2) pa_nil)) pe_int (nomark _)) pa_nil))) pa_nil)) (pg_name (i := 5) scSums.nd rfl (Or.inl rfl)) (pss_cons (ps_asg (pe_tup (pa_cons (pe_ix ix_list (pv 2) (pe_own GT (hr.mono (by decide)) pass0 (pa_cons (pv 0) (pa_cons (pe_callB call_len_seq (by rfl) zl boot_len (pa_cons (pv 2) pa_nil)) pa_nil))) (fun _ _ => rfl)) (pa_cons (pe_ix ix_list (pv 2) (pe_own GT (hr.mono (by decide)) pass0 (pa_cons (pv 0) (pa_cons (pe_callB call_len_seq (by rfl) zl boot_len (pa_cons (pv 2) pa_nil)) pa_nil))) (fun _ _ => rfl)) pa_nil))) (pg_tup rfl (pgs_cons (pg_name (i := 6) scSums.nd rfl (Or.inr rfl)) (pgs_cons (pg_name (i := 7) scSums.nd rfl (Or.inr rfl)) pgs_nil))))
        (pss_cons (ps_set (i := 8) scSums.nd rfl (Or.inr rfl) (pe_own GT (hr.mono (by decide)) pass0 (pa_cons (pv 0) (pa_cons (pv 1) pa_nil))))
        (pss_one (ps_expr (pe_bm PySem.F.plainAttrs_list PySem.F.slot_list_append PySem.F.type_list_append mt_append (pv 4) (pa_cons (pe_callTy call_tuple_of (by rfl) zt (by decide +kernel) (pa_cons (pe_lc (own := [("_law_k", 9)]) (g := gName 9) (tt := tYes) (te := tBlend2 K) rfl scSums.nd (pi_range1 rfl zr (pa_cons (pv 3) pa_nil)) (blkOk_by (N := NSums) (sc := defScope sSums) (by decide +kernel)) (fun _ _ _ _ _ => (pg_name (i := 9) scSums.nd rfl (Or.inl rfl))) (fun _ _ _ _ _ => pts_nil) (fun _ _ _ _ _ => (pe_op op_modN (pe_callTy call_int1 (by rfl) zi (by decide +kernel) (pa_cons (pe_op op_add (pe_op op_mul (pe_ix ix_tup (pv 6) (pv 9) (fun _ _ => rfl)) (pv 8)) (pe_ix ix_tup (pv 7) (pv 9) (fun _ _ => rfl))) pa_nil)) (pv 1)))) pa_nil)) pa_nil)))))))
      (pss_one (ps_ret (pe_op op_cat (pv 4) (pe_own GV (hr.mono (by decide)) pass0 (pa_cons (pv 0) (pa_cons (pv 1) (pa_cons (pv 3) (pa_cons (pe_callTy call_int1 (by rfl) zi (by decide +kernel) (pa_cons (pe_cmpR op_eq (pe_own GT (hr.mono (by decide)) pass0 (pa_cons (pv 0) (pa_cons pe_int pa_nil))) pe_int (nomark _)) pa_nil)) pa_nil)))))))))), ?_⟩
    refine ⟨by show 0 ≤ sizeLine; decide, fun F0 hF => ?_⟩
    have nF : F0 ≠ p := (bx.ne hF).symm
    have k1 := same_new (o := .lst []) hF
    have b0 := bx.keep k1
    refine ⟨_, rfl, p, 4, n, rfl, by decide, by decide, b0, by omega, fun r H1 r0 r1 g1 b1 => ?_⟩
    have el1 := g1 _ _ nlp (k1 _ _ el)
    refine ⟨_, rfl, l0, xs, rfl, .inl (SqL.of el1), _, _, rfl, rfl, .inr ⟨_, rfl, _, _, rfl, rfl, .inl ⟨by omega, by omega⟩, _, rfl, ?_, ?_, ?_⟩⟩
    · split <;> omega
    · split <;> omega
    have eF1 : H1 F0 = some (.lst []) := g1 _ _ nF upd_same
    have G1 : Grow p H H1 := (Grow.of k1).trans g1
    refine for_range (lo := 0) (n := (r * (if decide ((0 : Int) < (xs.length : Nat)) = true then 1 else 0)).toNat) (fun i σ' H' => (∃ y5 y6 y7 y8, σ' = [some (.ref p), some (.int q), some (.ref l0), some (.int (ww : Nat)), some (.ref F0), y5, y6, y7, y8, none]) ∧ Grow p H H' ∧ Bx H' p (n + 1 + i * 10) ∧ ∃ acc m, H' F0 = some (.lst acc) ∧ AnyL H' acc (m.map tupI) ∧ BigM i ww m) ⟨⟨_, _, _, _, rfl⟩, G1, b1.more (by omega), [], [], eF1, .nil, rfl, fun r hr => (nomatch hr)⟩ ?_ ?_
    · rintro i σ' H2 hi ⟨⟨y5, y6, y7, y8, rfl⟩, g2, b2, acc, m, ea, al, bm⟩
      have hi3 : i < 3 ∧ 0 < xs.length := by
        by_cases z : (0 : Int) < (xs.length : Nat)
        · rw [if_pos (decide_eq_true z)] at hi
          omega
        · rw [if_neg (by rw [decide_eq_false z]; exact Bool.false_ne_true)] at hi
          omega
      have el2 := g2 _ _ nlp el
      have ar2 := tups_lt ar (grow_lt bx g2)
      have lacc := anyL_len al
      rw [List.length_map, bm.h] at lacc
      refine ⟨_, rfl, _, rfl, _, rfl, l0, xs, rfl, .inl (SqL.of el2), p, _, _, rfl, by omega, by omega, b2, by omega, fun i1 H4 i10 i11 G4 B4 => ?_⟩
      obtain ⟨j1, rfl⟩ : ∃ j : Nat, i1 = (j : Int) := ⟨i1.toNat, by omega⟩
      have el4 := G4 _ _ nlp el2
      have ar4 := tups_lt ar2 (grow_lt b2 G4)
      obtain ⟨t1, r1', ht1, hr1, et1⟩ := tup_row ar4 (j := j1) (by rw [br.h]; omega)
      refine ⟨l0, xs, _, _, rfl, rfl, SqL.of el4, atI_nat ht1, ?_⟩
      refine ⟨_, rfl, _, rfl, _, rfl, l0, xs, rfl, .inl (SqL.of el4), p, _, _, rfl, by omega, by omega, B4, by omega, fun i2 H5 i20 i21 G5 B5 => ?_⟩
      obtain ⟨j2, rfl⟩ : ∃ j : Nat, i2 = (j : Int) := ⟨i2.toNat, by omega⟩
      have el5 := G5 _ _ nlp el4
      have ar5 := tups_lt ar4 (grow_lt B4 G5)
      obtain ⟨t2, r2', ht2, hr2, et2⟩ := tup_row ar5 (j := j2) (by rw [br.h]; omega)
      have et15 := grow_lt B4 G5 _ _ et1 (fun xs z => by cases z)
      refine ⟨l0, xs, _, _, rfl, rfl, SqL.of el5, atI_nat ht2, by show 2 ≤ sizeLine; decide, fun t ht => ?_⟩
      have k6 := same_new (o := .tup [.ref t1, .ref t2]) ht
      refine ⟨t, _, rfl, SqT.of upd_same, rfl, _, _, rfl, _, _, rfl, rfl, ?_⟩
      have B6 := B5.keep k6
      have et16 := k6 _ _ et15
      have et26 := k6 _ _ et2
      have G26 : Grow p H2 (upd H5 t (.tup [.ref t1, .ref t2])) := (G4.trans G5).trans (Grow.of k6)
      generalize upd H5 t (.tup [.ref t1, .ref t2]) = H6 at B6 et16 et26 G26 ⊢
      refine ⟨_, rfl, _, rfl, p, q, _, rfl, by omega, by omega, B6, by omega, fun tt H7 tt0 tt1 G7 B7 => ?_⟩
      have et17 := grow_lt B6 G7 _ _ et16 (fun xs z => by cases z)
      have et27 := grow_lt B6 G7 _ _ et26 (fun xs z => by cases z)
      obtain ⟨w1, c1⟩ := br.w r1' hr1
      obtain ⟨w2, c2⟩ := br.w r2' hr2
      have G27 := G26.trans G7
      have ea7 := G27 _ _ nF ea
      have al7 := tups_lt al (grow_lt b2 G27)
      refine ⟨_, rfl, .inl ⟨rfl, _, SqL.of ea7⟩, ?_⟩
      refine ⟨_, rfl, (ww : Int), rfl, by omega, by omega, fun D2 hD2 => ?_⟩
      refine lc_tup (n := ww) walk_range (by omega) hD2 (fun _ _ => trivial) (fun j => .int ((r1'[j]?.getD 0 * tt + r2'[j]?.getD 0).fmod q)) (fun _ _ => rfl) ?_ ?_
      · rintro j y H8 hj rfl s8 _
        refine ⟨rfl, fun k3 hk3 => ?_⟩
        have ej : (0 + (j : Int)) = ((j : Nat) : Int) := by omega
        show tBlend2 K [some (.ref p), some (.int q), some (.ref l0), some (.int (ww : Nat)), some (.ref F0), some (.int (0 + (i : Int))), some (.ref t1), some (.ref t2), some (.int tt), some (.int (0 + (j : Int)))] H8 k3
        rw [ej]
        have g1' : (r1'.map V.int)[j]? = some (.int (r1'[j]?.getD 0)) := by
          rw [List.getElem?_map, List.getElem?_eq_getElem (by omega)] <;> rfl
        have g2' : (r2'.map V.int)[j]? = some (.int (r2'[j]?.getD 0)) := by
          rw [List.getElem?_map, List.getElem?_eq_getElem (by omega)] <;> rfl
        refine ⟨_, rfl, _, rfl, t1, _, _, _, rfl, rfl, SqT.of (s8 _ _ et17), atI_nat g1', _, rfl, _, _, rfl, rfl, .inr ⟨by omega, by omega⟩, ?_⟩
        refine ⟨_, rfl, _, rfl, t2, _, _, _, rfl, rfl, SqT.of (s8 _ _ et27), atI_nat g2', _, _, rfl, rfl, .inl ⟨_, rfl, _, rfl, _, _, rfl, rfl, (by show q ≠ 0; omega), ?_⟩⟩
        exact hk3 _ _ (Same.refl _) (.int _)
      · intro H8 ac2 s8 ha8 al8
        have e8 : ac2 = ((List.range ww).map fun j => (r1'[j]?.getD 0 * tt + r2'[j]?.getD 0).fmod q).map V.int := anyL_ints (by rw [List.map_map]; exact al8)
        subst e8
        generalize hr' : ((List.range ww).map fun j => (r1'[j]?.getD 0 * tt + r2'[j]?.getD 0).fmod q) = r' at ha8
        have lr' : r'.length = ww := by rw [← hr', List.length_map, List.length_range]
        have br' : ∀ e, e ∈ r' → Big e := fun e he => by
          rw [← hr'] at he
          obtain ⟨j, _, rfl⟩ := List.mem_map.mp he
          have m0 := Int.emod_nonneg (r1'[j]?.getD 0 * tt + r2'[j]?.getD 0) (show q ≠ 0 by omega)
          have m1 := Int.emod_lt_of_pos (r1'[j]?.getD 0 * tt + r2'[j]?.getD 0) (show 0 < q by omega)
          rw [fmod_pos (by omega)]
          unfold Big
          have : (10 : Nat) ^ 29 > 100 := by decide
          omega
        refine ⟨D2, _, rfl, .inl ⟨SqL.of ha8, fun t3 ht3 => ?_⟩⟩
        have k4 := s8.trans (same_new (o := .tup (r'.map V.int)) ht3)
        have ea4 := k4 _ _ ea7
        refine ⟨F0, acc, _, rfl, rfl, ea4, Nat.lt_of_le_of_lt (by omega : acc.length ≤ 6) (by decide), ?_⟩
        have lt5 : Lt (upd H8 t3 (.tup (r'.map V.int))) (upd (upd H8 t3 (.tup (r'.map V.int))) F0 (.lst (acc ++ [.ref t3]))) := Lt.put ea4
        have al4 : AnyL (upd H8 t3 (.tup (r'.map V.int))) (acc ++ [.ref t3]) ((m ++ [r']).map tupI) := by
          rw [List.map_append]
          exact anyL_snoc (anyL_keep k4 al7) (.tup upd_same (ints_anyL r'))
        have al5 := tups_lt al4 lt5
        have nF5 : Grow p H (upd (upd H8 t3 (.tup (r'.map V.int))) F0 (.lst (acc ++ [.ref t3]))) := fun b o nb eo => by
          rw [upd_ne (ne_of_none eo hF)]
          exact k4 _ _ ((g2.trans G27) b o nb eo)
        refine ⟨⟨_, _, _, _, rfl⟩, nF5, ?_, acc ++ [.ref t3], m ++ [r'], upd_same, al5, ?_, ?_⟩
        · obtain ⟨a1, a2, a3, h1, rest⟩ := B7.keep k4
          exact Bx.more ⟨a1, a2, a3, by rw [upd_ne (Ne.symm nF)]; exact h1, rest⟩ (by omega)
        · rw [List.length_append, bm.h] <;> rfl
        · intro r2 hr2
          rcases List.mem_append.mp hr2 with z | z
          · exact bm.w r2 z
          · rw [List.mem_singleton.mp z]
            exact ⟨lr', br'⟩
    · rintro σ' H2 ⟨⟨y5, y6, y7, y8, rfl⟩, g2, b2, acc, m, ea, al, bm⟩
      have hN : (r * (if decide ((0 : Int) < (xs.length : Nat)) = true then 1 else 0)).toNat ≤ 3 := by
        split <;> omega
      generalize (r * (if decide ((0 : Int) < (xs.length : Nat)) = true then 1 else 0)).toNat = N at hN b2 bm
      refine ⟨_, rfl, _, rfl, _, rfl, _, rfl, _, rfl, p, 3, _, rfl, by decide, by decide, b2, by omega, fun t3 H3 t30 t31 G3 B3 => ?_⟩
      refine ⟨rfl, .inr ⟨_, rfl, ?_⟩⟩
      have lacc := anyL_len al
      rw [List.length_map, bm.h] at lacc
      have ez : (if decide (V.int t3 = V.int 0) = true then (1 : Int) else 0) = (((if decide (V.int t3 = V.int 0) = true then 1 else 0) : Nat) : Int) := by split <;> rfl
      rw [ez]
      refine ⟨p, q, ww, _, _, rfl, hq, w12, by split <;> omega, B3, by omega, fun l2 ac2 m2 H5 hl2 G5 B5 e5 al5 bm2 => ?_⟩
      have G35 := G3.trans G5
      refine ⟨F0, l2, acc, ac2, rfl, rfl, G35 _ _ nF ea, e5, Nat.le_trans (by
        have := (anyL_len al5).trans ((List.length_map _).trans bm2.h)
        have : (if decide (V.int t3 = V.int 0) = true then 1 else 0) ≤ 1 := by split <;> omega
        omega : acc.length + ac2.length ≤ 100) (by decide), fun l3 hl3 => ?_⟩
      have k7 := same_new (o := .lst (acc ++ ac2)) hl3
      refine k0 l3 _ (m ++ m2) (N + (if decide (V.int t3 = V.int 0) = true then 1 else 0)) _ ?_ ((g2.trans G35).trans (Grow.of k7)) ((B5.keep k7).more (by omega)) upd_same ?_ ?_ ⟨?_, fun r hr => (List.mem_append.mp hr).elim (bm.w r) (bm2.w r)⟩
      · cases e : H l3 with
        | none => rfl
        | some o =>
          by_cases z : l3 = p
          · subst z
            obtain ⟨ys, ey⟩ := bx_at B5
            rw [ey] at hl3
            cases hl3
          · rw [(g2.trans G35) l3 o z e] at hl3
            cases hl3
      · rw [List.map_append]
        exact anyL_app (anyL_keep k7 (tups_lt al (grow_lt b2 G35))) (anyL_keep k7 al5)
      · split <;> omega
      · rw [List.length_append, bm.h, bm2.h]
end
end K6

set_option Elab.async false
set_option linter.all false
set_option maxRecDepth 100000
set_option maxHeartbeats 1000000
/-! TkJL: for the law of spaces: spaces made, spaces beside a box, the odd things. -/
namespace Rw
open PySem PySem.Spec PyProof.Rows L2
theorem noL_pairs (qs : List PR) : noL (pairsT qs) = true := by
  unfold pairsT
  refine noLs_of fun d hd => ?_
  obtain ⟨q, _, rfl⟩ := List.mem_map.mp hd
  refine noLs_of fun e he => ?_
  rcases List.mem_cons.mp he with z | z
  · rw [z]
    rfl
  · rw [List.mem_singleton.mp z]
    exact noL_tupI _
theorem sp_grow {C a b : Addr} {H H' : Hp} {n : Nat} {p : Int} {w : Nat} {qs : List PR} (B : Bx H b n) (g : Grow b H H') (s : SpAt C H a p w qs) : SpAt C H' a p w qs := by
  obtain ⟨dx, t, ea, at_⟩ := s
  obtain ⟨ys, ey⟩ := bx_at B
  exact ⟨dx, t, g _ _ (fun z => by rw [z, ey] at ea; cases ea) ea, any_lt (grow_lt B g) _ _ at_ (noL_pairs qs)⟩
/-- the class of spaces, made -/
structure MkSp (P : Program) (w : World) (K : PySem.W.Frag) (mg : Str → Option Value) (base : Heap) (C t0 : Addr) : Prop where
  g : mg "Space" = some (.ref C)
  ini : ∃ (f : Addr) (fd : FuncData), Mk K C f ∧ FnOk P w K mg base (L2.CX P w) 6 f fd ["self", "prime", "length", "vectors"] (spIniSp K C) ∧ Binds K fd ["self", "prime", "length", "vectors"] [] ∧ Binds K fd ["self", "prime", "length", "vectors"] [.ref t0]
  t0 : ∀ H, VecsIn K H (.ref t0) []
theorem mk_sp {K : PySem.W.Frag} {C : Addr} {H : Hp} {p : Int} {W : Nat} {vv : V} {rows : List (List Int)} {us : List V} {Q : VK} {E : XK} (hu : us = [.int p, .int ((W : Nat) : Int), vv]) (hp : p ∈ primesL) (w12 : W ≤ 12) (vi : VecsIn K H vv rows) (l100 : rows.length ≤ 100) (hrow : ∀ r, r ∈ rows → r.length = W ∧ SmV r)
    (q : ∀ x qs H', H x = none → Bas p W rows qs → Asc qs → Same H H' → SpAt C H' x p W qs → Q (.ref x) H') :
    ∀ x dx, H x = none → H dx = none → dx ≠ x → spIniSp K C (.ref x :: us) (upd (upd H dx (.own x)) x (.ins C dx [])) (fun v H2 => v = .non ∧ Q (.ref x) H2) E := by
  intro x dx hx hdx ne
  subst hu
  have k : Same H (upd (upd H dx (.own x)) x (.ins C dx [])) := fun b o e => by
    rw [upd_ne (ne_of_none e hx), upd_ne (ne_of_none e hdx)]
    exact e
  refine ⟨x, dx, p, W, vv, rows, rfl, upd_same, hp, w12, vi.keep k, l100, hrow, fun qs H' b s g sp => ⟨rfl, q x qs H' hx b s (fun b o e => g b o (ne_of_none e hx) (k b o e)) sp⟩⟩
theorem same_growP {p : Addr} {H H1 H2 : Hp} (s : Same H H1) (hp : H p = none) (g : Grow p H1 H2) : Same H H2 := fun b o e => g b o (ne_of_none e hp) (s b o e)
def tSp (K : PySem.W.Frag) (C : Addr) (dvs : List V) (t : TA) : TE := fun σ H Q => t σ H fun vs H1 => ∃ p W vv rows, vs ++ dvs = [.int p, .int ((W : Nat) : Int), vv] ∧ p ∈ primesL ∧ W ≤ 12 ∧ VecsIn K H1 vv rows ∧ rows.length ≤ 100 ∧ (∀ r, r ∈ rows → r.length = W ∧ SmV r) ∧
  ∀ x qs H', H1 x = none → Bas p W rows qs → Asc qs → Same H1 H' → SpAt C H' x p W qs → Q (.ref x) H'
section
variable {X : Cx} {C f : Addr} {fd : FuncData} {ds : List Value} {dvs : List V} {p pos : Pos} {e : Expr} {es : List Expr} {t : TA}
theorem pe_sp (g : X.mg "Space" = some (.ref C)) (M : Mk X.K C f) (F : FnOk X.prog X.w X.K X.mg X.base (L2.CX X.prog X.w) 6 f fd ["self", "prime", "length", "vectors"] (spIniSp X.K C)) (hb : Binds X.K fd ["self", "prime", "length", "vectors"] ds) (hd : Vals dvs ds) (hr : Room 7 X.A) (ha : PA X (e :: es) t) (hg : Gl X "Space" := by rfl)
    (he : starEach (e :: es) X.env = (false, eval e X.env) :: starEach es X.env := by rfl) (hpl : (backTo pos (starEach es X.env)).any (·.1) = false := by rfl) : PE X (.Call (.Name "Space" p) (e :: es) [] pos) (tSp X.K C dvs t) := by
  refine ⟨fun pins s σ H Q I h => ?_⟩
  refine wpAny_Call_Name_kw (ld_glob I hg g ?_ (by decide))
  refine PySem.W.callWith_K (h₀ := X.base) I.ok.mod.kin M.kp (thn (ha.run pos pins s σ H _ I h) fun us s1 ⟨vs, H1, I1, r, q⟩ => ⟨I1.kIn, ?_⟩) he hpl
  obtain ⟨p, W, vv, rows, eu, hp, w12, vi, l100, hrow, k⟩ := q
  exact run_make M F hr hb hd (E := E0) passN I1 r (mk_sp eu hp w12 vi l100 hrow k)
end
/-- what is no vector of width W -/
def oddV (W : Nat) : List PyData := [.none, .int 7, .str (Txt.mul "1" ((W : Nat) : Int)), .tuple (List.replicate (W + 1) (.int 0)), .tuple (List.replicate (if 1 < W then W else 1) (.bool true)), .dict [], .tuple (List.replicate 2 (.tuple (List.replicate W (.int 0))))]
def fitL (W : Nat) (d : PyData) : Bool := !isVecD ((W : Nat) : Int) d && (tqB 4 (wD "vector" d) && decide ((itemsD d).length ≤ 1000))
theorem oddV_ok {W : Nat} (h : W ≤ 12) : ∀ d ∈ oddV W, isVecD ((W : Nat) : Int) d = false ∧ Tq 4 (wD "vector" d) ∧ (itemsD d).length ≤ 1000 := by
  have c : ∀ W ∈ List.range 13, ∀ d ∈ oddV W, fitL W d = true := by decide +kernel
  intro d hd
  have := c W (List.mem_range.mpr (by omega)) d hd
  unfold fitL at this
  rw [Bool.and_eq_true, Bool.and_eq_true, decide_eq_true_iff] at this
  exact ⟨by simpa using this.1, tq_ofB this.2.1, this.2.2⟩
theorem mul1 {W : Nat} (h : W ≤ 12) : PySem.MulOk "1" ((W : Nat) : Int) := by
  have c : ∀ W ∈ List.range 13, PySem.MulOk "1" ((W : Nat) : Int) := by
    unfold PySem.MulOk
    decide +kernel
  exact c W (List.mem_range.mpr (by omega))
theorem flat_rep {α : Type} (v : α) (k : Nat) : (List.replicate k [v]).flatten = List.replicate k v := flat_one v k
theorem rep_int (k : Nat) (c : Int) : List.replicate k (V.int c) = (List.replicate k c).map V.int := by simp
theorem ask_odd {way : Nat} {p : Int} {W : Nat} {qs : List PR} {d : PyData} (h : isVecD ((W : Nat) : Int) d = false) : askD way p W qs d = wD "vector" d := by
  unfold askD
  rw [if_neg (by rw [h]; exact Bool.false_ne_true)]
theorem lst_rep {W : Nat} (h : W ≤ 13) {c : Int} {H : Hp} {z1 : Addr} {k : Int} (hk : k = ((W : Nat) : Int)) (hz1 : H z1 = none) {Q : VK} (q : ∀ t H', Same H H' → H' t = some (.lst ((List.replicate W c).map V.int)) → Q (.ref t) H') : rRep (.ref z1) (.int k) (upd H z1 (.lst [.int c])) Q := by
  subst hk
  refine ⟨z1, _, [.int c], rfl, rfl, upd_same, by omega, by omega, Nat.le_trans (by show 1 * ((W : Nat) : Int).toNat ≤ 13; omega) (by decide), fun z2 hz2 => ?_⟩
  rw [flat_rep, show ((W : Nat) : Int).toNat = W by omega, rep_int]
  exact q z2 _ ((same_new hz1).trans (same_new hz2)) upd_same
theorem big_rows {k w : Nat} {m : List (List Int)} (b : BigM k w m) : ∀ r, r ∈ m → r.length = w ∧ SmV r := fun r hr => ⟨(b.w r hr).1, ⟨fun x hx => Nat.lt_trans ((b.w r hr).2 x hx) (by decide)⟩⟩
theorem sm_rep {W : Nat} {c : Int} (h : c.natAbs < 10 ^ 40) : SmV (List.replicate W c) := ⟨fun x hx => by rw [(List.mem_replicate.mp hx).2]; exact h⟩
theorem anyL_repS {H : Hp} {v : V} {d : PyData} (h : Any H v d) : ∀ k : Nat, AnyL H (List.replicate k v) (List.replicate k d)
  | 0 => .nil
  | k + 1 => .cons h (anyL_repS h k)
theorem any_rep {H : Hp} {t : Addr} {v : V} {d : PyData} {k : Nat} (e : H t = some (.tup (List.replicate k v))) (h : Any H v d) : Any H (.ref t) (.tuple (List.replicate k d)) := .tup e (anyL_repS h k)
theorem max_nat {W : Nat} : V.int (if ((W : Nat) : Int) > 1 then ((W : Nat) : Int) else 1) = V.int (((if 1 < W then W else 1) : Nat) : Int) := by
  by_cases h : 1 < W
  · rw [if_pos h, if_pos (by omega)]
  · rw [if_neg h, if_neg (by omega)] <;> rfl
theorem other_p {qq : Int} : ∃ q3 : Int, q3 ∈ primesL ∧ q3 ≠ qq ∧ ∃ j : Nat, (if decide (V.int qq = V.int 3) = true then (1 : Int) else 0) = ((j : Nat) : Int) ∧ ([V.int 3, V.int 2] : List V)[j]? = some (.int q3) := by
  by_cases h : qq = 3
  · exact ⟨2, by decide, by omega, 1, by rw [h, decide_eq_true rfl]; rfl, rfl⟩
  · exact ⟨3, by decide, fun z => h z.symm, 0, by rw [decide_eq_false (fun z => h (V.int.inj z))]; rfl, rfl⟩
theorem other_w {W : Nat} (w12 : W ≤ 12) : ∃ W2 : Nat, W2 ≤ 12 ∧ W2 ≠ W ∧ ∃ j : Nat, (if decide (V.int ((W : Nat) : Int) = V.int 12) = true then (1 : Int) else 0) = ((j : Nat) : Int) ∧ ([V.int (((W : Nat) : Int) + 1), V.int 0] : List V)[j]? = some (.int ((W2 : Nat) : Int)) := by
  by_cases h : W = 12
  · exact ⟨0, by decide, by omega, 1, by rw [show decide (V.int ((W : Nat) : Int) = V.int 12) = true from decide_eq_true (by rw [h]; rfl)]; rfl, rfl⟩
  · exact ⟨W + 1, by omega, by omega, 0, by rw [decide_eq_false (fun z => h (by have := V.int.inj z; omega))]; rfl, rfl⟩
def zeroB : PyData → Bool
  | .int x => decide (x = 0)
  | _ => true
theorem odd_noV {W : Nat} (h : W ≤ 12) : ∀ d ∈ oddV W, ∀ r, VecD r d → SmV r := by
  have c : ∀ W ∈ List.range 13, ∀ d ∈ oddV W, (itemsD d).all zeroB = true := by decide +kernel
  intro d hd r e
  have h2 := c W (List.mem_range.mpr (by omega)) d hd
  have e2 : itemsD d = r.map .int := by
    rcases e with z | z <;> rw [z] <;> rfl
  rw [e2, List.all_eq_true] at h2
  refine ⟨fun x hx => ?_⟩
  have := of_decide_eq_true (h2 (.int x) (List.mem_map.mpr ⟨x, hx, rfl⟩))
  rw [this]
  decide
end Rw

set_option Elab.async false
set_option linter.all false
set_option maxRecDepth 100000
set_option maxHeartbeats 16000000
/-! K6L: the law of members, rests, equal spaces. -/
namespace K6
open PySem PySem.Spec PyProof.Rows L2 Rw
abbrev sLaw : Stmt := top 52
abbrev NLaw : List Str := ["_law_script", "_law_k", "_law_box_here", "_law_p", "_law_wide", "_law_rows", "_law_space", "_law_base_here", "_law_some", "_law_near", "_law_row", "_law_more", "_law_odd", "_law_way", "_law_unlike", "_law_other", "_law_spot", "_law_item"]
theorem scLaw : FnScope NLaw ["_law_script"] (defScope sLaw) := ⟨rfl, rfl, rfl, by decide +kernel, rfl, by decide +kernel, by decide +kernel⟩
def spLaw (K : PySem.W.Frag) : Sp := fun vs H Q _ => ∃ (a : Addr) (ns : List Int), vs = [.ref a] ∧ SqL K H a (ns.map V.int) ∧ ns.length ≤ 63 ∧ ∀ H', Q (.bl true) H'
structure Olaw (P : Program) (w : World) (K : PySem.W.Frag) (mg : Str → Option Value) (base : Heap) (C t0 : Addr) : Prop where
  cell : Own P w K mg base CX0 1 "_law_cell" ["_law_script", "_law_k"] [] (spCellR K)
  box : Own P w K mg base CX0 1 "_law_box" ["_law_cell_here"] [] spBoxR
  take : Own P w K mg base CX0 1 "_law_take" ["_law_box_here", "_law_many"] [] spTakeR
  prime : Own P w K mg base CX0 2 "_law_prime" ["_law_box_here"] [] spPrimeR
  vecs : Own P w K mg base CX0 3 "_law_vectors" ["_law_box_here", "_law_p", "_law_wide", "_law_many"] [] spVecsW
  bas : Own P w K mg base CX0 2 "_law_base" ["_law_p", "_law_rows"] [] spBaseL
  sums : Own P w K mg base CX0 4 "_law_sums" ["_law_box_here", "_law_p", "_law_rows", "_law_wide"] [] spSums
  asked : Own P w K mg base CX0 7 "_law_asked" ["_law_way", "_law_space", "_law_row"] [] (spAsked C)
  lies : Own P w K mg base CX0 7 "_law_lies" ["_law_one", "_law_two"] [] (spLiesL C)
  vecR : OwnG P w K mg base CX0 8 "_law_vector_right" ["_law_p", "_law_space", "_law_base_here", "_law_row"] [] (spVecR C)
  pairR : OwnG P w K mg base CX0 8 "_law_pair_right" ["_law_p", "_law_one", "_law_two", "_law_rows", "_law_more"] [] (spPairR C)
  made : MkSp P w K mg base C t0
structure Zs (mg : Str → Option Value) : Prop where
  range : mg "range" = none
  max : mg "max" = none
  min : mg "min" = none
  len : mg "len" = none
  repr : mg "repr" = none
  int : mg "int" = none
  tuple : mg "tuple" = none
  list : mg "list" = none
  enum : mg "enumerate" = none
abbrev gSI (K : PySem.W.Frag) : TG := gTup K 2 (gCons (gName 16) (gCons (gName 17) gNil))
abbrev tNear : TE := tOp (rI0 fun i j => .int (i + j)) (tCB rInt1 (tCons (tVar 17) tNil)) (tCB rInt1 (tCons (tOp rEq (tVar 16) (tC (.int 0))) tNil))
abbrev tLess17 : TE := tOp (rI0 fun i j => .int (i - j)) (tVar 17) (tVar 3)
section
variable {P : Program} {w : World} {K : PySem.W.Frag} {mg : Str → Option Value} {base : Heap} {C t0 : Addr}
set_option pp.maxSteps 400 in
theorem okLaw {f : Addr} {fd : FuncData} (F : Fun K "law" "law" sLaw f fd) (Z : Zs mg) (O : Olaw P w K mg base C t0) : FnG P w K mg base CX0 9 f fd ["_law_script"] (spLaw K) := by
  obtain ⟨fi, fdi, M, Fi, b1, b2⟩ := O.made.ini
  refine funG F scLaw (fun vs H Q E h => ?_) (fun cdv A outer sh H vs Q E gu hr h => ?_)
  · obtain ⟨a, ns, rfl, _⟩ := h
    rfl
  · obtain ⟨a, ns, rfl, hs, hlen, q⟩ := h
    refine ⟨_, (pss_cons (ps_for PassesOwn.never rfl (pi_range1 rfl Z.range (pa_cons (pe_callB (call_max2 rfl) (by rfl) Z.max (by decide +kernel) (pa_cons pe_int (pa_cons (pe_callB (call_min2 rfl) (by rfl) Z.min (by decide +kernel) (pa_cons pe_int (pa_cons (pe_callB call_len_seq (by rfl) Z.len boot_len (pa_cons (pv 0) pa_nil)) pa_nil))) pa_nil))) pa_nil)) (pg_name (i := 1) scLaw.nd rfl (Or.inl rfl)) (pss_cons (ps_set (i := 2) scLaw.nd rfl (Or.inl rfl) (pe_own O.box (hr.mono (by decide)) pass0 (pa_cons (pe_own O.cell (hr.mono (by decide)) pass0 (pa_cons (pv 0) (pa_cons (pv 1) pa_nil))) pa_nil)))
      (pss_cons (ps_asg (pe_tup (pa_cons (pe_own O.prime (hr.mono (by decide)) pass0 (pa_cons (pv 2) pa_nil)) (pa_cons (pe_ix ix_list (pe_lst (pa_cons (pe_own O.take (hr.mono (by decide)) pass0 (pa_cons (pv 2) (pa_cons pe_int pa_nil))) (pa_cons pe_int pa_nil))) (pe_op op_fdivW (pe_own O.take (hr.mono (by decide)) pass0 (pa_cons (pv 2) (pa_cons pe_int pa_nil))) pe_int) (fun _ _ => rfl)) pa_nil))) (pg_tup rfl (pgs_cons (pg_name (i := 3) scLaw.nd rfl (Or.inr rfl)) (pgs_cons (pg_name (i := 4) scLaw.nd rfl (Or.inl rfl)) pgs_nil))))
      (pss_cons (ps_set (i := 5) scLaw.nd rfl (Or.inl rfl) (pe_own O.vecs (hr.mono (by decide)) pass0 (pa_cons (pv 2) (pa_cons (pv 3) (pa_cons (pv 4) (pa_cons (pe_own O.take (hr.mono (by decide)) pass0 (pa_cons (pv 2) (pa_cons pe_int pa_nil))) pa_nil))))))
      (pss_cons (ps_par (i := 6) (j := 7) (by rfl) scLaw.nd rfl rfl (by decide) rfl rfl (pa_cons (pe_sp O.made.g M Fi b1 .nil (hr.mono (by decide)) (pa_cons (pv 3) (pa_cons (pv 4) (pa_cons (pv 5) pa_nil)))) (pa_cons (pe_own O.bas (hr.mono (by decide)) pass0 (pa_cons (pv 3) (pa_cons (pv 5) pa_nil))) pa_nil)) (by rfl))
      (pss_cons (ps_set (i := 8) scLaw.nd rfl (Or.inl rfl) (pe_op op_cat (pe_op op_cat (pv 5) (pe_own O.vecs (hr.mono (by decide)) pass0 (pa_cons (pv 2) (pa_cons (pv 3) (pa_cons (pv 4) (pa_cons pe_int pa_nil)))))) (pe_lst (pa_cons (pe_callTy call_tuple_of (by rfl) Z.tuple (by decide +kernel) (pa_cons (pe_op op_rep (pe_lst (pa_cons pe_int pa_nil)) (pv 4)) pa_nil)) (pa_cons (pe_callTy call_tuple_of (by rfl) Z.tuple (by decide +kernel) (pa_cons (pe_op op_rep (pe_lst (pa_cons (pv 3) pa_nil)) (pv 4)) pa_nil)) pa_nil)))))
      (pss_cons (ps_setLc (i := 9) (own := [("_law_spot", 16), ("_law_item", 17)]) (g := gSI K) (tt := tYes) (te := tNear) rfl scLaw.nd rfl rfl (sw_true rfl rfl rfl (by decide +kernel)) (pi_enumB (by rfl) Z.enum (pa_cons (pe_ix ix_list (pe_op op_cat (pv 5) (pe_lst (pa_cons (pe_callTy call_tuple_of (by rfl) Z.tuple (by decide +kernel) (pa_cons (pe_op op_rep (pe_lst (pa_cons pe_int pa_nil)) (pv 4)) pa_nil)) pa_nil))) pe_int (fun _ _ => rfl)) pa_nil)) (blkOk_by (N := NLaw) (sc := defScope sLaw) (by decide +kernel)) (fun _ _ _ _ _ => (pg_tup rfl (pgs_cons (pg_name (i := 16) scLaw.nd rfl (Or.inl rfl)) (pgs_cons (pg_name (i := 17) scLaw.nd rfl (Or.inl rfl)) pgs_nil)))) (fun _ _ _ _ _ => pts_nil) (fun _ _ _ _ _ => (pe_op op_add (pe_callTy call_int1 (by rfl) Z.int (by decide +kernel) (pa_cons (pv 17) pa_nil)) (pe_callTy call_int1 (by rfl) Z.int (by decide +kernel) (pa_cons (pe_cmpR op_eq (pv 16) pe_int (nomark _)) pa_nil)))))
      (pss_cons (ps_for PassesOwn.never rfl (pi_seq (pe_op op_cat (pv 8) (pe_lst (pa_cons (pv 9) (pa_cons (pe_lc (own := [("_law_item", 17)]) (g := gName 17) (tt := tYes) (te := tLess17) rfl scLaw.nd (pi_seq (pv 9)) (blkOk_by (N := NLaw) (sc := defScope sLaw) (by decide +kernel)) (fun _ _ _ _ _ => (pg_name (i := 17) scLaw.nd rfl (Or.inl rfl))) (fun _ _ _ _ _ => pts_nil) (fun _ _ _ _ _ => (pe_op op_sub (pv 17) (pv 3)))) pa_nil))))) (pg_name (i := 10) scLaw.nd rfl (Or.inl rfl)) (pss_one (ps_if (PW.pt (pw_or (pt_not (pt_val (pe_ownG O.vecR gu (hr.mono (by decide)) pass0 (pa_cons (pv 3) (pa_cons (pv 6) (pa_cons (pv 7) (pa_cons (pv 10) pa_nil))))))) (pw_or1 (pt_not (pt_val (pe_ownG O.vecR gu (hr.mono (by decide)) pass0 (pa_cons (pv 3) (pa_cons (pv 6) (pa_cons (pv 7) (pa_cons (pe_callTy call_list_of (by rfl) Z.list (by decide +kernel) (pa_cons (pv 10) pa_nil)) pa_nil)))))))))) (pss_one (ps_ret pe_bl)) pss_nil)))
      (pss_cons (ps_set (i := 11) scLaw.nd rfl (Or.inl rfl) (pe_own O.sums (hr.mono (by decide)) pass0 (pa_cons (pv 2) (pa_cons (pv 3) (pa_cons (pv 5) (pa_cons (pv 4) pa_nil))))))
      (pss_cons (ps_if (pt_not (pt_val (pe_ownG O.pairR gu (hr.mono (by decide)) pass0 (pa_cons (pv 3) (pa_cons (pv 6) (pa_cons (pe_sp O.made.g M Fi b1 .nil (hr.mono (by decide)) (pa_cons (pv 3) (pa_cons (pv 4) (pa_cons (pv 11) pa_nil)))) (pa_cons (pv 5) (pa_cons (pv 11) pa_nil)))))))) (pss_one (ps_ret pe_bl)) pss_nil)
      (pss_cons (ps_for PassesOwn.never rfl (pi_seq (pe_lst (pa_cons pe_non (pa_cons pe_int (pa_cons (pe_op op_mulS pe_str (pv 4)) (pa_cons (pe_callTy call_tuple_of (by rfl) Z.tuple (by decide +kernel) (pa_cons (pe_op op_rep (pe_lst (pa_cons pe_int pa_nil)) (pe_op op_add (pv 4) pe_int)) pa_nil)) (pa_cons (pe_op op_repO (pe_tup (pa_cons pe_bl pa_nil)) (pe_callB (call_max2 rfl) (by rfl) Z.max (by decide +kernel) (pa_cons pe_int (pa_cons (pv 4) pa_nil)))) (pa_cons pe_dnewK (pa_cons (pe_op op_repO (pe_tup (pa_cons (pe_op op_repO (pe_tup (pa_cons pe_int pa_nil)) (pv 4)) pa_nil)) pe_int) pa_nil))))))))) (pg_name (i := 12) scLaw.nd rfl (Or.inl rfl)) (pss_one (ps_for PassesOwn.never rfl (pi_range1 rfl Z.range (pa_cons pe_int pa_nil)) (pg_name (i := 13) scLaw.nd rfl (Or.inl rfl)) (pss_one (ps_if (pt_cmpR op_ne (pe_callB (call_reprA gu hr.units) (by rfl) Z.repr (by decide +kernel) (pa_cons (pe_own O.asked (hr.mono (by decide)) pass0 (pa_cons (pv 13) (pa_cons (pv 6) (pa_cons (pv 12) pa_nil)))) pa_nil)) (pe_callB (call_reprA gu hr.units) (by rfl) Z.repr (by decide +kernel) (pa_cons (pe_lst (pa_cons pe_str (pa_cons (pv 12) pa_nil))) pa_nil)) (nomark _)) (pss_one (ps_ret pe_bl)) pss_nil)))))
      (pss_cons (ps_set (i := 14) scLaw.nd rfl (Or.inl rfl) (pe_lst (pa_cons (pe_sp O.made.g M Fi b2 (.cons (a := V.ref t0) (b := Value.ref t0) rfl .nil) (hr.mono (by decide)) (pa_cons (pe_ix ix_list (pe_lst (pa_cons pe_int (pa_cons pe_int pa_nil))) (pe_callTy call_int1 (by rfl) Z.int (by decide +kernel) (pa_cons (pe_cmpR op_eq (pv 3) pe_int (nomark _)) pa_nil)) (fun _ _ => rfl)) (pa_cons (pv 4) pa_nil))) (pa_cons (pe_sp O.made.g M Fi b2 (.cons (a := V.ref t0) (b := Value.ref t0) rfl .nil) (hr.mono (by decide)) (pa_cons (pv 3) (pa_cons (pe_ix ix_list (pe_lst (pa_cons (pe_op op_add (pv 4) pe_int) (pa_cons pe_int pa_nil))) (pe_callTy call_int1 (by rfl) Z.int (by decide +kernel) (pa_cons (pe_cmpR op_eq (pv 4) pe_int (nomark _)) pa_nil)) (fun _ _ => rfl)) pa_nil))) pa_nil))))
      (pss_one (ps_for PassesOwn.never rfl (pi_seq (pv 14)) (pg_name (i := 15) scLaw.nd rfl (Or.inl rfl)) (pss_one (ps_if (PW.pt (pw_or (pt_cmpR (op_neD hr.units) (pe_own O.lies (hr.mono (by decide)) pass0 (pa_cons (pv 6) (pa_cons (pv 15) pa_nil))) (pe_lst (pa_cons pe_str pa_nil)) (nomark _)) (pw_or1 (pt_cmpR (op_neD hr.units) (pe_own O.lies (hr.mono (by decide)) pass0 (pa_cons (pv 15) (pa_cons (pv 6) pa_nil))) (pe_lst (pa_cons pe_str pa_nil)) (nomark _))))) (pss_one (ps_ret pe_bl)) pss_nil))))))))))))))))
    (pss_one (ps_ret pe_bl))), ?_⟩
    refine ⟨_, rfl, a, _, rfl, .inl hs, _, _, rfl, _, _, rfl, _, rfl, ?_, ?_, ?_⟩
    · split <;> split <;> omega
    · split <;> split <;> omega
    have hn8 : (if (if ((ns.map V.int).length : Int) < 8 then ((ns.map V.int).length : Int) else 8) > 2 then (if ((ns.map V.int).length : Int) < 8 then ((ns.map V.int).length : Int) else 8) else 2).toNat ≤ 8 := by
      split <;> split <;> omega
    refine for_range (lo := 0) (n := _) (fun i σ' H' => (∃ x1 x2 x3 x4 x5 x6 x7 x8 x9 x10 x11 x12 x13 x14 x15, σ' = [some (.ref a), x1, x2, x3, x4, x5, x6, x7, x8, x9, x10, x11, x12, x13, x14, x15, none, none]) ∧ Same H H') ⟨⟨_, _, _, _, _, _, _, _, _, _, _, _, _, _, _, rfl⟩, Same.refl _⟩ ?_ ?_
    rotate_left
    · rintro σ' H' ⟨⟨x1, x2, x3, x4, x5, x6, x7, x8, x9, x10, x11, x12, x13, x14, x15, rfl⟩, S⟩
      exact q _
    rintro i σ' Hs hi ⟨⟨x1, x2, x3, x4, x5, x6, x7, x8, x9, x10, x11, x12, x13, x14, x15, rfl⟩, S⟩
    have hi8 : i < 8 := Nat.lt_of_lt_of_le hi hn8
    refine ⟨_, rfl, _, rfl, a, ns, i, (by rw [Int.zero_add] <;> rfl), S.seq hs, by omega, fun z => ⟨z, rfl, fun p Hb hp0 sm bx => ?_⟩⟩
    -- the prime, the width
    refine ⟨_, rfl, p, _, rfl, bx, by omega, fun qq H1 hq G1 B1 => ?_⟩
    have pp := prime_pos hq
    refine ⟨_, rfl, p, 7, _, rfl, by decide, by decide, B1, by omega, fun r7 H2 r70 r71 G2 B2 => ?_⟩
    refine ⟨by show 2 ≤ sizeLine; decide, fun l1 hl1 => ?_⟩
    have k2 := same_new (o := .lst [.int r7, .int 12]) hl1
    have nl1 := B2.ne hl1
    have e2 : (upd H2 l1 (.lst [.int r7, .int 12])) l1 = some (.lst [.int r7, .int 12]) := upd_same
    have B2' := B2.keep k2
    have G12 := (G1.trans G2).trans (Grow.of k2)
    generalize upd H2 l1 (.lst [.int r7, .int 12]) = H2' at e2 B2' G12 ⊢
    clear k2 hl1
    refine ⟨_, rfl, p, 8, _, rfl, by decide, by decide, B2', by omega, fun r8 H3 r80 r81 G3 B3 => ?_⟩
    obtain ⟨W, w12, hW⟩ : ∃ W : Nat, W ≤ 12 ∧ ∃ j : Nat, r8 / 7 = ((j : Nat) : Int) ∧ ([V.int r7, V.int 12] : List V)[j]? = some (.int ((W : Nat) : Int)) := by
      by_cases h : r8 = 7
      · exact ⟨12, by decide, 1, by rw [h]; rfl, rfl⟩
      · refine ⟨r7.toNat, by omega, 0, by omega, ?_⟩
        show some (V.int r7) = some (V.int ((r7.toNat : Nat) : Int))
        rw [show ((r7.toNat : Nat) : Int) = r7 by omega]
    obtain ⟨j, ej, eW⟩ := hW
    refine ⟨_, _, rfl, rfl, ⟨by decide, by decide +kernel⟩, ?_⟩
    dsimp only
    rw [ej]
    refine ⟨l1, _, ((j : Nat) : Int), _, rfl, rfl, SqL.of (G3 l1 _ nl1.symm e2), atI_nat eW, ?_⟩
    refine ⟨by show 2 ≤ sizeLine; decide, fun t ht => ⟨t, _, rfl, SqT.of upd_same, rfl, _, _, rfl, _, _, rfl, rfl, ?_⟩⟩
    have k4 := same_new (o := .tup [.int qq, .int ((W : Nat) : Int)]) ht
    have B4 := B3.keep k4
    have G14 := (G12.trans G3).trans (Grow.of k4)
    generalize upd H3 t (.tup [.int qq, .int ((W : Nat) : Int)]) = H4 at B4 G14 ⊢
    clear k4 ht B3 G3 G12 e2 eW ej B2' G2 B2 G1 B1 nl1
    -- the rows
    refine ⟨_, rfl, _, rfl, _, rfl, _, rfl, p, 7, _, rfl, by decide, by decide, B4, by omega, fun kk' H5 kk0 kk1 G5 B5 => ?_⟩
    obtain ⟨kk, rfl⟩ : ∃ j : Nat, kk' = (j : Int) := ⟨kk'.toNat, by omega⟩
    have k6 : kk ≤ 6 := by omega
    refine ⟨p, qq, W, kk, _, rfl, hq, w12, k6, B5, by omega, fun l5 ac5 m5 H6 hl5 G6 B6 e5 al5 bm5 => ?_⟩
    have nl5 : l5 ≠ p := (B5.ne hl5).symm
    have hrow5 := big_rows bm5
    have S6 : Same Hs H6 := same_growP sm hp0 ((G14.trans G5).trans G6)
    have B6 : Bx H6 p 400 := B6.more (by omega)
    clear G5 G6 B5 G14 B4 hl5 bx sm kk0 kk1
    have lac5 := (anyL_len al5).trans ((List.length_map _).trans bm5.h)
    -- the space, the base
    refine ⟨_, rfl, _, rfl, _, rfl, qq, W, _, m5, rfl, hq, w12, .inl ⟨_, .lst e5 al5, ⟨_, .inl rfl, likeV_tups _⟩⟩, by rw [bm5.h]; omega, hrow5, fun x6 qs H7 hx6 bq sq s7 sp7 => ?_⟩
    have gd : GoodSp qq W qs := ⟨hq, w12, bq.g, sq⟩
    refine ⟨_, rfl, _, rfl, qq, _, _, m5, W, rfl, hq, .lst (s7 _ _ e5) (anyL_keep s7 al5), ⟨_, .inl rfl, likeV_tups _⟩, ⟨_, rfl⟩, by rw [bm5.h]; omega, w12, hrow5, fun l7 ac7 f7 H8 hl7 s8 e7 al7 b7 => ?_⟩
    have ef7 : f7 = rowsP qs := base_one (by omega) b7 (bq.base sq) (fun r hr => .row hr) fun r hr => .row hr
    subst ef7
    refine ⟨_, _, rfl, ?_⟩
    have al7 := anyL_keep (same_del (p := l7)) al7
    have s78 := s7.trans s8
    have sp8 := sp7.keep s8
    have e58 := s78 _ _ e5
    have al58 := anyL_keep s78 al5
    have B8 := B6.keep s78
    have S8 := S6.trans s78
    have nl7 : l7 ≠ p := ((B6.keep s7).ne hl7).symm
    clear s7 s8 sp7 e5 al5 B6 S6 s78 hx6 hl7 b7
    -- some vectors
    refine ⟨_, rfl, _, rfl, _, rfl, _, rfl, p, qq, W, 3, _, rfl, hq, w12, by decide, B8, by omega, fun l9 ac9 m9 H9 hl9 G9 B9 e9 al9 bm9 => ?_⟩
    have lac9 := (anyL_len al9).trans ((List.length_map _).trans bm9.h)
    have e59 := G9 _ _ nl5 e58
    have al59 := tups_lt al58 (grow_lt B8 G9)
    have e79 := G9 _ _ nl7 e7
    have al79 := tups_lt al7 (grow_lt B8 G9)
    have sp9 := sp_grow B8 G9 sp8
    have S9 := same_growP S8 hp0 G9
    clear e58 al58 e7 al7 sp8 S8 G9 B8 hl9
    refine ⟨l5, l9, ac5, ac9, rfl, rfl, e59, e9, Nat.le_trans (by omega : _ ≤ 100) (by decide), fun c1 hc1 => ?_⟩
    have k10 := same_new (o := .lst (ac5 ++ ac9)) hc1
    refine ⟨by show 1 ≤ sizeLine; decide, fun z1 hz1 => ⟨_, rfl, ?_⟩⟩
    refine lst_rep (W := W) (by omega) rfl hz1 fun z3 H10' s10' ez3 => ?_
    refine ⟨z3, _, rfl, .inl ⟨SqL.of ez3, fun t1 ht1 => ?_⟩⟩
    have s11 := s10'.trans (same_new (o := .tup ((List.replicate W (0 : Int)).map V.int)) ht1)
    have et1 := upd_same (H := H10') (a := t1) (o := .tup ((List.replicate W (0 : Int)).map V.int))
    generalize upd H10' t1 (.tup ((List.replicate W (0 : Int)).map V.int)) = H11 at s11 et1 ⊢
    refine ⟨_, rfl, by show 1 ≤ sizeLine; decide, fun z2 hz2 => ⟨_, rfl, ?_⟩⟩
    refine lst_rep (W := W) (by omega) rfl hz2 fun z4 H11' s11' ez4 => ?_
    refine ⟨z4, _, rfl, .inl ⟨SqL.of ez4, fun t2 ht2 => ?_⟩⟩
    have s12 := s11'.trans (same_new (o := .tup ((List.replicate W qq).map V.int)) ht2)
    have et2 := upd_same (H := H11') (a := t2) (o := .tup ((List.replicate W qq).map V.int))
    generalize upd H11' t2 (.tup ((List.replicate W qq).map V.int)) = H12 at s12 et2 ⊢
    refine ⟨by show 2 ≤ sizeLine; decide, fun l10 hl10 => ?_⟩
    have k13 := same_new (o := .lst [.ref t1, .ref t2]) hl10
    have s913 := k10.trans (s11.trans (s12.trans k13))
    refine ⟨c1, l10, ac5 ++ ac9, [.ref t1, .ref t2], rfl, rfl, (s11.trans (s12.trans k13)) _ _ upd_same, upd_same, Nat.le_trans (by rw [List.length_append]; show _ + 2 ≤ 100; omega) (by decide), fun l8 hl8 => ?_⟩
    have k14 := same_new (o := .lst ((ac5 ++ ac9) ++ [.ref t1, .ref t2])) hl8
    have s914 := s913.trans k14
    have al8 : AnyL (upd (upd H12 l10 (.lst [.ref t1, .ref t2])) l8 (.lst ((ac5 ++ ac9) ++ [.ref t1, .ref t2]))) ((ac5 ++ ac9) ++ [.ref t1, .ref t2]) (((m5 ++ m9) ++ [List.replicate W 0, List.replicate W qq]).map tupI) := by
      rw [List.map_append, List.map_append]
      exact anyL_app (anyL_app (anyL_keep s914 al59) (anyL_keep s914 al9)) (.cons (tupI_any ((s12.trans (k13.trans k14)) _ _ et1)) (.cons (tupI_any ((k13.trans k14) _ _ et2)) .nil))
    have e8 := upd_same (H := upd H12 l10 (.lst [.ref t1, .ref t2])) (a := l8) (o := .lst ((ac5 ++ ac9) ++ [.ref t1, .ref t2]))
    have hrowS : ∀ r, r ∈ (m5 ++ m9) ++ [List.replicate W 0, List.replicate W qq] → r.length = W ∧ SmV r := fun r hr => by
      rcases List.mem_append.mp hr with z | z
      · rcases List.mem_append.mp z with y | y
        · exact hrow5 r y
        · exact big_rows bm9 r y
      · rcases List.mem_cons.mp z with y | y
        · rw [y]
          exact ⟨List.length_replicate, sm_rep (by decide)⟩
        · rw [List.mem_singleton.mp y]
          exact ⟨List.length_replicate, sm_rep (Nat.lt_of_le_of_lt (by omega : qq.natAbs ≤ 13) (by decide))⟩
    have lenS : ((m5 ++ m9) ++ [List.replicate W 0, List.replicate W qq]).length ≤ 11 := by
      rw [List.length_append, List.length_append, bm5.h, bm9.h]
      show _ + 2 ≤ 11
      omega
    generalize ((m5 ++ m9) ++ [List.replicate W 0, List.replicate W qq]) = mS at al8 hrowS lenS
    generalize ((ac5 ++ ac9) ++ [.ref t1, .ref t2]) = acS at al8 e8 s914 ⊢
    generalize upd (upd H12 l10 (.lst [.ref t1, .ref t2])) l8 (.lst acS) = H14 at al8 e8 s914 ⊢
    have e514 := s914 _ _ e59
    have al514 := anyL_keep s914 al59
    have e714 := s914 _ _ e79
    have al714 := anyL_keep s914 al79
    have sp14 := sp9.keep s914
    have S14 := S9.trans s914
    have B14 := B9.keep s914
    clear s914 s913 k13 s11 s12 k10 et1 et2 s10' s11' ez3 ez4 e59 al59 e79 al79 sp9 S9 B9 e9 al9 hl10 hz1 hz2 ht1 ht2 hc1 bm9 lac9
    -- the near one
    refine ⟨_, rfl, by show 1 ≤ sizeLine; decide, fun z5 hz5 => ⟨_, rfl, ?_⟩⟩
    refine lst_rep (W := W) (by omega) rfl hz5 fun z6 H15' s15' ez6 => ?_
    refine ⟨z6, _, rfl, .inl ⟨SqL.of ez6, fun t3 ht3 => ?_⟩⟩
    have s15 := s15'.trans (same_new (o := .tup ((List.replicate W (0 : Int)).map V.int)) ht3)
    have et3 := upd_same (H := H15') (a := t3) (o := .tup ((List.replicate W (0 : Int)).map V.int))
    generalize upd H15' t3 (.tup ((List.replicate W (0 : Int)).map V.int)) = H15 at s15 et3 ⊢
    refine ⟨by show 1 ≤ sizeLine; decide, fun l11 hl11 => ?_⟩
    have k16 := same_new (o := .lst [.ref t3]) hl11
    refine ⟨l5, l11, ac5, [.ref t3], rfl, rfl, (s15.trans k16) _ _ e514, upd_same, Nat.le_trans (by show ac5.length + 1 ≤ 100; omega) (by decide), fun l12 hl12 => ?_⟩
    have k17 := same_new (o := .lst (ac5 ++ [.ref t3])) hl12
    have s17 := s15.trans (k16.trans k17)
    have al12 : AnyL (upd (upd H15 l11 (.lst [.ref t3])) l12 (.lst (ac5 ++ [.ref t3]))) (ac5 ++ [.ref t3]) ((m5 ++ [List.replicate W 0]).map tupI) := by
      rw [List.map_append]
      exact anyL_snoc (anyL_keep s17 al514) (tupI_any ((k16.trans k17) _ _ et3))
    obtain ⟨tr, r0, htr, hr0, etr⟩ := tup_row al12 (j := 0) (by rw [List.length_append]; show 0 < _ + 1; omega)
    have hr0' : r0.length = W ∧ ∀ e, e ∈ r0 → Big e := by
      rcases List.mem_append.mp hr0 with z | z
      · exact bm5.w r0 z
      · rw [List.mem_singleton.mp z]
        exact ⟨List.length_replicate, fun e he => by rw [(List.mem_replicate.mp he).2]; unfold Big; decide⟩
    obtain ⟨lr0, br0⟩ := hr0'
    refine ⟨l12, _, 0, _, rfl, rfl, SqL.of upd_same, atI_nat (j := 0) htr, ?_⟩
    have S17 := S14.trans s17
    have B17 := B14.keep s17
    have sp17 := sp14.keep s17
    have e517 := s17 _ _ e514
    have al517 := anyL_keep s17 al514
    have e717 := s17 _ _ e714
    have al717 := anyL_keep s17 al714
    have e817 := s17 _ _ e8
    have al817 := anyL_keep s17 al8
    generalize upd (upd H15 l11 (.lst [.ref t3])) l12 (.lst (ac5 ++ [.ref t3])) = H17 at etr S17 B17 sp17 e517 al517 e717 al717 e817 al817 ⊢
    clear al12 s17 k17 k16 s15 et3 s15' ez6 ht3 hz5 hl11 hl12 hr0 htr S14 B14 sp14 e514 al514 e714 al714 e8 al8
    refine ⟨tr, false, _, rfl, SqT.of etr, fun D hD => ?_⟩
    refine lc_it walk_enumB (Pv := fun i H' => Same H17 H' ∧ ∃ nr : List Int, H' D = some (.lst (nr.map V.int)) ∧ nr.length = i ∧ ∀ x, x ∈ nr → x.natAbs < 10 ^ 30) ⟨same_new hD, [], upd_same, rfl, fun x hx => (nomatch hx)⟩ (fun i H' _ z => SqT.of (z.1 _ _ etr)) ?_ ?_
    · rintro i2 y2 H18 H19 hi2 ⟨s18, nr, eD, lnr, bnr⟩ ⟨T1, v1, v2, rfl, hT, rfl, h1, h2⟩
      cases h1
      rw [List.length_map] at hi2
      have ex := int_cl h2 hi2
      subst ex
      have kT : Same H18 (upd H18 T1 (.tup [.int (i2 : Nat), .int (cl r0 i2)])) := same_new hT
      have eT : (upd H18 T1 (.tup [.int (i2 : Nat), .int (cl r0 i2)])) T1 = some (.tup [.int (i2 : Nat), .int (cl r0 i2)]) := upd_same
      generalize upd H18 T1 (.tup [.int (i2 : Nat), .int (cl r0 i2)]) = H19 at kT eT ⊢
      refine ⟨T1, _, rfl, SqT.of eT, rfl, _, _, rfl, _, _, rfl, rfl, rfl, ?_⟩
      unfold tYes
      refine Eq.mpr (if_pos (rfl : true = true)) ?_
      refine ⟨_, rfl, .inl ⟨_, rfl, _, rfl, rfl, .inr ⟨_, rfl, _, _, rfl, rfl, ?_⟩⟩⟩
      have bc : (cl r0 i2).natAbs < 10 ^ 29 := br0 _ (List.mem_of_getElem? (at_cl hi2))
      refine ⟨_, kT _ _ eD, Nat.lt_of_le_of_lt (by rw [List.length_map]; omega : _ ≤ 1000) (by decide), same_put (s18.trans kT) hD, nr ++ [cl r0 i2 + (if decide (V.int ((i2 : Nat) : Int) = V.int 0) = true then 1 else 0)], ?_, ?_, ?_⟩
      · rw [List.map_append]
        exact upd_same
      · rw [List.length_append, lnr] <;> rfl
      · intro x hx
        rcases List.mem_append.mp hx with z | z
        · exact bnr x z
        · rw [List.mem_singleton.mp z]
          have : (10 : Nat) ^ 29 + 1 < 10 ^ 30 := by decide
          split <;> omega
    · rintro H18 ⟨s18, nr, eD, lnr, bnr⟩
      rw [List.length_map, lr0] at lnr
      have S18 := S17.trans s18
      have B18 := B17.keep s18
      have sp18 := sp17.keep s18
      have e518 := s18 _ _ e517
      have al518 := anyL_keep s18 al517
      have e718 := s18 _ _ e717
      have al718 := anyL_keep s18 al717
      have e818 := s18 _ _ e817
      have al818 := anyL_keep s18 al817
      clear s18 S17 B17 sp17 e517 al517 e717 al717 e817 al817 etr hD
      have smn : SmV nr := ⟨fun x hx => Nat.lt_trans (bnr x hx) (by decide)⟩
      -- all of them
      refine ⟨_, rfl, _, rfl, _, rfl, D, true, _, rfl, SqL.of eD, fun D2 hD2 => ?_⟩
      refine lc_same (n := nr.length) (by rw [← List.length_map (f := V.int) (as := nr)]; exact walk_seq (k := true)) (by omega) hD2 (fun H' s' => SqL.of (s' _ _ eD)) (fun j => .int (cl nr j - qq)) ?_ ?_
      · rintro j2 x2 H19 hj2 hx2 s19 _
        refine ⟨rfl, fun k4 hk4 => ?_⟩
        have ex := int_cl hx2 hj2
        subst ex
        refine ⟨_, rfl, _, rfl, _, _, rfl, rfl, ?_⟩
        exact hk4 _ _ (fun _ _ z => z) (.int _)
      intro H19 ac19 s19 ha19 al19
      have e3 : (List.range nr.length).map (fun j => PyData.int (cl nr j - qq)) = (nr.map fun x => x - qq).map PyData.int := by
        rw [List.map_map]
        exact map_get (fun x => PyData.int (x - qq)) 0 nr
      rw [e3] at al19
      have e4 := anyL_ints al19
      subst e4
      have sml : SmV (nr.map fun x => x - qq) := ⟨fun x hx => by
        obtain ⟨y, hy, rfl⟩ := List.mem_map.mp hx
        have := bnr y hy
        have : (10 : Nat) ^ 30 + 13 < 10 ^ 40 := by decide
        omega⟩
      refine ⟨by show 2 ≤ sizeLine; decide, fun l13 hl13 => ?_⟩
      have k20 := same_new (o := .lst [.ref D, .ref D2]) hl13
      refine ⟨l8, l13, acS, [.ref D, .ref D2], rfl, rfl, (s19.trans k20) _ _ e818, upd_same, Nat.le_trans (by have := (anyL_len al818).trans (List.length_map _); show acS.length + 2 ≤ 100; omega) (by decide), fun l14 hl14 => ?_⟩
      have k21 := same_new (o := .lst (acS ++ [.ref D, .ref D2])) hl14
      have s21 := s19.trans (k20.trans k21)
      have alA : AnyL (upd (upd H19 l13 (.lst [.ref D, .ref D2])) l14 (.lst (acS ++ [.ref D, .ref D2]))) (acS ++ [.ref D, .ref D2]) (mS.map tupI ++ [lstI nr] ++ [lstI (nr.map fun x => x - qq)]) := by
        rw [List.append_assoc]
        exact anyL_app (anyL_keep s21 al818) (.cons (row_of_list (s21 _ _ eD)) (.cons (row_of_list ((k20.trans k21) _ _ ha19)) .nil))
      have lkA : LikeV (mS.map tupI ++ [lstI nr] ++ [lstI (nr.map fun x => x - qq)]) (mS ++ [nr] ++ [nr.map fun x => x - qq]) := likeV_snoc (likeV_snoc (likeV_tups mS) (.inl rfl)) (.inl rfl)
      have hrowA : ∀ r, r ∈ mS ++ [nr] ++ [nr.map fun x => x - qq] → r.length = W ∧ SmV r := fun r hr => by
        rcases List.mem_append.mp hr with z | z
        · rcases List.mem_append.mp z with y | y
          · exact hrowS r y
          · rw [List.mem_singleton.mp y]
            exact ⟨lnr, smn⟩
        · rw [List.mem_singleton.mp z]
          exact ⟨by rw [List.length_map]; exact lnr, sml⟩
      have eA := upd_same (H := upd H19 l13 (.lst [.ref D, .ref D2])) (a := l14) (o := .lst (acS ++ [.ref D, .ref D2]))
      have S21 := S18.trans s21
      have B21 := B18.keep s21
      have sp21 := sp18.keep s21
      have e521 := s21 _ _ e518
      have al521 := anyL_keep s21 al518
      have e721 := s21 _ _ e718
      have al721 := anyL_keep s21 al718
      generalize (acS ++ [.ref D, .ref D2]) = acA at eA alA S21 B21 sp21 e521 al521 e721 al721 ⊢
      generalize upd (upd H19 l13 (.lst [.ref D, .ref D2])) l14 (.lst acA) = H21 at alA eA S21 B21 sp21 e521 al521 e721 al721 ⊢
      generalize (mS.map tupI ++ [lstI nr] ++ [lstI (nr.map fun x => x - qq)]) = dsA at alA lkA
      generalize (mS ++ [nr] ++ [nr.map fun x => x - qq]) = rowsA at lkA hrowA
      clear s21 k20 k21 hl13 hl14 ha19 al19 s19 hD2 S18 B18 sp18 e518 al518 e718 al718 e818 al818 eD
      refine ⟨l14, true, acA, rfl, SqL.of eA, ?_⟩
      refine for_it (walk_seq (k := true)) (fun i2 σ' H' => (∃ y10, σ' = [some (.ref a), some (.int (0 + (i : Int))), some (.ref p), some (.int qq), some (.int (W : Nat)), some (.ref l5), some (.ref x6), some (.ref l7), some (.ref l8), some (.ref D), y10, x11, x12, x13, x14, x15, none, none]) ∧ Same H21 H') ⟨⟨_, rfl⟩, Same.refl _⟩ (fun i2 σ' H' _ h => SqL.of (h.2 _ _ eA)) ?_ ?_
      · rintro i2 y σ' H22 H23 hi2 ⟨⟨y10, rfl⟩, s22⟩ ⟨rfl, hx⟩
        obtain ⟨dx, hdx, ax⟩ := anyL_at alA hx
        obtain ⟨r, hr2, er⟩ := lkA.at_ _ dx hdx
        obtain ⟨lr, smr⟩ := hrowA r (List.mem_of_getElem? hr2)
        obtain ⟨kb, b, rfl, hsb⟩ := row_seq ax er
        refine ⟨_, rfl, _, rfl, _, rfl, _, rfl, qq, W, x6, _, _, qs, r, dx, rfl, sp21.keep s22, gd, .lst (s22 _ _ e721) (anyL_keep s22 al721), ax.keep s22, er, lr, smr, fun Ha ka => ⟨_, rfl, iteF ?_⟩⟩
        have s23 := s22.trans ka
        refine ⟨_, rfl, _, rfl, _, rfl, _, rfl, b, _, rfl, sqb_or (hsb s23 K), fun l15 hl15 => ?_⟩
        have s24 := s23.trans (same_new (o := .lst (r.map V.int)) hl15)
        refine ⟨qq, W, x6, _, _, qs, r, lstI r, rfl, sp21.keep s24, gd, .lst (s24 _ _ e721) (anyL_keep s24 al721), row_of_list upd_same, .inl rfl, lr, smr, fun Hc kc => ⟨_, rfl, iteF ?_⟩⟩
        exact ⟨⟨_, rfl⟩, s24.trans kc⟩
      · rintro σ' H22 ⟨⟨y10, rfl⟩, s22⟩
        have sp22 := sp21.keep s22
        have e522 := s22 _ _ e521
        have al522 := anyL_keep s22 al521
        have S22 := S21.trans s22
        have B22 := B21.keep s22
        clear s22 S21 B21 sp21 e521 al521 e721 al721 eA alA lkA hrowA hrowS lenS smn bnr lnr
        -- sums, the pair
        refine ⟨_, rfl, _, rfl, _, rfl, _, rfl, p, qq, l5, ac5, m5, kk, W, _, rfl, hq, w12, k6, e522, nl5, al522, bm5, B22, by omega, fun l16 ac16 m16 j16 H24 hl16 G24 B24 e16 al16 hj bm16 => ?_⟩
        have sp24 := sp_grow B22 G24 sp22
        have e524 := G24 _ _ nl5 e522
        have al524 := tups_lt al522 (grow_lt B22 G24)
        have S24 := same_growP S22 hp0 G24
        clear B24 G24 B22 S22 sp22 e522 al522 hl16
        refine ⟨_, rfl, _, rfl, _, rfl, _, rfl, _, rfl, qq, W, _, m16, rfl, hq, w12, .inl ⟨_, .lst e16 al16, ⟨_, .inl rfl, likeV_tups _⟩⟩, by rw [bm16.h]; omega, big_rows bm16, fun x17 rs H25 hx17 bq2 sq2 s25 sp25 => ?_⟩
        refine ⟨_, rfl, _, rfl, qq, W, x6, x17, _, _, m5, m16, qs, rs, rfl, sp24.keep s25, gd, sp25, ⟨hq, w12, bq2.g, sq2⟩, bq, bq2, .lst (s25 _ _ e524) (anyL_keep s25 al524), .lst (s25 _ _ e16) (anyL_keep s25 al16), by rw [bm5.h]; omega, by rw [bm16.h]; omega, hrow5, big_rows bm16, fun H26 s26 => ⟨_, rfl, iteF ?_⟩⟩
        have sp26 := sp24.keep (s25.trans s26)
        have S26 := S24.trans (s25.trans s26)
        clear s25 s26 sp25 hx17 sp24 e524 al524 S24 e16 al16 bq2 sq2
        -- the odd ones
        refine ⟨_, rfl, "1", _, rfl, rfl, mul1 w12, ?_⟩
        refine ⟨by show 1 ≤ sizeLine; decide, fun z7 hz7 => ⟨_, rfl, _, _, rfl, rfl, ?_⟩⟩
        refine lst_rep (W := W + 1) (by omega) (by omega) hz7 fun z8 H27' s27' ez8 => ?_
        refine ⟨z8, _, rfl, .inl ⟨SqL.of ez8, fun t4 ht4 => ?_⟩⟩
        have s27 := s27'.trans (same_new (o := .tup ((List.replicate (W + 1) (0 : Int)).map V.int)) ht4)
        have et4 := upd_same (H := H27') (a := t4) (o := .tup ((List.replicate (W + 1) (0 : Int)).map V.int))
        generalize upd H27' t4 (.tup ((List.replicate (W + 1) (0 : Int)).map V.int)) = H27 at s27 et4 ⊢
        rw [← rep_int] at et4
        have a4 := any_rep et4 (.int 0)
        refine ⟨by show 1 ≤ sizeLine; decide, fun u1 hu1 => ⟨_, rfl, _, _, rfl, u1, (if 1 < W then W else 1), .bl true, rfl, max_nat, upd_same, by split <;> omega, fun t5 H28 s28' et5 => ?_⟩⟩
        have s28 := (same_new hu1).trans s28'
        have a5 := any_rep et5 (.bl true)
        refine fun q3 h3 => ?_
        have k29 := same_new (o := .dK []) h3
        have a6 : Any (upd H28 q3 (.dK [])) (.ref q3) (.dict []) := .dct upd_same .nil
        refine ⟨by show 1 ≤ sizeLine; decide, fun u2 hu2 => ⟨_, rfl, u2, W, .int 0, rfl, rfl, upd_same, by omega, fun w1 H30 s30' ew1 => ?_⟩⟩
        have s30 := (same_new hu2).trans s30'
        refine ⟨by show 1 ≤ sizeLine; decide, fun u3 hu3 => ⟨u3, 2, .ref w1, rfl, rfl, upd_same, by decide, fun w2 H31 s31' ew2 => ?_⟩⟩
        have s31 := (same_new hu3).trans s31'
        have a7 := any_rep ew2 (any_rep (s31 _ _ ew1) (.int 0))
        refine ⟨by show 7 ≤ sizeLine; decide, fun l18 hl18 => ?_⟩
        have k32 := same_new (o := .lst [.non, .int 7, .str (Txt.mul "1" ((W : Nat) : Int)), .ref t4, .ref t5, .ref q3, .ref w2]) hl18
        have alO : AnyL (upd H31 l18 (.lst [.non, .int 7, .str (Txt.mul "1" ((W : Nat) : Int)), .ref t4, .ref t5, .ref q3, .ref w2])) [.non, .int 7, .str (Txt.mul "1" ((W : Nat) : Int)), .ref t4, .ref t5, .ref q3, .ref w2] (oddV W) :=
          .cons .non (.cons (.int 7) (.cons (.str _) (.cons (a4.keep (s28.trans (k29.trans (s30.trans (s31.trans k32))))) (.cons (a5.keep (k29.trans (s30.trans (s31.trans k32)))) (.cons (a6.keep (s30.trans (s31.trans k32))) (.cons (a7.keep k32) .nil))))))
        have eO := upd_same (H := H31) (a := l18) (o := .lst [.non, .int 7, .str (Txt.mul "1" ((W : Nat) : Int)), .ref t4, .ref t5, .ref q3, .ref w2])
        have s32 := s27.trans (s28.trans (k29.trans (s30.trans (s31.trans k32))))
        have sp32 := sp26.keep s32
        have S32 := S26.trans s32
        generalize ([.non, .int 7, .str (Txt.mul "1" ((W : Nat) : Int)), .ref t4, .ref t5, .ref q3, .ref w2] : List V) = xsO at alO eO sp32 S32 ⊢
        generalize upd H31 l18 (.lst xsO) = H32 at alO eO sp32 S32 ⊢
        clear s32 k32 s31 s30 k29 s28 s27 a4 a5 a6 a7 s27' s28' s30' s31' ez8 et4 et5 ew1 ew2 hz7 ht4 hu1 hu2 hu3 h3 hl18 sp26 S26
        refine ⟨l18, true, xsO, rfl, SqL.of eO, ?_⟩
        refine for_it (walk_seq (k := true)) (fun i2 σ' H' => (∃ y12 y13, σ' = [some (.ref a), some (.int (0 + (i : Int))), some (.ref p), some (.int qq), some (.int (W : Nat)), some (.ref l5), some (.ref x6), some (.ref l7), some (.ref l8), some (.ref D), y10, some (.ref l16), y12, y13, x14, x15, none, none]) ∧ Same H32 H') ⟨⟨_, _, rfl⟩, Same.refl _⟩ (fun i2 σ' H' _ h => SqL.of (h.2 _ _ eO)) ?_ ?_
        · rintro i2 y σ' H33 H34 hi2 ⟨⟨y12, y13, rfl⟩, s33⟩ ⟨rfl, hx⟩
          obtain ⟨d, hd, ax⟩ := anyL_at alO hx
          have md := List.mem_of_getElem? hd
          obtain ⟨o1, o2, o3⟩ := oddV_ok w12 d md
          obtain ⟨t1', t2', t3'⟩ := tq_fine o2
          refine ⟨2, rfl, by decide, by decide, ?_⟩
          refine for_range (lo := 0) (n := 2) (fun i3 σ' H' => (∃ y13, σ' = [some (.ref a), some (.int (0 + (i : Int))), some (.ref p), some (.int qq), some (.int (W : Nat)), some (.ref l5), some (.ref x6), some (.ref l7), some (.ref l8), some (.ref D), y10, some (.ref l16), some y, y13, x14, x15, none, none]) ∧ Same H32 H') ⟨⟨_, rfl⟩, s33⟩ ?_ ?_
          · rintro i3 σ' H35 hi3 ⟨⟨y13', rfl⟩, s35⟩
            rw [Int.zero_add]
            refine ⟨_, rfl, _, rfl, _, rfl, i3, x6, y, qq, W, qs, d, rfl, by omega, sp32.keep s35, gd, ax.keep s35, o3, odd_noV w12 d md, fun l19 H36 hl19 s36 an => ?_⟩
            rw [ask_odd o1] at an
            refine ⟨_, _, rfl, an, t1', t2', t3', ?_⟩
            have s356 := s35.trans s36
            refine ⟨_, rfl, by show 2 ≤ sizeLine; decide, fun l20 hl20 => ⟨_, _, rfl, pair_any hl20 (ax.keep s356), t1', t2', t3', ?_⟩⟩
            exact ⟨rfl, false, congrArg V.bl str_noN, iteF ⟨⟨_, rfl⟩, s356.trans (same_new hl20)⟩⟩
          · rintro σ' H35 ⟨⟨y13', rfl⟩, s35⟩
            exact ⟨⟨_, _, rfl⟩, s35⟩
        rintro σ' H33 ⟨⟨y12, y13, rfl⟩, s33⟩
        have sp33 := sp32.keep s33
        have S33 := S32.trans s33
        clear s33 sp32 S32 alO eO
        -- spaces unlike it
        obtain ⟨q3, hq3, nq3, j3, ej3, ex3⟩ := other_p (qq := qq)
        refine ⟨by show 2 ≤ sizeLine; decide, fun l21 hl21 => ⟨_, rfl, rfl, .inr ⟨_, rfl, ?_⟩⟩⟩
        rw [ej3]
        refine ⟨l21, _, ((j3 : Nat) : Int), _, rfl, rfl, SqL.of upd_same, atI_nat ex3, _, rfl, q3, W, _, [], rfl, hq3, w12, O.made.t0 _, by decide, fun r hr => (nomatch hr), fun x22 qs3 H34 hx22 bq3 sq3 s34 sp34 => ?_⟩
        obtain ⟨W2, w212, nW2, j4, ej4, ex4⟩ := other_w w12
        refine ⟨_, rfl, _, rfl, _, _, rfl, rfl, by show 2 ≤ sizeLine; decide, fun l23 hl23 => ⟨_, rfl, rfl, .inr ⟨_, rfl, ?_⟩⟩⟩
        rw [ej4]
        refine ⟨l23, _, ((j4 : Nat) : Int), _, rfl, rfl, SqL.of upd_same, atI_nat ex4, qq, W2, _, [], rfl, hq, w212, O.made.t0 _, by decide, fun r hr => (nomatch hr), fun x25 qs4 H35 hx25 bq4 sq4 s35 sp35 => ?_⟩
        refine ⟨by show 2 ≤ sizeLine; decide, fun l24 hl24 => ?_⟩
        have k36 := same_new (o := .lst [.ref x22, .ref x25]) hl24
        have s3436 := (same_new hl23).trans (s35.trans k36)
        have s3336 := (same_new hl21).trans (s34.trans s3436)
        have e24 := upd_same (H := H35) (a := l24) (o := .lst [.ref x22, .ref x25])
        have sp36 := sp33.keep s3336
        have spA := sp34.keep s3436
        have spB := sp35.keep k36
        have S36 := S33.trans s3336
        generalize upd H35 l24 (.lst [.ref x22, .ref x25]) = H36 at e24 sp36 spA spB S36 ⊢
        clear s3336 s3436 k36 hl24 s35 sp35 s34 sp34 hl23 hl21 sp33 S33 hx22 hx25
        refine ⟨_, rfl, l24, true, _, rfl, SqL.of e24, ?_⟩
        refine for_it (walk_seq (k := true)) (fun i2 σ' H' => (∃ y15, σ' = [some (.ref a), some (.int (0 + (i : Int))), some (.ref p), some (.int qq), some (.int (W : Nat)), some (.ref l5), some (.ref x6), some (.ref l7), some (.ref l8), some (.ref D), y10, some (.ref l16), y12, y13, some (.ref l24), y15, none, none]) ∧ Same H36 H') ⟨⟨_, rfl⟩, Same.refl _⟩ (fun i2 σ' H' _ h => SqL.of (h.2 _ _ e24)) ?_ ?_
        · rintro i2 y σ' H37 H38 hi2 ⟨⟨y15, rfl⟩, s37⟩ ⟨rfl, hx⟩
          obtain ⟨xo, qo, Wo, qso, rfl, spo, gdo, ne⟩ : ∃ xo qo Wo qso, y = .ref xo ∧ SpAt C H36 xo qo Wo qso ∧ GoodSp qo Wo qso ∧ ¬(qq = qo ∧ W = Wo) := by
            have hi3 : i2 < 2 := hi2
            rcases (by omega : i2 = 0 ∨ i2 = 1) with z | z
            · subst z
              cases hx
              exact ⟨x22, q3, W, qs3, rfl, spA, ⟨hq3, w12, bq3.g, sq3⟩, fun z => nq3 z.1.symm⟩
            · subst z
              cases hx
              exact ⟨x25, qq, W2, qs4, rfl, spB, ⟨hq, w212, bq4.g, sq4⟩, fun z => nW2 z.2.symm⟩
          refine ⟨_, rfl, _, rfl, x6, xo, qq, W, qs, qo, Wo, qso, rfl, sp36.keep s37, spo.keep s37, gd, gdo, fun l26 H39 hl26 s39 an => ?_⟩
          rw [show liesD qq W qs qo Wo qso = .list [.str "unlike"] by unfold liesD; rw [if_neg ne]] at an
          refine ⟨by show 1 ≤ sizeLine; decide, fun l27 hl27 => ?_⟩
          have k40 := same_new (o := .lst [.str "unlike"]) hl27
          refine ne_same (d := .list [.str "unlike"]) (an.keep k40) (.lst upd_same (.cons (.str _) .nil)) (by decide +kernel) (by decide +kernel) ⟨_, rfl, iteF ?_⟩
          have s40 := s37.trans (s39.trans k40)
          refine ⟨_, rfl, _, rfl, xo, x6, qo, Wo, qso, qq, W, qs, rfl, spo.keep s40, sp36.keep s40, gdo, gd, fun l28 H41 hl28 s41 an2 => ?_⟩
          rw [show liesD qo Wo qso qq W qs = .list [.str "unlike"] by unfold liesD; rw [if_neg (fun z => ne ⟨z.1.symm, z.2.symm⟩)]] at an2
          refine ⟨by show 1 ≤ sizeLine; decide, fun l29 hl29 => ?_⟩
          have k42 := same_new (o := .lst [.str "unlike"]) hl29
          refine ne_same (d := .list [.str "unlike"]) (an2.keep k42) (.lst upd_same (.cons (.str _) .nil)) (by decide +kernel) (by decide +kernel) ⟨_, rfl, iteF ?_⟩
          exact ⟨⟨_, rfl⟩, s40.trans (s41.trans k42)⟩
        · rintro σ' H37 ⟨⟨y15, rfl⟩, s37⟩
          exact ⟨⟨_, _, _, _, _, _, _, _, _, _, _, _, _, _, _, rfl⟩, S.trans (S36.trans s37)⟩
end
end K6

set_option Elab.async false
set_option linter.all false
set_option maxRecDepth 100000
set_option maxHeartbeats 1000000
/-! TkJM: a method with one default, a written tuple. -/
namespace Rw
open PySem PySem.Spec PyProof.Rows L2
def MethDHere (K : PySem.W.Frag) (C : Addr) (x q : Str) (st : Stmt) (t0 : Addr) : Prop :=
  ∃ (f T : Addr) (oc : Value) (od : Option Addr) (kV dc pm : Value) (an : Option Addr) (cd ct : Value) (sl : Array (Option Value)) (tc : Value) (td : Option Addr) (n : Nat) (ts : Array (Option Value)), PySem.W.findIn K (.ref C) x = some (some (.ref f)) ∧ PySem.W.isFn K (.ref f) = true ∧
    K.lookup f = some ⟨oc, od, .func (PySem.W.fnOf x q (defArgs st) (defBody st) (defScope st) (.ref T) kV dc pm an cd ct), sl⟩ ∧ PySem.W.codeIn K cd q = true ∧ PySem.W.keepIn K (.ref f) = true ∧ K.lookup T = some ⟨tc, td, .seq ([Value.ref t0] : List Value).toArray n, ts⟩
section
variable {K : PySem.W.Frag}
theorem MethDHere.of {C : Addr} {x q : Str} {st : Stmt} {t0 f T : Addr} {oc : Value} {od : Option Addr} {kV dc pm : Value} {an : Option Addr} {cd ct : Value} {sl : Array (Option Value)} {tc : Value} {td : Option Addr} {n : Nat} {ts : Array (Option Value)}
    (g : PySem.W.findIn K (.ref C) x = some (some (.ref f))) (fn : PySem.W.isFn K (.ref f) = true)
    (l : K.lookup f = some ⟨oc, od, .func (PySem.W.fnOf x q (defArgs st) (defBody st) (defScope st) (.ref T) kV dc pm an cd ct), sl⟩) (c : PySem.W.codeIn K cd q = true) (k : PySem.W.keepIn K (.ref f) = true)
    (t : K.lookup T = some ⟨tc, td, .seq ([Value.ref t0] : List Value).toArray n, ts⟩) : MethDHere K C x q st t0 := ⟨f, T, oc, od, kV, dc, pm, an, cd, ct, sl, tc, td, n, ts, g, fn, l, c, k, t⟩
theorem MethDHere.mt {C : Addr} {x q : Str} {st : Stmt} {t0 : Addr} {ps : List Str} {m : Nat} (D : MethDHere K C x q st t0) (hm : ps.length = m + 1)
    (b1 : ∀ (T : Addr) (kV doc pm : Value) (an : Option Addr) (cdv ct : Value) (us its : List Value), us.length = m + 1 → its.length = 1 →
      ∃ g, bindArgs (PySem.W.fnOf x q (defArgs st) (defBody st) (defScope st) (.ref T) kV doc pm an cdv ct) ⟨us, []⟩ = seqItems? (.ref T) >>= g ∧ g (some its.toArray) = pure (ps.zip (us ++ its.drop 1)))
    (b0 : ∀ (T : Addr) (kV doc pm : Value) (an : Option Addr) (cdv ct : Value) (us its : List Value), us.length = m → its.length = 1 →
      ∃ g, bindArgs (PySem.W.fnOf x q (defArgs st) (defBody st) (defScope st) (.ref T) kV doc pm an cdv ct) ⟨us, []⟩ = seqItems? (.ref T) >>= g ∧ g (some its.toArray) = pure (ps.zip (us ++ its.drop 0))) :
    ∃ (f : Addr) (fd : FuncData), PySem.W.findIn K (.ref C) x = some (some (.ref f)) ∧ PySem.W.isFn K (.ref f) = true ∧ PySem.W.keepIn K (.ref f) = true ∧ FunD K x q (defArgs st) (defBody st) (defScope st) [.ref t0] [] f fd ∧ Binds K fd ps [] ∧ Binds K fd ps [.ref t0] := by
  obtain ⟨f, T, oc, od, kV, dc, pm, an, cd, ct, sl, tc, td, n, ts, g, fn, l, c, k, lT⟩ := D
  have F : FunD K x q (defArgs st) (defBody st) (defScope st) [.ref t0] [] f _ := ⟨⟨oc, od, _, kV, dc, pm, an, cd, ct, sl, rfl, l, c, .inr ⟨by simp, T, _, [.ref t0], n, rfl, lT, rfl, .cons rfl .nil⟩, .inl rfl⟩, k⟩
  obtain ⟨d1, v1, bb1⟩ := F.binds1 (ps := ps) (m + 1) 1 (by simp) (by show (m + 1) + 0 = _; omega) b1
  obtain ⟨d0, v0, bb0⟩ := F.binds1 (ps := ps) m 0 (by simp) (by show m + 1 = _; omega) b0
  have e1 : d1 = [] := by
    cases v1
    rfl
  have e0 : d0 = [.ref t0] := by
    cases v0 with
    | cons a b =>
      cases b
      cases a
      rfl
  subst e1
  subst e0
  exact ⟨f, _, g, fn, k, F, bb1, bb0⟩
theorem TupHere.vecs {t0 : Addr} (E : TupHere K t0 []) (H : Hp) : VecsIn K H (.ref t0) [] := by
  obtain ⟨dd, n, sl, l⟩ := id E
  exact .inr ⟨rfl, t0, _, rfl, l, rfl, fun H' => E.sq .nil (by decide) H'⟩
end
end Rw

set_option Elab.async false
set_option linter.all false
set_option maxRecDepth 100000
set_option maxHeartbeats 8000000
/-! K6N: the end. -/
namespace K6
open PySem PySem.Spec PyProof.Rows L2 Rw
abbrev sIniP : Stmt := inClass (top 3) 0
theorem scIniP : FnScope ["self", "value"] ["self", "value"] (defScope sIniP) := ⟨rfl, rfl, rfl, by decide +kernel, rfl, by decide +kernel, by decide +kernel⟩
theorem isP : IsIni sIniP := ⟨_, _, _, _, rfl, rfl, rfl⟩
abbrev sIniS : Stmt := inClass (top 4) 0
theorem scIniS : FnScope ["self", "value"] ["self", "value"] (defScope sIniS) := ⟨rfl, rfl, rfl, by decide +kernel, rfl, by decide +kernel, by decide +kernel⟩
theorem isS : IsIni sIniS := ⟨_, _, _, _, rfl, rfl, rfl⟩
abbrev sIniV : Stmt := inClass (top 5) 0
theorem scIniV : FnScope ["self", "value"] ["self", "value"] (defScope sIniV) := ⟨rfl, rfl, rfl, by decide +kernel, rfl, by decide +kernel, by decide +kernel⟩
theorem isV : IsIni sIniV := ⟨_, _, _, _, rfl, rfl, rfl⟩
abbrev sIniU : Stmt := inClass (top 6) 0
theorem scIniU : FnScope ["self"] ["self"] (defScope sIniU) := ⟨rfl, rfl, rfl, by decide +kernel, rfl, by decide +kernel, by decide +kernel⟩
/-- what is asked of the written part -/
structure Asked (K : PySem.W.Frag) (w : World) (aI a2 a3 a5 a7 a11 a13 C CR CD CP CS CV CU t0 : Addr) (u2 u3 u5 u7 u11 u13 : List Value) (tM : Tok) : Prop where
  iMOST : PySem.W.nsIn K mainGlobals "MOST" = some (some (.int 12 tM))
  iv : InvHere K "INVERSES" aI a2 a3 a5 a7 a11 a13 u2 u3 u5 u7 u11 u13
  root : PySem.W.nsIn K mainGlobals "RowError" = some (some (.ref CR))
  eP : ErrHere K "InvalidPrime" "InvalidPrime.__init__" sIniP CR CP
  eS : ErrHere K "InvalidSize" "InvalidSize.__init__" sIniS CR CS
  eV : ErrHere K "InvalidVector" "InvalidVector.__init__" sIniV CR CV
  eU : ErrNHere K "UnlikeSpaces" "UnlikeSpaces.__init__" sIniU CR CU
  cV : PySem.W.isClsIn K CV = true
  cU : PySem.W.isClsIn K CU = true
  sVV : PySem.W.subIn K (.ref CV) (.ref CV) = some true
  sUU : PySem.W.subIn K (.ref CU) (.ref CU) = some true
  gSp : PySem.W.nsIn K mainGlobals "Space" = some (some (.ref C))
  mIni : MethDHere K C "__init__" "Space.__init__" sIniSp t0
  t0h : TupHere K t0 []
  gRd : PySem.W.nsIn K mainGlobals "Reduced" = some (some (.ref CD))
  cPg : PySem.W.plainGet K C Str.empty = true
  cHd : PySem.W.hasDictIn K C = true
  cPo : PySem.W.plainOver K C = true
  cSa : PySem.W.findIn K (.ref C) "__setattr__" = some (some (.builtin "object.__setattr__"))
  n1 : NoAttr K C "_prime"
  n2 : NoAttr K C "_length"
  n3 : NoAttr K C "_basis"
  mkC : PySem.W.makesIn K C = true
  kpC : PySem.W.keepIn K (.ref C) = true
  rSp : PySem.W.specialIn K (.ref CR) "__getattribute__" = some (some (.builtin "type.__getattribute__"))
  rTy : PySem.W.typeIn K (.ref CR) = some (.type "type")
  rRd : PySem.W.readsIn K CR (.type "type") = true
  rIni : PySem.W.findCls K (.ref CR) (.type "type") "__init__" = some (.val (.builtin "ValueError.__init__"))
  iHa : PySem.W.findIn K (.ref C) "__class__" = some (some (.builtin "object.__class__"))
  iHn : PySem.W.specialIn K (.builtin "object.__class__") "__get__" = some (some (.builtin "getset_descriptor.__get__"))
  iHt : PySem.W.takesIn K (.builtin "object.__class__") = some true
  iHm : PySem.W.mroIn K C (.type "object") = some true
  iMe : PySem.W.kitOne K (.ref C) (.ref C) = some true
  neF : PySem.W.findIn K (.ref C) "__ne__" = some (some (.builtin "object.__ne__"))
  rl : PySem.W.kitOne K (.type "list") (.ref CD) = some false
  rt : PySem.W.kitOne K (.type "tuple") (.ref CD) = some false
  nfl : PySem.W.notFirst K C (.type "list") = true
  nfs : PySem.W.notFirst K C (.type "str") = true
  mEq : MethHere K C "__eq__" "Space.__eq__" sEqSp
  mIn : MethHere K C "__contains__" "Space.__contains__" sInSp
  mRest : MethHere K C "rest" "Space.rest" sRestSp
  mLies : MethHere K C "lies_in" "Space.lies_in" sLies
  qP : PropHere K C "prime" "Space.prime" sGetP
  qL : PropHere K C "length" "Space.length" sGetL
  d1 : DefHere K "is_number" sNum
  d2 : DflHere K "is_integer" sInt [.none, .none]
  d3 : DefHere K "is_prime" sPrime
  d4 : DefHere K "check_prime" sCheck
  d5 : DefHere K "is_list" sList
  d6 : DefHere K "is_vector" sVec
  d7 : DefHere K "lead_of" sLead
  d8 : DefHere K "rest_of" sRest
  d9 : DefHere K "_cleared" sClr
  d10 : DefHere K "widened" sWid
  d11 : DefHere K "reduced" sRed
  d12 : DefHere K "_check_size" sSize
  d13 : DefHere K "_check_vector" sCVec
  d14 : DefHere K "_reduced" sRedV
  d15 : DefHere K "_check_alike" sAlike
  d16 : DefHere K "_law_cell" sCell
  d17 : DefHere K "_law_box" sBox
  d18 : DefHere K "_law_take" sTake
  d19 : DefHere K "_law_prime" sPrimeL
  d20 : DefHere K "_law_digit" sDigit
  d21 : DefHere K "_law_vectors" sVecs
  d22 : DefHere K "_law_turn" sTurn
  d23 : DefHere K "_law_less" sLess
  d24 : DefHere K "_law_base" sBaseL
  d25 : DefHere K "_law_rank" sRankL
  d26 : DefHere K "_law_rest" sRestL
  d27 : DefHere K "_law_asked" sAsked
  d28 : DefHere K "_law_vector_right" sVecR
  d29 : DefHere K "_law_lies" sLiesL
  d30 : DefHere K "_law_pair_right" sPairR
  d31 : DefHere K "_law_sums" sSums
  dl : DefHere K "law" sLaw
  z1 : PySem.W.nsIn K mainGlobals "isinstance" = some none
  z2 : PySem.W.nsIn K mainGlobals "int" = some none
  z3 : PySem.W.nsIn K mainGlobals "bool" = some none
  z4 : PySem.W.nsIn K mainGlobals "list" = some none
  z5 : PySem.W.nsIn K mainGlobals "tuple" = some none
  z6 : PySem.W.nsIn K mainGlobals "len" = some none
  z7 : PySem.W.nsIn K mainGlobals "all" = some none
  z8 : PySem.W.nsIn K mainGlobals "range" = some none
  z9 : PySem.W.nsIn K mainGlobals "enumerate" = some none
  z10 : PySem.W.nsIn K mainGlobals "zip" = some none
  z11 : PySem.W.nsIn K mainGlobals "sorted" = some none
  z12 : PySem.W.nsIn K mainGlobals "repr" = some none
  z13 : PySem.W.nsIn K mainGlobals "max" = some none
  z14 : PySem.W.nsIn K mainGlobals "min" = some none
theorem all_mk {l : PySem.W.OpenLaw} {w : World} {K : PySem.W.Frag} {h : Heap} {mg : Str → Option Value} {fa : Addr} {aI a2 a3 a5 a7 a11 a13 C CR CD CP CS CV CU t0 : Addr} {u2 u3 u5 u7 u11 u13 : List Value} {tM : Tok} (X : K.In h) (G : h.Ns mainGlobals mg) (hfa : mg "law" = some (.ref fa)) (Z : Asked K w aI a2 a3 a5 a7 a11 a13 C CR CD CP CS CV CU t0 u2 u3 u5 u7 u11 u13 tM) :
    ∃ fd : FuncData, (∀ (s : Shared) (v : Value), BindsTo s fd ⟨[v], []⟩ [("_law_script", v)]) ∧ ∀ base : Heap, K.In base → base.Ns mainGlobals mg → FnG l.prog w K mg base CX0 9 fa fd ["_law_script"] (spLaw K) := by
  have zz_isinstance : mg "isinstance" = none := PySem.W.mg_none_of X G Z.z1
  have zz_int : mg "int" = none := PySem.W.mg_none_of X G Z.z2
  have zz_bool : mg "bool" = none := PySem.W.mg_none_of X G Z.z3
  have zz_list : mg "list" = none := PySem.W.mg_none_of X G Z.z4
  have zz_tuple : mg "tuple" = none := PySem.W.mg_none_of X G Z.z5
  have zz_len : mg "len" = none := PySem.W.mg_none_of X G Z.z6
  have zz_all : mg "all" = none := PySem.W.mg_none_of X G Z.z7
  have zz_range : mg "range" = none := PySem.W.mg_none_of X G Z.z8
  have zz_enumerate : mg "enumerate" = none := PySem.W.mg_none_of X G Z.z9
  have zz_zip : mg "zip" = none := PySem.W.mg_none_of X G Z.z10
  have zz_sorted : mg "sorted" = none := PySem.W.mg_none_of X G Z.z11
  have zz_repr : mg "repr" = none := PySem.W.mg_none_of X G Z.z12
  have zz_max : mg "max" = none := PySem.W.mg_none_of X G Z.z13
  have zz_min : mg "min" = none := PySem.W.mg_none_of X G Z.z14
  have eP : Err K mg "InvalidPrime" CP := Z.eP.err X G scIniP isP fun _ _ _ _ _ _ us hl => match us, hl with | [_, _], _ => rfl
  have eS : Err K mg "InvalidSize" CS := Z.eS.err X G scIniS isS fun _ _ _ _ _ _ us hl => match us, hl with | [_, _], _ => rfl
  have eV : Err K mg "InvalidVector" CV := Z.eV.err X G scIniV isV fun _ _ _ _ _ _ us hl => match us, hl with | [_, _], _ => rfl
  have kxV : PySem.W.subIn K (.ref CV) (.type "BaseException") = some true := eV.xf.exC
  have gRoot : mg "RowError" = some (.ref CR) := PySem.W.mg_of X G Z.root
  have rtC : RootC K CR := ⟨Z.rSp, Z.rTy, Z.rRd, Z.rIni⟩
  have eU : ErrN K mg "UnlikeSpaces" CU := Z.eU.err X G scIniU (fun P w base q f cdv A outer s H E => ⟨_, pss_one (ps_expr (pe_rootini rtC rfl gRoot (pa_cons (pv 0) pa_nil))), fun _ _ _ z => z⟩) fun _ _ _ _ _ _ us hl => match us, hl with | [_], _ => rfl
  have kxU : PySem.W.subIn K (.ref CU) (.type "BaseException") = some true := eU.ox.exC
  have xVV : PySem.W.exmOne K (.ref CV) (.ref CV) = some true := exm_of kxV Z.cV eV.ox.tyC Z.sVV
  have xUU : PySem.W.exmOne K (.ref CU) (.ref CU) = some true := exm_of kxU Z.cU eU.ox.tyC Z.sUU
  have T : Txt K mg aI CP CS CV CU [(2, .ref a2), (3, .ref a3), (5, .ref a5), (7, .ref a7), (11, .ref a11), (13, .ref a13)] := ⟨zz_isinstance, zz_int, zz_bool, zz_list, zz_tuple, zz_len, zz_all, zz_range, zz_enumerate, zz_zip, zz_sorted, PySem.W.mg_of X G Z.iv.t.1, Z.iv.t.2, fun i => prime_tab (us := []) i, Z.iv.tab, ⟨tM, PySem.W.mg_of X G Z.iMOST⟩, eP, eS, eV, eU⟩
  have cl : Cls K C := ⟨Z.cPg, Z.cHd, Z.cPo, Z.cSa⟩
  have gSp : mg "Space" = some (.ref C) := PySem.W.mg_of X G Z.gSp
  have R : SpCls K mg C CD := ⟨cl, Z.n1, Z.n2, Z.n3, gSp, ⟨cl, Z.iHa, Z.iHn, Z.iHt, Z.iHm, Z.iMe⟩, PySem.W.mg_of X G Z.gRd, Z.rl, Z.rt⟩
  have TC : TxC K mg CR CV CU := ⟨gRoot, xVV, xUU⟩
  obtain ⟨f_i, fd_i, at_i, fn_i, kp_i, F_i, B_i1, B_i0⟩ := Z.mIni.mt (ps := ["self", "prime", "length", "vectors"]) (m := 3) rfl (fun T kV doc pm an cdv ct us its h1 h2 => match us, its, h1, h2 with | [_, _, _, _], [_], _, _ => ⟨_, rfl, rfl⟩) (fun T kV doc pm an cdv ct us its h1 h2 => match us, its, h1, h2 with | [_, _, _], [_], _, _ => ⟨_, rfl, rfl⟩)
  have D1 := Z.d1.df (ps := ["value"]) X G fun _ _ _ _ _ _ us hl => match us, hl with | [_], _ => rfl
  have D3 := Z.d3.df (ps := ["value"]) X G fun _ _ _ _ _ _ us hl => match us, hl with | [_], _ => rfl
  have D4 := Z.d4.df (ps := ["prime"]) X G fun _ _ _ _ _ _ us hl => match us, hl with | [_], _ => rfl
  have D5 := Z.d5.df (ps := ["value"]) X G fun _ _ _ _ _ _ us hl => match us, hl with | [_], _ => rfl
  have D6 := Z.d6.df (ps := ["value", "length"]) X G fun _ _ _ _ _ _ us hl => match us, hl with | [_, _], _ => rfl
  have D7 := Z.d7.df (ps := ["vector"]) X G fun _ _ _ _ _ _ us hl => match us, hl with | [_], _ => rfl
  have D8 := Z.d8.df (ps := ["prime", "basis", "vector"]) X G fun _ _ _ _ _ _ us hl => match us, hl with | [_, _, _], _ => rfl
  have D9 := Z.d9.df (ps := ["prime", "row", "lead", "added"]) X G fun _ _ _ _ _ _ us hl => match us, hl with | [_, _, _, _], _ => rfl
  have D10 := Z.d10.df (ps := ["prime", "basis", "vectors"]) X G fun _ _ _ _ _ _ us hl => match us, hl with | [_, _, _], _ => rfl
  have D11 := Z.d11.df (ps := ["prime", "vectors"]) X G fun _ _ _ _ _ _ us hl => match us, hl with | [_, _], _ => rfl
  have D12 := Z.d12.df (ps := ["size"]) X G fun _ _ _ _ _ _ us hl => match us, hl with | [_], _ => rfl
  have D13 := Z.d13.df (ps := ["vector", "length"]) X G fun _ _ _ _ _ _ us hl => match us, hl with | [_, _], _ => rfl
  have D14 := Z.d14.df (ps := ["prime", "length", "vectors"]) X G fun _ _ _ _ _ _ us hl => match us, hl with | [_, _, _], _ => rfl
  have D15 := Z.d15.df (ps := ["one", "other"]) X G fun _ _ _ _ _ _ us hl => match us, hl with | [_, _], _ => rfl
  have D16 := Z.d16.df (ps := ["_law_script", "_law_k"]) X G fun _ _ _ _ _ _ us hl => match us, hl with | [_, _], _ => rfl
  have D17 := Z.d17.df (ps := ["_law_cell_here"]) X G fun _ _ _ _ _ _ us hl => match us, hl with | [_], _ => rfl
  have D18 := Z.d18.df (ps := ["_law_box_here", "_law_many"]) X G fun _ _ _ _ _ _ us hl => match us, hl with | [_, _], _ => rfl
  have D19 := Z.d19.df (ps := ["_law_box_here"]) X G fun _ _ _ _ _ _ us hl => match us, hl with | [_], _ => rfl
  have D20 := Z.d20.df (ps := ["_law_box_here", "_law_p"]) X G fun _ _ _ _ _ _ us hl => match us, hl with | [_, _], _ => rfl
  have D21 := Z.d21.df (ps := ["_law_box_here", "_law_p", "_law_wide", "_law_many"]) X G fun _ _ _ _ _ _ us hl => match us, hl with | [_, _, _, _], _ => rfl
  have D22 := Z.d22.df (ps := ["_law_p", "_law_item"]) X G fun _ _ _ _ _ _ us hl => match us, hl with | [_, _], _ => rfl
  have D23 := Z.d23.df (ps := ["_law_p", "_law_rows", "_law_head", "_law_spot"]) X G fun _ _ _ _ _ _ us hl => match us, hl with | [_, _, _, _], _ => rfl
  have D24 := Z.d24.df (ps := ["_law_p", "_law_rows"]) X G fun _ _ _ _ _ _ us hl => match us, hl with | [_, _], _ => rfl
  have D25 := Z.d25.df (ps := ["_law_p", "_law_rows"]) X G fun _ _ _ _ _ _ us hl => match us, hl with | [_, _], _ => rfl
  have D26 := Z.d26.df (ps := ["_law_p", "_law_base_here", "_law_row"]) X G fun _ _ _ _ _ _ us hl => match us, hl with | [_, _, _], _ => rfl
  have D27 := Z.d27.df (ps := ["_law_way", "_law_space", "_law_row"]) X G fun _ _ _ _ _ _ us hl => match us, hl with | [_, _, _], _ => rfl
  have D28 := Z.d28.df (ps := ["_law_p", "_law_space", "_law_base_here", "_law_row"]) X G fun _ _ _ _ _ _ us hl => match us, hl with | [_, _, _, _], _ => rfl
  have D29 := Z.d29.df (ps := ["_law_one", "_law_two"]) X G fun _ _ _ _ _ _ us hl => match us, hl with | [_, _], _ => rfl
  have D30 := Z.d30.df (ps := ["_law_p", "_law_one", "_law_two", "_law_rows", "_law_more"]) X G fun _ _ _ _ _ _ us hl => match us, hl with | [_, _, _, _, _], _ => rfl
  have D31 := Z.d31.df (ps := ["_law_box_here", "_law_p", "_law_rows", "_law_wide"]) X G fun _ _ _ _ _ _ us hl => match us, hl with | [_, _, _, _], _ => rfl
  obtain ⟨f_mEq, fd_mEq, at_mEq, fn_mEq, kp_mEq, F_mEq, B_mEq⟩ := Z.mEq.mt (ps := ["self", "other"]) fun _ _ _ _ _ _ us hl => match us, hl with | [_, _], _ => rfl
  obtain ⟨f_mIn, fd_mIn, at_mIn, fn_mIn, kp_mIn, F_mIn, B_mIn⟩ := Z.mIn.mt (ps := ["self", "x"]) fun _ _ _ _ _ _ us hl => match us, hl with | [_, _], _ => rfl
  obtain ⟨f_mRest, fd_mRest, at_mRest, fn_mRest, kp_mRest, F_mRest, B_mRest⟩ := Z.mRest.mt (ps := ["self", "vector"]) fun _ _ _ _ _ _ us hl => match us, hl with | [_, _], _ => rfl
  obtain ⟨f_mLies, fd_mLies, at_mLies, fn_mLies, kp_mLies, F_mLies, B_mLies⟩ := Z.mLies.mt (ps := ["self", "other"]) fun _ _ _ _ _ _ us hl => match us, hl with | [_, _], _ => rfl
  obtain ⟨p_qP, g_qP, fd_qP, P_qP, F_qP, B_qP⟩ := Z.qP.pr (ps := ["self"]) fun _ _ _ _ _ _ us hl => match us, hl with | [_], _ => rfl
  obtain ⟨p_qL, g_qL, fd_qL, P_qL, F_qL, B_qL⟩ := Z.qL.pr (ps := ["self"]) fun _ _ _ _ _ _ us hl => match us, hl with | [_], _ => rfl
  obtain ⟨f, g, oc, od, kV, dc, pm, an, cd, ct, sl, lk, hc, hk⟩ := Z.dl
  have e := hfa.symm.trans (PySem.W.mg_of X G g)
  cases e
  refine ⟨PySem.W.fnOf "law" "law" (defArgs sLaw) (defBody sLaw) (defScope sLaw) .none kV dc pm an cd ct, fun s v => .of_eq rfl, fun base KB _ => ?_⟩
  have PP : PropAt l.prog w K mg base C "prime" (spGetP C) := ⟨cl, p_qP, g_qP, fd_qP, P_qP, okGetP F_qP R, B_qP⟩
  have PL : PropAt l.prog w K mg base C "length" (spGetL C) := ⟨cl, p_qL, g_qL, fd_qL, P_qL, okGetL F_qL R, B_qL⟩
  have G5v : Own l.prog w K mg base CX0 1 "is_list" ["value"] [] (spListV K) := D5.own fun f fd F => okListV F T
  have G1 : Own l.prog w K mg base CX0 1 "is_number" ["value"] [] spNum := D1.own fun f fd F => okNum F T
  have G2 : Own l.prog w K mg base CX0 2 "is_integer" ["value", "low", "high"] [] spInt := Z.d2.own3 X G (fun T kV doc pm an cdv ct us its h1 h2 => match us, its, h1, h2 with | [_, _, _], [_, _], _, _ => ⟨_, rfl, rfl⟩) fun f fd F => okInt F G1
  have G3 : Own l.prog w K mg base CX0 2 "is_prime" ["value"] [] spPrime := D3.own fun f fd F => okPrime F T G1
  have G4 : Own l.prog w K mg base (L2.CX l.prog w) 4 "check_prime" ["prime"] [] (spCheck CP) := D4.own fun f fd F => okCheck F T G3
  have G5 : Own l.prog w K mg base CX0 1 "is_list" ["value"] [] spList := D5.own fun f fd F => okList F T
  have G6 : Own l.prog w K mg base CX0 2 "is_vector" ["value", "length"] [] spVec := D6.own fun f fd F => okVec F T G5
  have G7 : Own l.prog w K mg base CX0 1 "lead_of" ["vector"] [] spLeadOf := D7.own fun f fd F => okLead F T
  have G8 : Own l.prog w K mg base CX0 1 "rest_of" ["prime", "basis", "vector"] [] spRestOf := D8.own fun f fd F => okRest F T
  have G9 : Own l.prog w K mg base CX0 1 "_cleared" ["prime", "row", "lead", "added"] [] spCleared := D9.own fun f fd F => okClr F T
  have G10 : Own l.prog w K mg base CX0 2 "widened" ["prime", "basis", "vectors"] [] (spWiden K) := D10.own fun f fd F => okWid F T G8 G7 G9
  have G11 : Own l.prog w K mg base CX0 3 "reduced" ["prime", "vectors"] [] (spReduced K) := D11.own fun f fd F => okRed F G10
  have G12 : Own l.prog w K mg base (L2.CX l.prog w) 4 "_check_size" ["size"] [] (spCSize12 CS) := D12.own fun f fd F => okSize F T G2
  have G13 : Own l.prog w K mg base (L2.CX l.prog w) 4 "_check_vector" ["vector", "length"] [] (spCVec CV) := D13.own fun f fd F => okCVec F T G6
  have G14 : Own l.prog w K mg base (L2.CX l.prog w) 5 "_reduced" ["prime", "length", "vectors"] [] (spRedV K) := D14.own fun f fd F => okRedV F G5v G13 G11
  have G15 : Own l.prog w K mg base (L2.CX l.prog w) 4 "_check_alike" ["one", "other"] [] (spCAlike C CU) := D15.own fun f fd F => okAlike F T R PP PL
  have SA : SpAts l.prog w K mg base C CV CU := ⟨cl, ⟨f_mIn, fd_mIn, ⟨at_mIn, fn_mIn⟩, okInSp F_mIn R ⟨at_mRest, fn_mRest, kp_mRest⟩ (okRestSp F_mRest T R G13 G8) B_mRest G7, B_mIn⟩, ⟨f_mRest, fd_mRest, ⟨at_mRest, fn_mRest, kp_mRest⟩, okRestSp F_mRest T R G13 G8, B_mRest⟩, ⟨f_mLies, fd_mLies, ⟨at_mLies, fn_mLies, kp_mLies⟩, okLies F_mLies T R G15 G8 G7, B_mLies⟩, ⟨f_mEq, fd_mEq, ⟨at_mEq, fn_mEq, Z.nfl, Z.nfs⟩, okEqSp F_mEq T R, B_mEq⟩, ⟨Z.neF, Z.iHm⟩⟩
  have MK : MkSp l.prog w K mg base C t0 := ⟨gSp, ⟨f_i, fd_i, ⟨Z.mkC, at_i, fn_i, Z.kpC⟩, okIniSp F_i T R G4 G12 G14, B_i1, B_i0⟩, Z.t0h.vecs⟩
  have G16 : Own l.prog w K mg base CX0 1 "_law_cell" ["_law_script", "_law_k"] [] (spCellR K) := D16.own fun f fd F => okCell F T.len
  have G17 : Own l.prog w K mg base CX0 1 "_law_box" ["_law_cell_here"] [] spBoxR := D17.own fun f fd F => okBox F zz_max T.int
  have G18 : Own l.prog w K mg base CX0 1 "_law_take" ["_law_box_here", "_law_many"] [] spTakeR := D18.own fun f fd F => okTake F T.int
  have G19 : Own l.prog w K mg base CX0 2 "_law_prime" ["_law_box_here"] [] spPrimeR := D19.own fun f fd F => okPrimeL F G18
  have G20 : Own l.prog w K mg base CX0 2 "_law_digit" ["_law_box_here", "_law_p"] [] spDigit := D20.own fun f fd F => okDigit F G18
  have G21 : Own l.prog w K mg base CX0 3 "_law_vectors" ["_law_box_here", "_law_p", "_law_wide", "_law_many"] [] spVecsW := D21.own fun f fd F => okVecs F T.range T.len T.int T.tuple G18 G20
  have G22 : Own l.prog w K mg base CX0 1 "_law_turn" ["_law_p", "_law_item"] [] spTurn := D22.own fun f fd F => okTurn F T.range T.int
  have G23 : Own l.prog w K mg base CX0 1 "_law_less" ["_law_p", "_law_rows", "_law_head", "_law_spot"] [] spLess := D23.own fun f fd F => okLess F T.range T.int T.len
  have G24 : Own l.prog w K mg base CX0 2 "_law_base" ["_law_p", "_law_rows"] [] spBaseL := D24.own fun f fd F => okBaseL F T.range T.len T.int T.tuple G22 G23
  have G25 : Own l.prog w K mg base CX0 3 "_law_rank" ["_law_p", "_law_rows"] [] spRankL := D25.own fun f fd F => okRankL F T.len G24
  have G26 : Own l.prog w K mg base CX0 2 "_law_rest" ["_law_p", "_law_base_here", "_law_row"] [] spRestL := D26.own fun f fd F => okRestL F T.range T.len T.int T.tuple G23
  have G27 : Own l.prog w K mg base CX0 7 "_law_asked" ["_law_way", "_law_space", "_law_row"] [] (spAsked C) := D27.own fun f fd F => okAsked F T TC SA
  have G28 : OwnG l.prog w K mg base CX0 8 "_law_vector_right" ["_law_p", "_law_space", "_law_base_here", "_law_row"] [] (spVecR C) := D28.ownG fun f fd F => okVecR F zz_repr T.range T.len G26 G27 G25
  have G29 : Own l.prog w K mg base CX0 7 "_law_lies" ["_law_one", "_law_two"] [] (spLiesL C) := D29.own fun f fd F => okLiesL F T TC SA
  have G30 : OwnG l.prog w K mg base CX0 8 "_law_pair_right" ["_law_p", "_law_one", "_law_two", "_law_rows", "_law_more"] [] (spPairR C) := D30.ownG fun f fd F => okPairR F zz_repr SA G24 G25 G29
  have G31 : Own l.prog w K mg base CX0 4 "_law_sums" ["_law_box_here", "_law_p", "_law_rows", "_law_wide"] [] spSums := D31.own fun f fd F => okSums F T.range T.len T.int T.tuple G18 G21
  exact okLaw (fun_mk (st := sLaw) lk hc hk) ⟨zz_range, zz_max, zz_min, zz_len, zz_repr, zz_int, zz_tuple, zz_list, zz_enumerate⟩ ⟨G16, G17, G18, G19, G21, G24, G31, G27, G29, G28, G30, MK⟩
end K6

set_option Elab.async false
open PySem PySem.W PyProof.Rows
set_option maxRecDepth 100000
set_option maxHeartbeats 0
open_top k6head for PySem.Challenge.rw_maprows_k06_members_and_rests

open PySem PySem.W PyProof.Rows in
set_option maxRecDepth 100000 in
set_option maxHeartbeats 0 in
set_option pp.maxSteps 20 in
theorem PySem.Challenge.cw_maprows_k06_members_and_rests_holds : PySem.Challenge.rw_maprows_k06_members_and_rests.Holds := by
  refine k6head ?walk
  k_fill
  refine Rw.walkG (l := PySem.Challenge.rw_maprows_k06_members_and_rests) (n := 63) (k := 9) (x := "_law_script") (sp := K6.spLaw) rfl (by decide) rfl rfl ⟨rfl, by decide, by decide⟩ (fun w h Y => PySem.W.kIn_of Y) ?F (fun K H a ns hl _ hs => ⟨a, ns, rfl, hs, hl, fun _ => rfl⟩)
  intro w mg fa h KX G hmg
  refine' K6.all_mk KX G hmg ?Z
  case' Z => refine' ⟨?iMOST, ?iv, ?root, ?eP, ?eS, ?eV, ?eU, ?cV, ?cU, ?sVV, ?sUU, ?gSp, ?mIni, ?t0h, ?gRd, ?cPg, ?cHd, ?cPo, ?cSa, ?n1, ?n2, ?n3, ?mkC, ?kpC, ?rSp, ?rTy, ?rRd, ?rIni, ?iHa, ?iHn, ?iHt, ?iHm, ?iMe, ?neF, ?rl, ?rt, ?nfl, ?nfs, ?mEq, ?mIn, ?mRest, ?mLies, ?qP, ?qL, ?d1, ?d2, ?d3, ?d4, ?d5, ?d6, ?d7, ?d8, ?d9, ?d10, ?d11, ?d12, ?d13, ?d14, ?d15, ?d16, ?d17, ?d18, ?d19, ?d20, ?d21, ?d22, ?d23, ?d24, ?d25, ?d26, ?d27, ?d28, ?d29, ?d30, ?d31, ?dl, ?z1, ?z2, ?z3, ?z4, ?z5, ?z6, ?z7, ?z8, ?z9, ?z10, ?z11, ?z12, ?z13, ?z14⟩
  (case iMOST => k_is)
  (case iv => refine' ⟨?t, ?k2, ?k3, ?k5, ?k7, ?k11, ?k13, ?v2, ?v3, ?v5, ?v7, ?v11, ?v13⟩; (case t => refine' Rw.TabIHere.of ?g ?k ?tt ?z; (case g => k_is); (case k => k_is); (case tt => exact .cons rfl rfl rfl (.cons rfl rfl rfl (.cons rfl rfl rfl (.cons rfl rfl rfl (.cons rfl rfl rfl (.cons rfl rfl rfl .nil)))))); (case z => first | rfl | k_is)); (case k2 => refine' Rw.TupHere.of ?l; (case l => k_is)); (case k3 => refine' Rw.TupHere.of ?l; (case l => k_is)); (case k5 => refine' Rw.TupHere.of ?l; (case l => k_is)); (case k7 => refine' Rw.TupHere.of ?l; (case l => k_is)); (case k11 => refine' Rw.TupHere.of ?l; (case l => k_is)); (case k13 => refine' Rw.TupHere.of ?l; (case l => k_is)); (case v2 => exact .cons ⟨_, rfl⟩ (.cons ⟨_, rfl⟩ (.nil))); (case v3 => exact .cons ⟨_, rfl⟩ (.cons ⟨_, rfl⟩ (.cons ⟨_, rfl⟩ (.nil)))); (case v5 => exact .cons ⟨_, rfl⟩ (.cons ⟨_, rfl⟩ (.cons ⟨_, rfl⟩ (.cons ⟨_, rfl⟩ (.cons ⟨_, rfl⟩ (.nil)))))); (case v7 => exact .cons ⟨_, rfl⟩ (.cons ⟨_, rfl⟩ (.cons ⟨_, rfl⟩ (.cons ⟨_, rfl⟩ (.cons ⟨_, rfl⟩ (.cons ⟨_, rfl⟩ (.cons ⟨_, rfl⟩ (.nil)))))))); (case v11 => exact .cons ⟨_, rfl⟩ (.cons ⟨_, rfl⟩ (.cons ⟨_, rfl⟩ (.cons ⟨_, rfl⟩ (.cons ⟨_, rfl⟩ (.cons ⟨_, rfl⟩ (.cons ⟨_, rfl⟩ (.cons ⟨_, rfl⟩ (.cons ⟨_, rfl⟩ (.cons ⟨_, rfl⟩ (.cons ⟨_, rfl⟩ (.nil)))))))))))); (case v13 => exact .cons ⟨_, rfl⟩ (.cons ⟨_, rfl⟩ (.cons ⟨_, rfl⟩ (.cons ⟨_, rfl⟩ (.cons ⟨_, rfl⟩ (.cons ⟨_, rfl⟩ (.cons ⟨_, rfl⟩ (.cons ⟨_, rfl⟩ (.cons ⟨_, rfl⟩ (.cons ⟨_, rfl⟩ (.cons ⟨_, rfl⟩ (.cons ⟨_, rfl⟩ (.cons ⟨_, rfl⟩ (.nil)))))))))))))))
  (case root => k_is)
  (case eP => refine' Rw.ErrHere.of ?g ?xl ?sa ?ga ?gg ?no ?ini ?ty ?l ?c ?k ?kc ?ex ?tc ?hd; (case g => k_is); (case xl => k_is); (case sa => k_is); (case ga => k_is); (case gg => k_is); (case no => k_is); (case ini => k_is); (case ty => k_is); (case l => k_is); (case c => k_is); (case k => k_is); (case kc => k_is); (case ex => k_is); (case tc => k_is); (case hd => k_is))
  (case eS => refine' Rw.ErrHere.of ?g ?xl ?sa ?ga ?gg ?no ?ini ?ty ?l ?c ?k ?kc ?ex ?tc ?hd; (case g => k_is); (case xl => k_is); (case sa => k_is); (case ga => k_is); (case gg => k_is); (case no => k_is); (case ini => k_is); (case ty => k_is); (case l => k_is); (case c => k_is); (case k => k_is); (case kc => k_is); (case ex => k_is); (case tc => k_is); (case hd => k_is))
  (case eV => refine' Rw.ErrHere.of ?g ?xl ?sa ?ga ?gg ?no ?ini ?ty ?l ?c ?k ?kc ?ex ?tc ?hd; (case g => k_is); (case xl => k_is); (case sa => k_is); (case ga => k_is); (case gg => k_is); (case no => k_is); (case ini => k_is); (case ty => k_is); (case l => k_is); (case c => k_is); (case k => k_is); (case kc => k_is); (case ex => k_is); (case tc => k_is); (case hd => k_is))
  (case eU => refine' Rw.ErrNHere.of ?g ?xl ?sa ?ini ?ty ?l ?c ?k ?kc ?ex ?tc; (case g => k_is); (case xl => k_is); (case sa => k_is); (case ini => k_is); (case ty => k_is); (case l => k_is); (case c => k_is); (case k => k_is); (case kc => k_is); (case ex => k_is); (case tc => k_is))
  (case cV => first | rfl | k_is)
  (case cU => first | rfl | k_is)
  (case sVV => first | rfl | k_is)
  (case sUU => first | rfl | k_is)
  (case gSp => first | rfl | k_is)
  (case mIni => refine' Rw.MethDHere.of ?g ?fn ?l ?c ?k ?t; (case g => k_is); (case fn => first | rfl | k_is); (case l => k_is); (case c => k_is); (case k => k_is); (case t => k_is))
  (case t0h => refine' Rw.TupHere.of ?l; (case l => k_is))
  (case gRd => first | rfl | k_is)
  (case cPg => first | rfl | k_is)
  (case cHd => first | rfl | k_is)
  (case cPo => first | rfl | k_is)
  (case cSa => first | rfl | k_is)
  (case n1 => first | rfl | k_is)
  (case n2 => first | rfl | k_is)
  (case n3 => first | rfl | k_is)
  (case mkC => first | rfl | k_is)
  (case kpC => first | rfl | k_is)
  (case rSp => first | rfl | k_is)
  (case rTy => first | rfl | k_is)
  (case rRd => first | rfl | k_is)
  (case rIni => first | rfl | k_is)
  (case iHa => first | rfl | k_is)
  (case iHn => first | rfl | k_is)
  (case iHt => first | rfl | k_is)
  (case iHm => first | rfl | k_is)
  (case iMe => first | rfl | k_is)
  (case neF => first | rfl | k_is)
  (case rl => first | rfl | k_is)
  (case rt => first | rfl | k_is)
  (case nfl => first | rfl | k_is)
  (case nfs => first | rfl | k_is)
  (case mEq => refine' Rw.MethHere.of ?g ?fn ?l ?c ?k; (case g => k_is); (case fn => first | rfl | k_is); (case l => k_is); (case c => k_is); (case k => k_is))
  (case mIn => refine' Rw.MethHere.of ?g ?fn ?l ?c ?k; (case g => k_is); (case fn => first | rfl | k_is); (case l => k_is); (case c => k_is); (case k => k_is))
  (case mRest => refine' Rw.MethHere.of ?g ?fn ?l ?c ?k; (case g => k_is); (case fn => first | rfl | k_is); (case l => k_is); (case c => k_is); (case k => k_is))
  (case mLies => refine' Rw.MethHere.of ?g ?fn ?l ?c ?k; (case g => k_is); (case fn => first | rfl | k_is); (case l => k_is); (case c => k_is); (case k => k_is))
  (case qP => refine' Rw.PropHere.of ?a ?ge ?ta ?re ?l ?c ?k; (case a => k_is); (case ge => first | rfl | k_is); (case ta => first | rfl | k_is); (case re => k_is); (case l => k_is); (case c => k_is); (case k => k_is))
  (case qL => refine' Rw.PropHere.of ?a ?ge ?ta ?re ?l ?c ?k; (case a => k_is); (case ge => first | rfl | k_is); (case ta => first | rfl | k_is); (case re => k_is); (case l => k_is); (case c => k_is); (case k => k_is))
  (case d1 => refine' Rw.DefHere.of ?g ?l ?c ?k; (case g => k_is); (case l => k_is); (case c => k_is); (case k => k_is))
  (case d2 => refine' Rw.DflHere.of ?g ?l ?c ?k ?t; (case g => k_is); (case l => k_is); (case c => k_is); (case k => k_is); (case t => k_is))
  (case d3 => refine' Rw.DefHere.of ?g ?l ?c ?k; (case g => k_is); (case l => k_is); (case c => k_is); (case k => k_is))
  (case d4 => refine' Rw.DefHere.of ?g ?l ?c ?k; (case g => k_is); (case l => k_is); (case c => k_is); (case k => k_is))
  (case d5 => refine' Rw.DefHere.of ?g ?l ?c ?k; (case g => k_is); (case l => k_is); (case c => k_is); (case k => k_is))
  (case d6 => refine' Rw.DefHere.of ?g ?l ?c ?k; (case g => k_is); (case l => k_is); (case c => k_is); (case k => k_is))
  (case d7 => refine' Rw.DefHere.of ?g ?l ?c ?k; (case g => k_is); (case l => k_is); (case c => k_is); (case k => k_is))
  (case d8 => refine' Rw.DefHere.of ?g ?l ?c ?k; (case g => k_is); (case l => k_is); (case c => k_is); (case k => k_is))
  (case d9 => refine' Rw.DefHere.of ?g ?l ?c ?k; (case g => k_is); (case l => k_is); (case c => k_is); (case k => k_is))
  (case d10 => refine' Rw.DefHere.of ?g ?l ?c ?k; (case g => k_is); (case l => k_is); (case c => k_is); (case k => k_is))
  (case d11 => refine' Rw.DefHere.of ?g ?l ?c ?k; (case g => k_is); (case l => k_is); (case c => k_is); (case k => k_is))
  (case d12 => refine' Rw.DefHere.of ?g ?l ?c ?k; (case g => k_is); (case l => k_is); (case c => k_is); (case k => k_is))
  (case d13 => refine' Rw.DefHere.of ?g ?l ?c ?k; (case g => k_is); (case l => k_is); (case c => k_is); (case k => k_is))
  (case d14 => refine' Rw.DefHere.of ?g ?l ?c ?k; (case g => k_is); (case l => k_is); (case c => k_is); (case k => k_is))
  (case d15 => refine' Rw.DefHere.of ?g ?l ?c ?k; (case g => k_is); (case l => k_is); (case c => k_is); (case k => k_is))
  (case d16 => refine' Rw.DefHere.of ?g ?l ?c ?k; (case g => k_is); (case l => k_is); (case c => k_is); (case k => k_is))
  (case d17 => refine' Rw.DefHere.of ?g ?l ?c ?k; (case g => k_is); (case l => k_is); (case c => k_is); (case k => k_is))
  (case d18 => refine' Rw.DefHere.of ?g ?l ?c ?k; (case g => k_is); (case l => k_is); (case c => k_is); (case k => k_is))
  (case d19 => refine' Rw.DefHere.of ?g ?l ?c ?k; (case g => k_is); (case l => k_is); (case c => k_is); (case k => k_is))
  (case d20 => refine' Rw.DefHere.of ?g ?l ?c ?k; (case g => k_is); (case l => k_is); (case c => k_is); (case k => k_is))
  (case d21 => refine' Rw.DefHere.of ?g ?l ?c ?k; (case g => k_is); (case l => k_is); (case c => k_is); (case k => k_is))
  (case d22 => refine' Rw.DefHere.of ?g ?l ?c ?k; (case g => k_is); (case l => k_is); (case c => k_is); (case k => k_is))
  (case d23 => refine' Rw.DefHere.of ?g ?l ?c ?k; (case g => k_is); (case l => k_is); (case c => k_is); (case k => k_is))
  (case d24 => refine' Rw.DefHere.of ?g ?l ?c ?k; (case g => k_is); (case l => k_is); (case c => k_is); (case k => k_is))
  (case d25 => refine' Rw.DefHere.of ?g ?l ?c ?k; (case g => k_is); (case l => k_is); (case c => k_is); (case k => k_is))
  (case d26 => refine' Rw.DefHere.of ?g ?l ?c ?k; (case g => k_is); (case l => k_is); (case c => k_is); (case k => k_is))
  (case d27 => refine' Rw.DefHere.of ?g ?l ?c ?k; (case g => k_is); (case l => k_is); (case c => k_is); (case k => k_is))
  (case d28 => refine' Rw.DefHere.of ?g ?l ?c ?k; (case g => k_is); (case l => k_is); (case c => k_is); (case k => k_is))
  (case d29 => refine' Rw.DefHere.of ?g ?l ?c ?k; (case g => k_is); (case l => k_is); (case c => k_is); (case k => k_is))
  (case d30 => refine' Rw.DefHere.of ?g ?l ?c ?k; (case g => k_is); (case l => k_is); (case c => k_is); (case k => k_is))
  (case d31 => refine' Rw.DefHere.of ?g ?l ?c ?k; (case g => k_is); (case l => k_is); (case c => k_is); (case k => k_is))
  (case dl => refine' Rw.DefHere.of ?g ?l ?c ?k; (case g => k_is); (case l => k_is); (case c => k_is); (case k => k_is))
  (case z1 => k_is)
  (case z2 => k_is)
  (case z3 => k_is)
  (case z4 => k_is)
  (case z5 => k_is)
  (case z6 => k_is)
  (case z7 => k_is)
  (case z8 => k_is)
  (case z9 => k_is)
  (case z10 => k_is)
  (case z11 => k_is)
  (case z12 => k_is)
  (case z13 => k_is)
  (case z14 => k_is)
#print axioms PySem.Challenge.cw_maprows_k06_members_and_rests_holds
