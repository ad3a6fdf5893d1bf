import PyProof.Rows.All
import Wide.All
import OpenK.AllK
import Wide.FinOn
import PyProof.RowDictHeap
import PyProof.ReprRoads
import HandS.ForMost
import HandS.ForExc
import HandS.ExcInit
import HandS.ExcField
import HandS.IsInst
import HandS.Wide
import HandS.Defaults
import HandS.Conv
import KE.GoesMore
import KE.GoesZip
import HandS.Zip0
import KE.GoesEnum
import HandS.Walk
import HandS.Property
import PySem.Challenge.RW_maprows_k02_integers_primes_and_inverses
import HandS.Evl
set_option Elab.async false
set_option linter.all false
set_option maxRecDepth 100000
set_option maxHeartbeats 4000000
/-! TkA: own rules that all laws of this program share: a def called where no repr runs (FnG), the end of a row from it, repr of data, try with several named clauses. -/
namespace Rw
open PySem PySem.Spec PyProof.Rows L2

/-! ### defs that are called where no repr is under way -/
theorem guards_deep (A : Around) (e : Env) : (A.deeper e).guards = A.guards := by rfl
/-- FnOk, but only where no repr is under way -/
structure FnG (P : Program) (w : World) (K : PySem.W.Frag) (mg : Str → Option Value) (base : Heap) (CX : CXT) (k : Nat) (f : Addr) (fd : FuncData) (ps : List Str) (sp : Sp) : Prop where
  many : ∀ vs H Q E, sp vs H Q E → vs.length = ps.length
  go : ∀ (A : Around) (fr : List Env) (s : Shared) (H : Hp) (ar : Args) (us : List Value) (vs : List V) (Q : VK) (E : XK), A.guards = some [] → Room k A → Env0 P w K mg base A fr s H →
    BindsTo s fd ar (ps.zip us) → Vals vs us → sp vs H Q E → codeAny (model P w) A (.call (.ref f) ar) (CR CX fr P w H s Q E) s

section
variable {P : Program} {w : World} {K : PySem.W.Frag} {mg : Str → Option Value} {base : Heap} {CX : CXT}
theorem fnG_of {k : Nat} {f : Addr} {name qual : Str} {pa : Arguments} {bd : List Stmt} {sc : Scope} {dV kV doc pm cdv ct oc : Value} {an od : Option Addr} {osl : Array (Option Value)} {N ps : List Str} {sp : Sp}
    (lk : K.lookup f = some ⟨oc, od, .func (PySem.W.fnOf name qual pa bd sc dV kV doc pm an cdv ct), osl⟩) (hcd : PySem.W.codeIn K cdv qual = true) (S : FnScope N ps sc)
    (many : ∀ vs H Q E, sp vs H Q E → vs.length = ps.length)
    (walk : ∀ (A : Around) (fr : List Env) (s : Shared) (H : Hp) (vs : List V) (Q : VK) (E : XK), A.guards = some [] → Room k (A.deeper (envOfC qual sc s.heap.objs.size f cdv)) → sp vs H Q E →
      ∃ t, PSs (cxOf CX P w K mg base N qual sc f cdv A fr s H E) bd t ∧ t { nx := fun _ H' => Q .non H', rt := Q } (start N vs) H) :
    FnG P w K mg base CX (k + 1) f (PySem.W.fnOf name qual pa bd sc dV kV doc pm an cdv ct) ps sp := by
  constructor
  · exact many
  intro A fr s H ar us vs Q E gu room ev bnd rel prom
  have cnt := many vs H Q E prom
  have kin : K.In s.heap := PySem.W.Frag.In.keeps ev.mod.kin (fun b o e => (ev.bs b o e).1)
  have lim : s.heap.NoLimit := Heap.NoLimit.keeps ev.mod.nolimit (fun b o e => (ev.bs b o e).1)
  refine codeAny_call_function (Room.depth room) (kin f _ lk) rfl S.co S.gen rfl (PySem.W.codeRec_of kin hcd) ?_
  refine bnd _ _ _ _ ?_
  refine wpAny_newFunctionEnv_cells S.kind ?_ ?_
  · intro y hy
    obtain ⟨n, v⟩ := y
    have hp := (List.of_mem_zip hy).1
    cases S.par n hp with
    | inl q => exact Or.inl q
    | inr q => exact Or.inr ⟨q, PySem.W.cellsFrom_some sc.names (s.heap.objs.size + 1) [] (Or.inl q)⟩
  intro env he s1 x
  subst he
  refine And.intro (lim.keeps (InCallC.toInCall x).keep) ?_
  refine codeAny_func ?_
  have start_ok := inv_start (CX := CX) (E := E) (f := f) (cd := cdv) S room.hd ev cnt rel x
  obtain ⟨t, ht, hq⟩ := walk A fr s H vs Q E gu (Room.deeper room _) prom
  refine wpAny_mono (PSs.run ht [] s1 (start N vs) H _ start_ok hq) ?_ (fun _ _ z => z)
  intro fl s2 hs
  cases fl with
  | ret u =>
    obtain ⟨v, σ2, H2, J, rv, q⟩ := hs
    exact Exists.intro v ⟨H2, J.os, J.bare, J.base, J.hok, rv, q⟩
  | next =>
    obtain ⟨σ2, H2, J, q⟩ := hs
    exact Exists.intro V.non ⟨H2, J.os, J.bare, J.base, J.hok, rfl, q⟩
  | brk => exact (hs.choose_spec.choose_spec.2).elim
  | cont => exact (hs.choose_spec.choose_spec.2).elim
/-- a def of the text: its body's term and reading, where no repr is under way -/
theorem funG {x qual : Str} {st : Stmt} {f : Addr} {fd : FuncData} {N ps : List Str} {k : Nat} {sp : Sp} (F : Fun K x qual st f fd) (S : FnScope N ps (defScope st)) (many : ∀ vs H Q E, sp vs H Q E → vs.length = ps.length)
    (walk : ∀ (cdv : Value) (A : Around) (fr : List Env) (s : Shared) (H : Hp) (vs : List V) (Q : VK) (E : XK), (cxOf CX0 P w K mg base N qual (defScope st) f cdv A fr s H E).A.guards = some [] →
      Room k (A.deeper (envOfC qual (defScope st) s.heap.objs.size f cdv)) → sp vs H Q E →
      ∃ t, PSs (cxOf CX0 P w K mg base N qual (defScope st) f cdv A fr s H E).nox (defBody st) t ∧ t { nx := fun _ H' => Q .non H', rt := Q } (start N vs) H) : FnG P w K mg base CX0 (k + 1) f fd ps sp := by
  obtain ⟨oc, od, kV, doc, pm, an, cdv, ct, osl, rfl, lk, hcd⟩ := F.ex
  refine fnG_of lk hcd S many ?_
  intro A fr s H vs Q E gu room prom
  obtain ⟨t, d, q⟩ := walk cdv A fr s H vs Q E gu room prom
  exact ⟨t, PSs.nox d, q⟩
end

section
variable {X : Cx} {CX : CXT} {k : Nat} {f : Addr} {fd : FuncData} {ps : List Str} {sp : Sp} {dvs : List V} {ds : List Value} {E : XK} {x : Str} {p pos : Pos} {e : Expr} {es : List Expr} {t : TA}
/-- f(e, ..) of such a def -/
theorem pe_callG (F : FnG X.prog X.w X.K X.mg X.base CX k f fd ps sp) (gu : X.A.guards = some []) (room : Room k X.A) (hg : Gl X x) (hm : X.mg x = some (.ref f)) (hk : PySem.W.keepIn X.K (.ref f) = true)
    (bnd : Binds X.K fd ps ds) (hd : Vals dvs ds) (hx : Passes CX X E) (ha : PA X (e :: es) t) (hdb : (x == ("__debug__" : Str)) = false := by decide)
    (he : starEach (e :: es) X.env = (false, eval e X.env) :: starEach es X.env := by rfl) (hpl : (backTo pos (starEach es X.env)).any (·.1) = false := by rfl) :
    PE X (.Call (.Name x p) (e :: es) [] pos) (tCall sp dvs E t) := by
  constructor
  intro pins s σ H Q I h
  refine wpAny_Call_Name_kw (ld_glob I hg hm ?_ hdb)
  refine PySem.W.callWith_K (h₀ := X.base) I.ok.mod.kin hk ?_ he hpl
  refine thn (PA.run ha pos pins s σ H _ I h) ?_
  intro us s1 hh
  obtain ⟨vs, H1, I1, r, q⟩ := hh
  refine ⟨I1.kIn, ?_⟩
  have r2 : Vals (vs ++ dvs) (us ++ ds) := Vals.append r hd
  have cnt : (us ++ ds).length = ps.length := (r2.length).symm.trans (F.many _ _ _ _ q)
  refine wpAny_call (codeAny_mono (F.go X.A X.stack s1 H1 ⟨us, []⟩ (us ++ ds) (vs ++ dvs) Q E gu room I1.env0 (bnd s1 us I1.kIn cnt) r2 q) ?_)
  intro res s2 hq
  cases res with
  | error er => exact hx pins σ H1 s1 er s2 I1 hq
  | ok fl =>
    cases fl with
    | ret u => exact Inv.after I1 hq
    | next => exact hq.elim
    | brk => exact hq.elim
    | cont => exact hq.elim
end
end Rw

set_option Elab.async false
set_option linter.all false
set_option maxRecDepth 100000
set_option maxHeartbeats 4000000
/-! TkB: the end of a law's row from a def that is called where no repr is under way. -/
namespace Rw
open PySem PySem.Spec PyProof.Rows L2

/-- nothing is tracked in H but perhaps a -/
def Lone (H : Hp) (a : Addr) : Prop := ∀ b, H b ≠ none → b = a

section
variable {P : Program} {w : World} {K : PySem.W.Frag} {mg mb : Str → Option Value} {s : Shared} {a : Addr} {H : Hp} {o : Obj}
theorem lone_base {b : Addr} {u : Obj} (e : s.heap.get? b = some u) (n : H b = none) : (hidT s.heap H).get? b = some u := hidT_get e n
theorem lone_free (A : Lone H a) {b : Addr} (n : b ≠ a) : H b = none := by
  cases q : H b with
  | none => rfl
  | some u => exact (n (A b (by rw [q]; exact fun z => nomatch z))).elim
theorem lone_dict (A : Lone H a) (ha : s.heap.get? a = some o) (hd : ∀ es n, o.data ≠ .dict es n) {b : Addr} {u : Obj} {es : Array DictEntry} {n : Nat} (e : s.heap.get? b = some u) (d : u.data = .dict es n) : H b = none :=
  lone_free A fun z => by
    rw [z, ha] at e
    cases e
    exact hd es n d
theorem lone_ns (A : Lone H a) (ha : s.heap.get? a = some o) (hd : ∀ es n, o.data ≠ .dict es n) {b : Addr} {m : Str → Option Value} (h : s.heap.Ns b m) : (hidT s.heap H).Ns b m := by
  obtain ⟨u, es, n, e, d, r⟩ := h
  exact ⟨u, es, n, lone_base e (lone_dict A ha hd e d), d, r⟩
theorem lone_mod (A : Lone H a) (ha : s.heap.get? a = some o) (hd : ∀ es n, o.data ≠ .dict es n) (KX : K.In s.heap) (hK : H a ≠ none → K.lookup a = none) (g : s.heap.Ns mainGlobals mg) (b : s.heap.Ns builtinsNs mb)
    (bb : ∀ x : Str, x ≠ "__name__" → mb x = bootBuiltins x) (lim : s.heap.NoLimit) : Mod K mg (hidT s.heap H) := by
  have kin : K.In (hidT s.heap H) := fun c u e => by
    refine lone_base (KX c u e) ?_
    by_cases z : c = a
    · cases q : H a with
      | none => rw [z]; exact q
      | some y =>
        rw [z, hK (by rw [q]; exact fun z => nomatch z)] at e
        cases e
    · exact lone_free A z
  refine ⟨kin, lone_ns A ha hd g, ⟨mb, lone_ns A ha hd b, bb⟩, ?_⟩
  obtain ⟨mc, h1, h2⟩ := lim
  exact ⟨mc, lone_ns A ha hd h1, h2⟩

/-- what a law's run leaves, from its promise -/
theorem lone_run {CX : CXT} {k : Nat} {fa : Addr} {fd : FuncData} {x : Str} {sp : Sp} (A : Lone H a) (ha : s.heap.get? a = some o) (hd : ∀ es n, o.data ≠ .dict es n) (KX : K.In s.heap) (hK : H a ≠ none → K.lookup a = none)
    (g : s.heap.Ns mainGlobals mg) (b : s.heap.Ns builtinsNs mb) (bb : ∀ x : Str, x ≠ "__name__" → mb x = bootBuiltins x) (lim : s.heap.NoLimit) (hg : s.gens = #[]) (only : Only H) (hok : HOk P w H s.heap) (gu : callerA.guards = some []) (hr : Room k callerA)
    (F : ∀ base : Heap, K.In base → base.Ns mainGlobals mg → FnG P w K mg base CX k fa fd [x] sp) (bnd : ∀ (s : Shared) (u : Value), BindsTo s fd ⟨[u], []⟩ [(x, u)])
    (hs : sp [.ref a] H (fun v _ => v = .bl true) fun _ _ _ => False) (hCX : ∀ e s', CX [] H s (fun _ _ _ => False) e s' → False) :
    codeAny (model P w) callerA (.call (.ref fa) ⟨[.ref a], []⟩) (fun r s' => r = .ok (.ret (.bool true)) ∧ OldK s.heap s'.heap ∧ s'.os = s.os ∧ AllBare s'.gens) s := by
  have M := lone_mod A ha hd KX hK g b bb lim
  have ev : Env0 P w K mg (hidT s.heap H) callerA [] s H := by
    refine ⟨rfl, M, fun c u e => of_hidT e, Nat.le_of_eq (hidT_size _ _), True.intro, ?_, hok, .of_eq hg⟩
    intro c hc
    cases hc
  refine codeAny_mono ((F _ M.kin M.glob).go callerA [] s H ⟨[.ref a], []⟩ [.ref a] [.ref a] _ _ gu hr ev (bnd s (.ref a)) (.cons rfl .nil) hs) ?_
  intro r s' h
  cases r with
  | error e => exact False.elim (hCX e s' h)
  | ok fl =>
    cases fl with
    | next => exact h.elim
    | brk => exact h.elim
    | cont => exact h.elim
    | ret u =>
      obtain ⟨v, H', os, bare, un, hok', r', q⟩ := h
      have ev : v = V.bl true := q
      rw [ev] at r'
      cases (show u = Value.bool true from r')
      refine ⟨rfl, OldK.of_keep ?_, os, bare⟩
      intro c u e
      cases q : H c with
      | none => exact un.keep c u e q (fun z => nomatch z) (fun z => nomatch z)
      | some y =>
        cases only c with
        | inl z =>
          rw [q] at z
          cases z
        | inr z =>
          obtain ⟨ob, xs, z⟩ := z
          have e1 := (hok c _ z).1
          have e2 := (hok' c _ (un.frzs c ob _ z)).1
          rw [e] at e1
          cases e1
          exact e2

theorem lawG {CX : CXT} {k : Nat} {fa : Addr} {fd : FuncData} {x : Str} {sp : Sp} {vs : List Value} {ns : List Int} (KX : K.In s.heap) (g : s.heap.Ns mainGlobals mg) (b : s.heap.Ns builtinsNs mb)
    (bb : ∀ x : Str, x ≠ "__name__" → mb x = bootBuiltins x) (lim : s.heap.NoLimit) (hg : s.gens = #[]) (ha : s.heap.get? a = some { cls := .type "list", data := .seq vs.toArray }) (hi : IntsAre vs ns) (hl : ns.length ≤ sizeLine)
    (gu : callerA.guards = some []) (hr : Room k callerA) (F : ∀ base : Heap, K.In base → base.Ns mainGlobals mg → FnG P w K mg base CX k fa fd [x] sp) (bnd : ∀ (s : Shared) (u : Value), BindsTo s fd ⟨[u], []⟩ [(x, u)])
    (hs : ∀ H : Hp, Only H → SqL K H a (ns.map V.int) → sp [.ref a] H (fun v _ => v = .bl true) fun _ _ _ => False) (hCX : ∀ H e s', CX [] H s (fun _ _ _ => False) e s' → False) :
    codeAny (model P w) callerA (.call (.ref fa) ⟨[.ref a], []⟩) (fun r s' => r = .ok (.ret (.bool true)) ∧ OldK s.heap s'.heap ∧ s'.os = s.os ∧ AllBare s'.gens) s := by
  have rv := vals_ints hi
  have nd : ∀ es n, ({ cls := .type "list", data := .seq vs.toArray } : Obj).data ≠ .dict es n := fun es n z => nomatch z
  cases hk : K.lookup a with
  | some o =>
    have e := KX a o hk
    rw [ha] at e
    cases e
    have sq : SqL K (fun _ => none) a (ns.map V.int) := Or.inr ⟨_, vs.toArray, _, hk, rfl, rfl, rfl, (by rw [List.size_toArray, hi.length]; exact hl), (by simpa using rv)⟩
    have on : Only (fun _ => none) := fun _ => Or.inl rfl
    exact lone_run (H := fun _ => none) (fun b z => absurd rfl z) ha nd KX (fun z => absurd rfl z) g b bb lim hg on (fun c u z => nomatch z) gu hr F bnd (hs _ on sq) (hCX _)
  | none =>
    have on : Only (upd (fun _ => none) a (.frz { cls := .type "list", data := .seq vs.toArray } (.lst (ns.map V.int)))) := fun c => by
      by_cases z : c = a
      · rw [z]
        exact Or.inr ⟨_, _, upd_same⟩
      · exact Or.inl (upd_ne z)
    refine lone_run (a := a) (fun c z => ?_) ha nd KX (fun _ => hk) g b bb lim hg on (fun c u z => ?_) gu hr F bnd (hs _ on (.inl (.inr ⟨_, upd_same⟩))) (hCX _)
    · by_cases y : c = a
      · exact y
      · exact (z (upd_ne y)).elim
    · by_cases y : c = a
      · rw [y, upd_same] at z
        cases z
        rw [y]
        exact ⟨ha, by rw [List.length_map]; exact hl, vs, _, rv, ha⟩
      · rw [upd_ne y] at z
        cases z
end

/-- the row's walk -/
theorem walkG {l : PySem.W.OpenLaw} {n k : Nat} {q : Program} {loose : List Str} {XP : (Str → Option Value) → Heap → Prop} {YP : World → Heap → Prop} {d : DefRec} {K : Params → PySem.W.Frag} {sp : PySem.W.Frag → Sp} {x : Str}
    (hn : l.most = some n) (hn2 : n ≤ sizeLine) (hdf : d.params.defaults = []) (gu : callerA.guards = some []) (hr : Room k callerA) (hY : ∀ (w : World) (h : Heap), YP w h → (K w.params).In h)
    (F : ∀ (w : World) (mg : Str → Option Value) (fa : Addr) (h : Heap), (K w.params).In h → h.Ns mainGlobals mg → mg d.name = some (.ref fa) →
      ∃ fd : FuncData, (∀ (s : Shared) (u : Value), BindsTo s fd ⟨[u], []⟩ [(x, u)]) ∧ ∀ base : Heap, (K w.params).In base → base.Ns mainGlobals mg → FnG l.prog w (K w.params) mg base CX0 k fa fd [x] (sp (K w.params)))
    (hs : ∀ (K : PySem.W.Frag) (H : Hp) (a : Addr) (ns : List Int), ns.length ≤ n → Only H → SqL K H a (ns.map V.int) → sp K [.ref a] H (fun v _ => v = .bl true) fun _ _ _ => False) :
    PySem.W.WalkO q loose XP YP l.row.toRowW d [] (fun f vs => PySem.call f vs) := by
  refine Att.attach_call hn hdf ?_
  intro w s0 s1 mg mb fa o pm cd doc a vs ns G Y ho hd hcd hmg hobj hints hlen hg
  have KX := hY w s1.heap Y
  obtain ⟨fd, bnd, FF⟩ := F w mg fa s1.heap KX G.T.g hmg
  exact lawG KX G.T.g G.T.b G.T.builtins G.T.nolimit hg hobj hints (Nat.le_trans hlen hn2) gu hr FF bnd (fun H on sq => hs (K w.params) H a ns hlen on sq) (fun _ _ _ z => z)
end Rw

set_option Elab.async false
set_option linter.all false
set_option maxRecDepth 100000
set_option maxHeartbeats 4000000
/-! TkC: data with dicts among them; repr of data. -/
namespace Rw
open PySem PySem.Spec PyProof.Rows L2

/-- how a dict's key reads -/
def keyD : Key → PyData
  | .inl i => .int i
  | .inr x => .str x
mutual
/-- what v is, as data: lists and tuples that are tracked, dicts with keys that are ints or texts -/
inductive Any (H : Hp) : V → PyData → Prop
  | non : Any H .non .none
  | bl (b : Bool) : Any H (.bl b) (.bool b)
  | int (i : Int) : Any H (.int i) (.int i)
  | str (x : Str) : Any H (.str x) (.str x)
  | lst {a : Addr} {xs : List V} {ds : List PyData} : H a = some (.lst xs) → AnyL H xs ds → Any H (.ref a) (.list ds)
  | tup {a : Addr} {xs : List V} {ds : List PyData} : H a = some (.tup xs) → AnyL H xs ds → Any H (.ref a) (.tuple ds)
  | dct {a : Addr} {kvs : List (Key × V)} {ds : List (PyData × PyData)} : H a = some (.dK kvs) → AnyK H kvs ds → Any H (.ref a) (.dict ds)
inductive AnyL (H : Hp) : List V → List PyData → Prop
  | nil : AnyL H [] []
  | cons {v : V} {vs : List V} {d : PyData} {ds : List PyData} : Any H v d → AnyL H vs ds → AnyL H (v :: vs) (d :: ds)
inductive AnyK (H : Hp) : List (Key × V) → List (PyData × PyData) → Prop
  | nil : AnyK H [] []
  | cons {k : Key} {v : V} {vs : List (Key × V)} {d : PyData} {ds : List (PyData × PyData)} : Any H v d → AnyK H vs ds → AnyK H ((k, v) :: vs) ((keyD k, d) :: ds)
end

/-! ### how such data is shown -/
section
variable {prog : Program} {w : World} {h : Heap}
/-- u lies as the data d in h, and is shown by repr -/
def Shows (prog : Program) (w : World) (h : Heap) (u : Value) (d : PyData) : Prop := ∃ as, Reads h u d as ∧ ∃ bs, ReadAtMost h d.depth bs ∧ ReprK prog w bs h d.depth u d.shown
def ShowsL (prog : Program) (w : World) (h : Heap) (us : List Value) (ds : List PyData) : Prop := ∃ as, ReadsAll h us ds as ∧ ∃ bs, ReadAtMost h (PyData.depthAll ds) bs ∧ ReprAllK prog w bs h (PyData.depthAll ds) us (PyData.shownAll ds)
theorem shows_flat {u : Value} {d : PyData} (r : Reads h u d []) (k : ReprIs prog w u d.shown) : Shows prog w h u d := ⟨[], r, [], fun _ z => (nomatch z), ReprK.of_is k [] h d.depth⟩
theorem showsL_nil : ShowsL prog w h [] [] := ⟨[], .nil, [], fun _ z => (nomatch z), by simp only [PyData.shownAll]; exact .nil⟩
theorem showsL_cons {u : Value} {d : PyData} {us : List Value} {ds : List PyData} (x : Shows prog w h u d) (y : ShowsL prog w h us ds) : ShowsL prog w h (u :: us) (d :: ds) := by
  obtain ⟨a1, r1, b1, m1, k1⟩ := x
  obtain ⟨a2, r2, b2, m2, k2⟩ := y
  have e : PyData.depthAll (d :: ds) = max d.depth (PyData.depthAll ds) := by simp only [PyData.depthAll]
  have l1 : d.depth ≤ max d.depth (PyData.depthAll ds) := Nat.le_max_left _ _
  have l2 : PyData.depthAll ds ≤ max d.depth (PyData.depthAll ds) := Nat.le_max_right _ _
  refine ⟨a1 ++ a2, .cons r1 r2, b1 ++ b2, ?_, ?_⟩
  · rw [e]
    exact ReadAtMost.append (m1.mono l1) (m2.mono l2)
  · rw [e]
    simp only [PyData.shownAll]
    exact .cons (ReprK.level_le (ReprK.more k1 fun b z => List.mem_append_left b2 z) l1) (ReprAllK.more_le (fun b z => List.mem_append_right b1 z) l2 k2)
theorem shown_le {ds : List PyData} {n : Nat} (z : ∀ t ∈ PyData.shownAll ds, t.length ≤ n) : ∀ d ∈ ds, d.shown.length ≤ n := by
  induction ds with
  | nil => intro d hd; cases hd
  | cons c cs ih =>
    intro d hd
    simp only [PyData.shownAll] at z
    rcases List.mem_cons.mp hd with e | e
    · rw [e]
      exact z _ List.mem_cons_self
    · exact ih (fun t ht => z t (List.mem_cons_of_mem _ ht)) d e
/-- the parts of a list -/
structure ListAt (h : Heap) (a : Addr) (us : List Value) (o : Obj) (n : Nat) : Prop where
  get : h.get? a = some o
  cls : o.cls = .type "list"
  dat : o.data = .seq us.toArray n
structure TupleAt (h : Heap) (a : Addr) (us : List Value) (o : Obj) (n : Nat) : Prop where
  get : h.get? a = some o
  cls : o.cls = .type "tuple"
  dat : o.data = .seq us.toArray n
structure DictAt' (h : Heap) (a : Addr) (es : Array DictEntry) (o : Obj) (n : Nat) : Prop where
  get : h.get? a = some o
  cls : o.cls = .type "dict"
  dat : o.data = .dict es n
  off : (a == sysModules) = false
theorem list_reads {a : Addr} {us : List Value} {o : Obj} {n : Nat} {ds : List PyData} {as : List Addr} (L : ListAt h a us o n) (r : ReadsAll h us ds as) : Reads h (.ref a) (.list ds) (a :: as) := .list L.get L.cls L.dat r
theorem tuple_reads {a : Addr} {us : List Value} {o : Obj} {n : Nat} {ds : List PyData} {as : List Addr} (L : TupleAt h a us o n) (r : ReadsAll h us ds as) : Reads h (.ref a) (.tuple ds) as := .tuple L.get L.cls L.dat r
theorem off_of {a : Addr} {d : PyData} {as bs : List Addr} {m : Nat} (r : Reads h (.ref a) d as) (e : d.depth = m + 1) (k : ReadAtMost h m bs) : a ∉ bs := not_mem_of_deeper r (by omega) k
theorem shows_list {a : Addr} {us : List Value} {o : Obj} {n : Nat} {ds : List PyData} (L : ListAt h a us o n) (x : ShowsL prog w h us ds) : Shows prog w h (.ref a) (.list ds) := by
  obtain ⟨as, r, bs, m, k⟩ := x
  have R := list_reads L r
  have dp : (PyData.list ds).depth = PyData.depthAll ds + 1 := by simp only [PyData.depth]
  refine ⟨_, R, a :: bs, ReadAtMost.cons R (by omega) m, ?_⟩
  rw [dp]
  simp only [PyData.shown]
  cases us with
  | nil =>
    cases r
    simp only [PyData.shownAll, listText_nil]
    exact ReprK.listEmpty L.get L.cls L.dat
  | cons u us => exact ReprK.list L.get L.cls L.dat (off_of R dp m) (by simpa using k.length_eq) (fun i y e => k.item i y (by simpa using e))
theorem shows_tuple {a : Addr} {us : List Value} {o : Obj} {n : Nat} {ds : List PyData} (L : TupleAt h a us o n) (x : ShowsL prog w h us ds) : Shows prog w h (.ref a) (.tuple ds) := by
  obtain ⟨as, r, bs, m, k⟩ := x
  have R := tuple_reads L r
  have dp : (PyData.tuple ds).depth = PyData.depthAll ds + 1 := by simp only [PyData.depth]
  refine ⟨_, R, a :: bs, ReadAtMost.cons R (by omega) m, ?_⟩
  rw [dp]
  simp only [PyData.shown]
  exact ReprK.tuple L.get L.cls L.dat (off_of R dp m) k
theorem shows_dict {a : Addr} {es : Array DictEntry} {o : Obj} {n : Nat} {kvs : List (PyData × PyData)} (L : DictAt' h a es o n) (x : ShowsL prog w h (es.toList.map (·.key)) (kvs.map (·.1))) (y : ShowsL prog w h (es.toList.map (·.val)) (kvs.map (·.2))) :
    (∃ as, Reads h (.ref a) (.dict kvs) as) ∧ (∃ bs, ReadAtMost h (PyData.depthKv kvs) bs ∧ a ∉ bs ∧ ReprEntriesK prog w bs h (PyData.depthKv kvs) es.toList (PyData.shownKv kvs)) := by
  obtain ⟨a1, r1, b1, m1, k1⟩ := x
  obtain ⟨a2, r2, b2, m2, k2⟩ := y
  have R : Reads h (.ref a) (.dict kvs) (a :: a1 ++ a2) := .dict L.get L.cls L.dat r1 r2
  have dp : (PyData.dict kvs).depth = PyData.depthKv kvs + 1 := by simp only [PyData.depth]
  have m : ReadAtMost h (PyData.depthKv kvs) (b1 ++ b2) := ReadAtMost.append (m1.mono (PyData.depthAll_keys_le kvs)) (m2.mono (PyData.depthAll_vals_le kvs))
  refine ⟨⟨_, R⟩, b1 ++ b2, m, off_of R dp m, ?_⟩
  rw [PyData.shownKv_eq]
  have j1 := ReprAllK.more_le (fun b z => List.mem_append_left b2 z) (PyData.depthAll_keys_le kvs) k1
  have j2 := ReprAllK.more_le (fun b z => List.mem_append_right b1 z) (PyData.depthAll_vals_le kvs) k2
  exact ReprEntriesK.of_two es.toList _ _ j1 j2
theorem shows_dict' {a : Addr} {es : Array DictEntry} {o : Obj} {n : Nat} {kvs : List (PyData × PyData)} (L : DictAt' h a es o n) (x : ShowsL prog w h (es.toList.map (·.key)) (kvs.map (·.1))) (y : ShowsL prog w h (es.toList.map (·.val)) (kvs.map (·.2))) :
    Shows prog w h (.ref a) (.dict kvs) := by
  obtain ⟨⟨as, R⟩, bs, m, na, k⟩ := shows_dict L x y
  have dp : (PyData.dict kvs).depth = PyData.depthKv kvs + 1 := by simp only [PyData.depth]
  refine ⟨as, R, a :: bs, ReadAtMost.cons R (by omega) m, ?_⟩
  rw [dp]
  simp only [PyData.shown]
  exact ReprK.dict L.get L.cls L.dat L.off na k
end

section
variable {X : Cx} {pins : List (Addr × Obj)} {σ : L2.St} {H : Hp} {s : Shared}
theorem key_shows {P : Program} {w : World} {h : Heap} (k : Key) (v : Value) (hk : (mixKind P w).is k v = true) (hs : (keyD k).showable = true) (hz : (keyD k).shown.length ≤ sizeLine) : Shows P w h v (keyD k) := by
  rcases keyIs_shape hk with ⟨i, t, e1, e2⟩ | ⟨x, t, e1, e2⟩
  · subst e1 e2
    refine shows_flat (.int i t) ?_
    simp only [keyD, PyData.shown]
    exact ReprIs.int t (by simpa [keyD, PyData.showable] using hs)
  · subst e1 e2
    refine shows_flat (.str x t) ?_
    simp only [keyD, PyData.shown]
    exact ReprIs.str x t (by simpa only [keyD, PyData.shown] using hz)
theorem lst_at (I : Inv X pins σ H s) {a : Addr} {xs : List V} (e : H a = some (.lst xs)) : ∃ us o n, ListAt s.heap a us o n ∧ Vals xs us := by
  obtain ⟨_, its, n, rv, g⟩ := (show ObjOk X.prog X.w H s.heap a (.lst xs) from I.hok a _ e)
  exact ⟨its, _, n, ⟨g, rfl, rfl⟩, rv⟩
theorem tup_at (I : Inv X pins σ H s) {a : Addr} {xs : List V} (e : H a = some (.tup xs)) : ∃ us o n, TupleAt s.heap a us o n ∧ Vals xs us := by
  obtain ⟨_, its, rv, o, g, c, n, dt⟩ := (show ObjOk X.prog X.w H s.heap a (.tup xs) from I.hok a _ e)
  exact ⟨its, o, n, ⟨g, c, dt⟩, rv⟩
theorem dct_at (I : Inv X pins σ H s) {a : Addr} {kvs : List (Key × V)} (e : H a = some (.dK kvs)) : ∃ vs es o n, DictAt' s.heap a es o n ∧ KV kvs vs ∧ Pairs (mixKind X.prog X.w) es.toList vs := by
  obtain ⟨_, off, vs, rel, o, es, n, g, c, dt, _, p, _⟩ := (show ObjOk X.prog X.w H s.heap a (.dK kvs) from I.hok a _ e)
  exact ⟨vs, es, o, n, ⟨g, c.1, dt, off⟩, rel, p⟩
mutual
theorem any_shows (I : Inv X pins σ H s) : ∀ (d : PyData) (v : V) (u : Value), Any H v d → RelV v u → d.showable = true → d.shown.length ≤ sizeLine → Shows X.prog X.w s.heap u d
  | .none, v, u, h, r, _, _ => by
    cases h
    cases (show u = Value.none from r)
    exact shows_flat .none (by simp only [PyData.shown]; exact ReprIs.none)
  | .bool b, v, u, h, r, _, _ => by
    cases h
    cases (show u = Value.bool b from r)
    exact shows_flat (.bool b) (by simp only [PyData.shown]; exact ReprIs.bool b)
  | .int i, v, u, h, r, sh, _ => by
    cases h
    obtain ⟨t, e⟩ := (show ∃ t, u = Value.int i t from r)
    rw [e]
    exact shows_flat (.int i t) (by simp only [PyData.shown]; exact ReprIs.int t (by simpa [PyData.showable] using sh))
  | .str x, v, u, h, r, _, sz => by
    cases h
    obtain ⟨t, e⟩ := (show ∃ t, u = Value.str x t from r)
    rw [e]
    exact shows_flat (.str x t) (by simp only [PyData.shown]; exact ReprIs.str x t (by simpa only [PyData.shown] using sz))
  | .list ds, v, u, h, r, sh, sz => by
    cases h with
    | lst ea ha =>
      rename_i a xs
      cases (show u = Value.ref a from r)
      obtain ⟨us, o, n, L, rv⟩ := lst_at I ea
      have z : (listText (PyData.shownAll ds)).length ≤ sizeLine := by simpa only [PyData.shown] using sz
      exact shows_list L (any_showsL I ds xs us ha rv (by simpa [PyData.showable] using sh) fun t ht => Nat.le_trans (listText_mem_le ht) z)
  | .tuple ds, v, u, h, r, sh, sz => by
    cases h with
    | tup ea ha =>
      rename_i a xs
      cases (show u = Value.ref a from r)
      obtain ⟨us, o, n, L, rv⟩ := tup_at I ea
      have z : (tupleText (PyData.shownAll ds)).length ≤ sizeLine := by simpa only [PyData.shown] using sz
      exact shows_tuple L (any_showsL I ds xs us ha rv (by simpa [PyData.showable] using sh) fun t ht => Nat.le_trans (tupleText_mem_le ht) z)
  | .dict ds, v, u, h, r, sh, sz => by
    cases h with
    | dct ea ha =>
      rename_i a kvs
      cases (show u = Value.ref a from r)
      obtain ⟨vs, es, o, n, L, rel, p⟩ := dct_at I ea
      have z : (dictText (PyData.shownKv ds)).length ≤ sizeLine := by simpa only [PyData.shown] using sz
      obtain ⟨x, y⟩ := any_showsK I ds kvs vs es.toList ha rel p (by simpa [PyData.showable] using sh) fun t ht => Nat.le_trans (dictText_mem_le ht) z
      exact shows_dict' L x y
theorem any_showsL (I : Inv X pins σ H s) : ∀ (ds : List PyData) (vs : List V) (us : List Value), AnyL H vs ds → Vals vs us → PyData.showableAll ds = true → (∀ t ∈ PyData.shownAll ds, t.length ≤ sizeLine) → ShowsL X.prog X.w s.heap us ds
  | [], vs, us, h, r, _, _ => by
    cases h
    cases r
    exact showsL_nil
  | d :: ds, vs, us, h, r, sh, sz => by
    have sh' : d.showable = true ∧ PyData.showableAll ds = true := by simpa [PyData.showableAll] using sh
    simp only [PyData.shownAll] at sz
    cases h with
    | cons h1 h2 =>
      cases r with
      | cons r1 r2 => exact showsL_cons (any_shows I d _ _ h1 r1 sh'.1 (sz _ List.mem_cons_self)) (any_showsL I ds _ _ h2 r2 sh'.2 fun t ht => sz t (List.mem_cons_of_mem _ ht))
theorem any_showsK (I : Inv X pins σ H s) : ∀ (ds : List (PyData × PyData)) (kvs : List (Key × V)) (us : List (Key × Value)) (es : List DictEntry), AnyK H kvs ds → KV kvs us → Pairs (mixKind X.prog X.w) es us → PyData.showableKv ds = true →
    (∀ t ∈ PyData.shownKv ds, t.length ≤ sizeLine) → ShowsL X.prog X.w s.heap (es.map (·.key)) (ds.map (·.1)) ∧ ShowsL X.prog X.w s.heap (es.map (·.val)) (ds.map (·.2))
  | [], vs, us, es, h, r, p, _, _ => by
    cases h
    cases r
    cases p
    exact ⟨showsL_nil, showsL_nil⟩
  | (kd, d) :: ds, vs, us, es, h, r, p, sh, sz => by
    have sh' : (kd.showable = true ∧ d.showable = true) ∧ PyData.showableKv ds = true := by simpa [PyData.showableKv] using sh
    simp only [PyData.shownKv] at sz
    have top := sz _ List.mem_cons_self
    rw [strLen_append, strLen_append] at top
    cases h with
    | cons h1 h2 =>
      cases r with
      | cons r1 r2 =>
        rename_i k v vs' q us'
        obtain ⟨kq, uq⟩ := q
        obtain ⟨ek, r1⟩ := r1
        cases (show k = kq from ek)
        cases p with
        | cons hk hv hp =>
          obtain ⟨x, y⟩ := any_showsK I ds _ _ _ h2 r2 hp sh'.2 fun t ht => sz t (List.mem_cons_of_mem _ ht)
          refine ⟨showsL_cons (key_shows k _ hk sh'.1.1 (by omega)) x, ?_⟩
          have e := any_shows I d _ _ h1 r1 sh'.1.2 (by omega)
          rw [← hv] at e
          exact showsL_cons e y
end
/-- repr of data that lies at an address -/
def rRepr : List V → Hp → VK → Prop := fun xs H Q => ∃ (a : Addr) (d : PyData), xs = [.ref a] ∧ Any H (.ref a) d ∧ d.showable = true ∧ d.depth ≤ 60 ∧ d.shown.length ≤ sizeLine ∧ Q (.str d.shown) H
theorem call_repr (gu : X.A.guards = some []) (hu : X.A.units + 64 < cLine) : CallR X (.builtin "repr") rRepr := by
  intro pins s σ H xs us Q I r h
  obtain ⟨a, d, e, an, sh, dp, sz, q⟩ := h
  subst e
  obtain ⟨u, e, ru⟩ := vals1 r
  subst e
  cases (show u = Value.ref a from ru)
  have fin : ∀ h' u tk, (∀ b o, s.heap.get? b = some o → h'.get? b = some o) → EP X pins σ Q (.str d.shown u) { s with heap := h', toks := tk } := fun h' t tk keep => ⟨V.str d.shown, H, Inv.kept I keep, ⟨t, rfl⟩, q⟩
  have gu1 : X.A.in1.guards = some [] := gu
  have un1 : X.A.in1.units = X.A.units + 1 := rfl
  cases an with
  | lst ea ha =>
    rename_i xs ds
    obtain ⟨us, o, n, L, rv⟩ := lst_at I ea
    have z : (listText (PyData.shownAll ds)).length ≤ sizeLine := by simpa only [PyData.shown] using sz
    have D : (PyData.list ds).depth = PyData.depthAll ds + 1 := by simp only [PyData.depth]
    obtain ⟨as, rd, bs, m, k⟩ := any_showsL I ds xs us ha rv (by simpa [PyData.showable] using sh) fun t ht => Nat.le_trans (listText_mem_le ht) z
    have ty : s.TypeIs (.ref a) "list" := ⟨o, L.get, L.cls⟩
    refine call_repr_slot (by omega) ty F.slot_list_repr.toG ?_
    simp only [PyData.shown] at fin
    cases us with
    | nil =>
      cases rd
      simp only [PyData.shownAll, listText_nil] at fin
      exact call_list_repr_empty ty L.get L.dat ⟨_, _, rfl, fin s.heap _ _ fun _ _ z => z⟩
    | cons u us => exact call_list_reprK L.get L.cls L.dat (off_of (list_reads L rd) D m) (by simpa using k.length_eq) (fun i y e => k.item i y (by simpa using e)) gu1 (fun b _ => Clear.nil b) (by omega) (fun _ _ z => z) (fun h' t tk keep => ⟨_, _, rfl, fin h' t tk keep⟩) z
  | tup ea ha =>
    rename_i xs ds
    obtain ⟨us, o, n, L, rv⟩ := tup_at I ea
    have z : (tupleText (PyData.shownAll ds)).length ≤ sizeLine := by simpa only [PyData.shown] using sz
    have D : (PyData.tuple ds).depth = PyData.depthAll ds + 1 := by simp only [PyData.depth]
    obtain ⟨as, rd, bs, m, k⟩ := any_showsL I ds xs us ha rv (by simpa [PyData.showable] using sh) fun t ht => Nat.le_trans (tupleText_mem_le ht) z
    refine call_repr_slot (by omega) ⟨o, L.get, L.cls⟩ F.slot_tuple_repr ?_
    simp only [PyData.shown] at fin
    exact call_tuple_reprK L.get L.cls L.dat (off_of (tuple_reads L rd) D m) k gu1 (fun b _ => Clear.nil b) (by omega) (fun _ _ z => z) (fun h' t tk keep => ⟨_, _, rfl, fin h' t tk keep⟩) z
  | dct ea ha =>
    rename_i kvs ds
    obtain ⟨vs, es, o, n, L, rel, p⟩ := dct_at I ea
    have z : (dictText (PyData.shownKv ds)).length ≤ sizeLine := by simpa only [PyData.shown] using sz
    have D : (PyData.dict ds).depth = PyData.depthKv ds + 1 := by simp only [PyData.depth]
    obtain ⟨x, y⟩ := any_showsK I ds kvs vs es.toList ha rel p (by simpa [PyData.showable] using sh) fun t ht => Nat.le_trans (dictText_mem_le ht) z
    obtain ⟨_, bs, m, na, k⟩ := shows_dict L x y
    refine call_repr_slot (by omega) ⟨o, L.get, L.cls⟩ F.slot_dict_repr ?_
    simp only [PyData.shown] at fin
    exact call_dict_reprK L.get L.cls L.dat L.off na k gu1 (fun b _ => Clear.nil b) (by omega) (fun _ _ z => z) (fun h' t tk keep => ⟨_, _, rfl, fin h' t tk keep⟩) z
/-- repr of a truth value -/
def boolS (b : Bool) : Str := if b then "True" else "False"
theorem call_reprB : CallR X (.builtin "repr") (fun xs H Q => ∃ b, xs = [.bl b] ∧ Q (.str (boolS b)) H) := by
  intro pins s σ H xs us Q I r h
  obtain ⟨b, e, q⟩ := h
  subst e
  obtain ⟨u, e, ru⟩ := vals1 r
  subst e
  cases (show u = Value.bool b from ru)
  exact PySem.P.repr_of_bool ⟨V.str (boolS b), H, I.tok _, ⟨_, rfl⟩, q⟩
end
end Rw

set_option Elab.async false
set_option linter.all false
set_option maxRecDepth 100000
set_option maxHeartbeats 4000000
/-! TkD: try with several except clauses, each with a name or without. -/
namespace Rw
open PySem PySem.Spec PyProof.Rows L2

/-- a clause: its class, the slot of its name, its suite -/
structure Cl where
  c : Value
  slot : Option Nat
  ts : Addr → Value → Option Addr → TS
/-- the suite with the error at a, its name bound ahead of it and gone behind it -/
def Cl.run (q : Cl) (a : Addr) (cls : Value) (d : Option Addr) : TS := fun D σ H => match q.slot with
  | none => q.ts a cls d D σ H
  | some i => q.ts a cls d { nx := fun τ J => D.nx (τ.set i none) J, rt := D.rt, bk := fun τ J => D.bk (τ.set i none) J, ct := fun τ J => D.ct (τ.set i none) J } (σ.set i (some (.ref a))) H
/-- what the clauses wish of an error -/
def wCls (K : PySem.W.Frag) (Wo : WX) (D : Ends) : List Cl → WX
  | [] => Wo
  | q :: r => fun cls d σ H => ∃ b, PySem.W.exmOne K cls q.c = some b ∧ (b = true → ∀ a, H a = none → q.run a cls d D σ H) ∧ (b = false → wCls K Wo D r cls d σ H)
def SuiteOk (X : Cx) (sts : List Stmt) (ts : Addr → Value → Option Addr → TS) : Prop :=
  ∀ (a : Addr) (oe : Obj) (cls : Value) (d : Option Addr) (pn : List (Addr × Obj)), Zc cls d oe → (∃ vs, oe.data = .fields vs) → PSs (X.suite a ((a, oe) :: pn)) sts (ts a cls d)
inductive ClsOk (X : Cx) : List ExceptHandler → List Cl → Prop
  | nil : ClsOk X [] []
  | anon {x : Str} {c : Value} {ts : Addr → Value → Option Addr → TS} {st : Stmt} {sts : List Stmt} {np hp : Pos} {hs : List ExceptHandler} {l : List Cl} (hc : Names X x c) (ok : SuiteOk X (st :: sts) ts) (r : ClsOk X hs l) :
      ClsOk X (.ExceptHandler (some (.Name x np)) none (st :: sts) hp :: hs) (⟨c, none, ts⟩ :: l)
  | as {x n : Str} {i : Nat} {c : Value} {ts : Addr → Value → Option Addr → TS} {st : Stmt} {sts : List Stmt} {np hp : Pos} {hs : List ExceptHandler} {l : List Cl} (hi : X.N[i]? = some n) (hl : X.env.kindOf n = some .local) (hc : Names X x c)
      (ok : SuiteOk X (st :: sts) ts) (r : ClsOk X hs l) : ClsOk X (.ExceptHandler (some (.Name x np)) (some n) (st :: sts) hp :: hs) (⟨c, some i, ts⟩ :: l)

section
variable {X : Cx}
/-- what stands when an error has landed in this frame -/
structure Down (X : Cx) (B : Heap) (pins : List (Addr × Obj)) (σ : L2.St) (H : Hp) (a : Addr) (cls : Value) (d : Option Addr) (sI s : Shared) : Prop where
  inv : Inv X pins σ H sI
  nb : ∀ b o, sI.heap.get? b = some o → b ∉ frs X.stack → B.get? b = some o
  os : s.os = sI.os
  ag : AllBare s.gens
  free : H a = none
  up : sI.heap.UpToSlots s.heap
  fly : HandSPX.FlyingZ B (X.env :: X.outer) a (Zc cls d) s.heap
theorem Down.goes {B : Heap} {pins : List (Addr × Obj)} {σ : L2.St} {H : Hp} {a : Addr} {cls : Value} {d : Option Addr} {sI s : Shared} (W : Down X B pins σ H a cls d sI s) : Inv X pins σ H s :=
  Inv.landed W.inv W.nb W.fly.1 W.up W.os W.ag
theorem Down.more {B : Heap} {pins : List (Addr × Obj)} {σ : L2.St} {H : Hp} {a : Addr} {cls : Value} {d : Option Addr} {sI s : Shared} {h : Heap} (W : Down X B pins σ H a cls d sI s)
    (fl : HandSPX.FlyingZ B (X.env :: X.outer) a (Zc cls d) h) (u : s.heap.UpToSlots h) : Down X B pins σ H a cls d sI { s with heap := h } :=
  ⟨W.inv, W.nb, W.os, W.ag, W.free, Heap.UpToSlots.trans W.up u, fl⟩
/-- the error's own object: none of the frames -/
theorem Down.off {B : Heap} {pins : List (Addr × Obj)} {σ : L2.St} {H : Hp} {a : Addr} {cls : Value} {d : Option Addr} {sI s : Shared} (W : Down X B pins σ H a cls d sI s) (hf : X.env.frame = some X.env.locals) :
    a ≠ X.env.locals ∧ a ∉ X.fs := by
  obtain ⟨oe, vs, he, _, hd⟩ := W.fly.there
  have no : a ∉ frs (X.env :: X.outer) := fun hm => by
    obtain ⟨_, o, e, nf⟩ := Heap.FunFrames.mem W.fly.2.2.1 hm
    rw [he] at e
    cases e
    exact nf vs hd
  constructor
  · intro z
    exact no (List.mem_filterMap.mpr ⟨X.env, List.mem_cons_self, hf.trans (congrArg some z.symm)⟩)
  · intro hm
    obtain ⟨e, he, q⟩ := List.mem_filterMap.mp hm
    exact no (List.mem_filterMap.mpr ⟨e, List.mem_cons_of_mem X.env he, q⟩)
/-- in the suite -/
theorem Down.suite {B : Heap} {pins : List (Addr × Obj)} {σ : L2.St} {H : Hp} {a : Addr} {cls : Value} {d : Option Addr} {sI s : Shared} (W : Down X B pins σ H a cls d sI s) (hf : X.env.frame = some X.env.locals) :
    ∃ oe : Obj, s.heap.get? a = some oe ∧ Zc cls d oe ∧ (∃ vs, oe.data = .fields vs) ∧ Inv (X.suite a ((a, oe) :: (X.pn ++ pins))) [] σ H s := by
  obtain ⟨oe, vs, he, hz, hd⟩ := W.fly.there
  obtain ⟨n1, n2⟩ := W.off hf
  exact ⟨oe, he, hz, ⟨vs, hd⟩, Inv.suite W.goes he hd W.free n1 n2⟩

/-- the class of a clause is looked up, and asked -/
theorem Down.asks {B : Heap} {pins : List (Addr × Obj)} {σ : L2.St} {H : Hp} {a : Addr} {cls c : Value} {d : Option Addr} {sI s : Shared} {x : Str} {np : Pos} {b : Bool} {E : Value → Shared → Prop} {Q : Bool → Shared → Prop}
    (W : Down X B pins σ H a cls d sI s) (hf : X.env.frame = some X.env.locals) (hc : Names X x c) (hb : PySem.W.exmOne X.K cls c = some b) (q : Q b s) :
    wpAny (model X.prog X.w) (X.A.mark (some (.ref a))) (eval (.Name x np) X.env) (fun v s' => v = c ∧ s' = s) E s := by
  obtain ⟨oe, he, hz, _, S⟩ := W.suite hf
  obtain ⟨hg, hdbg, hm⟩ := hc
  rcases hm with hm | ⟨hm, hv, hn⟩
  · exact ld_glob (X := X.suite a ((a, oe) :: (X.pn ++ pins))) S hg hm ⟨rfl, rfl⟩ hdbg
  · exact ld_blt (X := X.suite a ((a, oe) :: (X.pn ++ pins))) S hg hm hv ⟨rfl, rfl⟩ hn hdbg

/-- the clauses, one after the other -/
theorem Down.clauses {B : Heap} {pins : List (Addr × Obj)} {σ : L2.St} {H : Hp} {a : Addr} {cls : Value} {d : Option Addr} {sI : Shared} {Wo : WX} {D : Ends} (hs : X.stack = X.env :: X.outer) (hf : X.env.frame = some X.env.locals) (hN : X.N.Nodup) (tk : Takes X Wo) :
    ∀ {hds : List ExceptHandler} {l : List Cl}, ClsOk X hds l → ∀ {s : Shared}, Down X B pins σ H a cls d sI s → wCls X.K Wo D l cls d σ H → wpAny (model X.prog X.w) X.A (handleBy (.ref a) X.env hds) (SP X pins D) X.xe s := by
  intro hds l hk
  induction hk with
  | nil =>
    intro s W wish
    refine wpAny_handleBy_nil ?_
    obtain ⟨_, _, _, oe, vs, T, oT, ts, he, hz, hd, h1, hr⟩ := id W.fly
    have nT : ¬ ((Value.ref T == Value.none) = true) := by simp
    unfold PySem.passOn
    refine wpAny_bind (wpAny_field he hd h1 ?_)
    rw [if_neg nT]
    have out : wpAny (model X.prog X.w) X.A (setFlight (.ref a) X.env.frame) (fun _ s4 => wpAny (model X.prog X.w) X.A (throw (.ref a) : Sem Flow) (SP X pins D) X.xe s4) X.xe s := by
      rw [hf]
      refine HandSPX.setFlight_upZ W.fly ?_
      intro h4 hh4 up4
      refine wpAny_throw (tk (.ref a) _ ⟨a, B, sI, pins, σ, H, cls, d, rfl, W.inv, W.nb, W.up.trans up4, ?_, W.free, W.os, W.ag, wish⟩)
      rw [hs]
      exact Or.inr (Or.inr hh4)
    first
      | exact wpAny_bind (wpAny_pure (wpAny_bind out))
      | exact wpAny_bind out
  | @anon x c ts st sts np hp hs' l' hc ok r ih =>
    intro s W wish
    obtain ⟨b, hb, yes, no⟩ := wish
    refine wpAny_handleBy_cons (codeAny_handlers_test ?_) (fun q => nomatch q)
    refine wpAny_mono (W.asks (E := fun _ _ => False) (Q := fun _ _ => True) hf hc hb True.intro) ?_ (fun _ _ z => z.elim)
    rintro v s' ⟨rfl, rfl⟩
    obtain ⟨oe, he, hz, hd, S⟩ := W.suite hf
    have LT : PySem.W.Looks (model X.prog X.w) s'.heap (typeOf (.ref a)) cls := fun A Q E s2 k q => wpAny_typeOf_ref (k a oe he) (by rw [hz.1]; exact q)
    refine (PySem.W.exm_one (M := model X.prog X.w) S.kIn LT hb).here ?_
    cases b with
    | false => exact ih W (no rfl)
    | true =>
      refine codeAny_handlers_suite (HandSPX.lands_againZ W.fly ?_)
      intro h4 fl4 up4
      obtain ⟨oe4, he4, hz4, hd4, S4⟩ := (W.more fl4 up4).suite hf
      refine wpAny_mono (PSs.run (ok a oe4 cls d (X.pn ++ pins) hz4 hd4) [] _ σ H D S4 (yes rfl a W.free)) ?_ (fun _ _ z => z.elim)
      intro fl s6 hsp
      have ok0 := W.inv.ok
      cases fl with
      | ret u =>
        obtain ⟨v6, σ6, H6, S6, r6, q6⟩ := hsp
        exact ⟨v6, σ6, H6, Inv.unsuite S6 ok0, r6, q6⟩
      | next =>
        obtain ⟨σ6, H6, S6, q6⟩ := hsp
        exact ⟨σ6, H6, Inv.unsuite S6 ok0, q6⟩
      | brk =>
        obtain ⟨σ6, H6, S6, q6⟩ := hsp
        exact ⟨σ6, H6, Inv.unsuite S6 ok0, q6⟩
      | cont =>
        obtain ⟨σ6, H6, S6, q6⟩ := hsp
        exact ⟨σ6, H6, Inv.unsuite S6 ok0, q6⟩
  | @as x n i c ts st sts np hp hs' l' hi hl hc ok r ih =>
    intro s W wish
    obtain ⟨b, hb, yes, no⟩ := wish
    refine wpAny_handleBy_cons (codeAny_handlers_test ?_) (fun q => nomatch q)
    refine wpAny_mono (W.asks (E := fun _ _ => False) (Q := fun _ _ => True) hf hc hb True.intro) ?_ (fun _ _ z => z.elim)
    rintro v s' ⟨rfl, rfl⟩
    obtain ⟨oe, he, hz, hd, S⟩ := W.suite hf
    have LT : PySem.W.Looks (model X.prog X.w) s'.heap (typeOf (.ref a)) cls := fun A Q E s2 k q => wpAny_typeOf_ref (k a oe he) (by rw [hz.1]; exact q)
    refine (PySem.W.exm_one (M := model X.prog X.w) S.kIn LT hb).here ?_
    cases b with
    | false => exact ih W (no rfl)
    | true =>
      refine codeAny_handlers_suite_as (HandSPX.lands_againZ W.fly ?_)
      intro h4 fl4 up4
      obtain ⟨oe4, he4, hz4, hd4, S4⟩ := (W.more fl4 up4).suite hf
      have ok0 := W.inv.ok
      refine store_ok (X := X.suite a ((a, oe4) :: (X.pn ++ pins))) (v := .ref a) S4 hN hi (Or.inl hl) rfl ?_ (Or.inr hl)
      intro s5 S5
      refine wpAny_mono (PSs.run (ok a oe4 cls d (X.pn ++ pins) hz4 hd4) [] s5 _ H _ S5 (yes rfl a W.free)) ?_ (fun _ _ z => z.elim)
      intro fl s6 hsp
      have gone : ∀ {τ : L2.St} {J : Hp} {Q : Shared → Prop}, Inv (X.suite a ((a, oe4) :: (X.pn ++ pins))) [] τ J s6 → (∀ s7, Inv X pins (τ.set i none) J s7 → Q s7) →
          wpAny (model X.prog X.w) X.A (do bindName X.env n .none; unbindBehindTheSuite X.env n hp) (fun _ s7 => Q s7) X.xe s6 := by
        intro τ J Q S6 hq
        exact gone_ok (Inv.unsuite S6 ok0) hN hi hl hq
      cases fl with
      | ret u =>
        obtain ⟨v6, σ6, H6, S6, r6, q6⟩ := hsp
        exact gone S6 (fun s7 J7 => ⟨v6, _, H6, J7, r6, q6⟩)
      | next =>
        obtain ⟨σ6, H6, S6, q6⟩ := hsp
        exact gone S6 (fun s7 J7 => ⟨_, H6, J7, q6⟩)
      | brk =>
        obtain ⟨σ6, H6, S6, q6⟩ := hsp
        exact gone S6 (fun s7 J7 => ⟨_, H6, J7, q6⟩)
      | cont =>
        obtain ⟨σ6, H6, S6, q6⟩ := hsp
        exact gone S6 (fun s7 J7 => ⟨_, H6, J7, q6⟩)

/-- try: body / except ..: .. / except ..: .. -/
theorem ps_tries {body : List Stmt} {h0 : ExceptHandler} {hds : List ExceptHandler} {l : List Cl} {pos : Pos} {tb : WX → TS} {Wo : WX} (hs : X.stack = X.env :: X.outer) (hf : X.env.frame = some X.env.locals) (hN : X.N.Nodup) (tk : Takes X Wo)
    (hb : ∀ (W : WX) (pn : List (Addr × Obj)) (xe : Value → Shared → Prop), Takes (X.tr pn xe) W → PassesOwn (model X.prog X.w) X.A X.env xe → PSs (X.tr pn xe) body (tb W)) (hh : ClsOk X (h0 :: hds) l) :
    PS X (.Try body (h0 :: hds) [] [] pos) (fun D σ H => tb (wCls X.K Wo D l) D σ H) := by
  constructor
  intro pins s σ H D I h
  have ok0 := I.ok
  have fr : X.A.frames = some (X.env :: X.outer) := (Cx.Ok.frames ok0).trans (congrArg some hs)
  refine wpAny_Try_except ?_
  have land : ∀ (u : Value) (s' : Shared), XE (X.tr (X.pn ++ pins) (fun e s₁ => wpAny (model X.prog X.w) X.A (noteFrame e X.env) (fun _ s₂ => wpAny (model X.prog X.w) X.A (setFlight e none) (fun _ s₃ =>
      wpAny (model X.prog X.w) X.A (handleBy e X.env (h0 :: hds)) (SP X pins D) X.xe s₃) X.xe s₂) X.xe s₁)) (wCls X.K Wo D l) u s' →
      wpAny (model X.prog X.w) X.A (noteFrame u X.env) (fun _ s₂ => wpAny (model X.prog X.w) X.A (setFlight u none) (fun _ s₃ => wpAny (model X.prog X.w) X.A (handleBy u X.env (h0 :: hds)) (SP X pins D) X.xe s₃) X.xe s₂) X.xe s' := by
    intro u s' xx
    obtain ⟨a, B, sI, pins', τ, J, cls, d, eu, I', nb, up, sky, na, os, ag, wish⟩ := xx
    subst eu
    have sky2 : Sky B (X.env :: X.outer) a (Zc cls d) X.env.locals s'.heap := hs ▸ sky
    refine Sky.land Zc.steady fr hf sky2 ?_
    intro h3 fl3 up3
    exact Down.clauses hs hf hN tk hh ⟨Inv.ofTry I' ok0, nb, os, ag, na, up.trans up3, fl3⟩ wish
  refine wpAny_mono (PSs.run (hb (wCls X.K Wo D l) (X.pn ++ pins) _ land PassesOwn.looking) [] s σ H D (Inv.toTry I _) h) ?_ (fun e s1 he => he)
  intro fl s1 hsp
  cases fl with
  | ret u =>
    obtain ⟨v, τ, J, I', r, q⟩ := hsp
    exact ⟨v, τ, J, Inv.ofTry I' ok0, r, q⟩
  | next =>
    obtain ⟨τ, J, I', q⟩ := hsp
    exact wpAny_execs_nil ⟨τ, J, Inv.ofTry I' ok0, q⟩
  | brk =>
    obtain ⟨τ, J, I', q⟩ := hsp
    exact ⟨τ, J, Inv.ofTry I' ok0, q⟩
  | cont =>
    obtain ⟨τ, J, I', q⟩ := hsp
    exact ⟨τ, J, Inv.ofTry I' ok0, q⟩
end
end Rw

set_option Elab.async false
set_option linter.all false
set_option maxRecDepth 100000
set_option maxHeartbeats 4000000
/-! TkE: own defs by name (Own, OwnG), own errors with one value (Err), data kept over heaps, the kinds of things. -/
namespace Rw
open PySem PySem.Spec PyProof.Rows L2

/-! ### a def by its name -/
/-- x names a def that keeps sp when it is called with all but the values dvs -/
structure Own (P : Program) (w : World) (K : PySem.W.Frag) (mg : Str → Option Value) (base : Heap) (CX : CXT) (k : Nat) (x : Str) (ps : List Str) (dvs : List V) (sp : Sp) : Prop where
  has : ∃ (f : Addr) (fd : FuncData) (ds : List Value), mg x = some (.ref f) ∧ PySem.W.keepIn K (.ref f) = true ∧ FnOk P w K mg base CX k f fd ps sp ∧ Binds K fd ps ds ∧ Vals dvs ds
structure OwnG (P : Program) (w : World) (K : PySem.W.Frag) (mg : Str → Option Value) (base : Heap) (CX : CXT) (k : Nat) (x : Str) (ps : List Str) (dvs : List V) (sp : Sp) : Prop where
  has : ∃ (f : Addr) (fd : FuncData) (ds : List Value), mg x = some (.ref f) ∧ PySem.W.keepIn K (.ref f) = true ∧ FnG P w K mg base CX k f fd ps sp ∧ Binds K fd ps ds ∧ Vals dvs ds
/-- where a def of the text stands behind the top -/
structure Df (K : PySem.W.Frag) (mg : Str → Option Value) (x : Str) (st : Stmt) (ps : List Str) : Prop where
  has : ∃ (f : Addr) (fd : FuncData), mg x = some (.ref f) ∧ Fun K x x st f fd ∧ Binds K fd ps []
section
variable {P : Program} {w : World} {K : PySem.W.Frag} {mg : Str → Option Value} {base : Heap} {CX : CXT} {k : Nat} {x : Str} {ps : List Str} {dvs : List V} {sp : Sp} {st : Stmt}
theorem Df.own (D : Df K mg x st ps) (h : ∀ (f : Addr) (fd : FuncData), Fun K x x st f fd → FnOk P w K mg base CX k f fd ps sp) : Own P w K mg base CX k x ps [] sp := by
  obtain ⟨f, fd, g, F, b⟩ := D.has
  exact ⟨f, fd, [], g, F.kp, h f fd F, b, .nil⟩
theorem Df.ownG (D : Df K mg x st ps) (h : ∀ (f : Addr) (fd : FuncData), Fun K x x st f fd → FnG P w K mg base CX k f fd ps sp) : OwnG P w K mg base CX k x ps [] sp := by
  obtain ⟨f, fd, g, F, b⟩ := D.has
  exact ⟨f, fd, [], g, F.kp, h f fd F, b, .nil⟩
end
section
variable {X : Cx} {CX : CXT} {k : Nat} {ps : List Str} {sp : Sp} {dvs : List V} {E : XK} {x : Str} {p pos : Pos} {e : Expr} {es : List Expr} {t : TA}
theorem pe_own (F : Own X.prog X.w X.K X.mg X.base CX k x ps dvs sp) (hr : Room k X.A) (hx : Passes CX X E) (ha : PA X (e :: es) t) (hg : Gl X x := by rfl) (hdb : (x == ("__debug__" : Str)) = false := by decide)
    (he : starEach (e :: es) X.env = (false, eval e X.env) :: starEach es X.env := by rfl) (hpl : (backTo pos (starEach es X.env)).any (·.1) = false := by rfl) : PE X (.Call (.Name x p) (e :: es) [] pos) (tCall sp dvs E t) := by
  obtain ⟨f, fd, ds, hm, hk, G, b, v⟩ := F.has
  exact pe_call G hr hg hm hk b v hx ha hdb he hpl
theorem pe_ownG (F : OwnG X.prog X.w X.K X.mg X.base CX k x ps dvs sp) (gu : X.A.guards = some []) (hr : Room k X.A) (hx : Passes CX X E) (ha : PA X (e :: es) t) (hg : Gl X x := by rfl) (hdb : (x == ("__debug__" : Str)) = false := by decide)
    (he : starEach (e :: es) X.env = (false, eval e X.env) :: starEach es X.env := by rfl) (hpl : (backTo pos (starEach es X.env)).any (·.1) = false := by rfl) : PE X (.Call (.Name x p) (e :: es) [] pos) (tCall sp dvs E t) := by
  obtain ⟨f, fd, ds, hm, hk, G, b, v⟩ := F.has
  exact pe_callG G gu hr hg hm hk b v hx ha hdb he hpl
/-- such a call in a try's body: what is raised is wished for at the slots -/
def tOwnS (sp : Sp) (dvs : List V) (W : WX) (t : TA) : TE := fun σ H Q => t σ H fun vs H1 => sp (vs ++ dvs) H1 Q (fun cls d H' => W cls d σ H')
theorem pe_ownS {W : WX} (F : Own X.prog X.w X.K X.mg X.base CX k x ps dvs sp) (hr : Room k X.A) (hx : ∀ σ, PassesAt CX X σ (fun cls d H' => W cls d σ H')) (ha : PA X (e :: es) t) (hg : Gl X x := by rfl) (hdb : (x == ("__debug__" : Str)) = false := by decide)
    (he : starEach (e :: es) X.env = (false, eval e X.env) :: starEach es X.env := by rfl) (hpl : (backTo pos (starEach es X.env)).any (·.1) = false := by rfl) : PE X (.Call (.Name x p) (e :: es) [] pos) (tOwnS sp dvs W t) := by
  obtain ⟨f, fd, ds, hm, hk, G, b, v⟩ := F.has
  constructor
  intro pins s σ H Q I h
  refine wpAny_Call_Name_kw (ld_glob I hg hm ?_ hdb)
  refine PySem.W.callWith_K (h₀ := X.base) I.ok.mod.kin hk ?_ he hpl
  refine thn (PA.run ha pos pins s σ H _ I h) ?_
  intro us s1 hh
  obtain ⟨vs, H1, I1, r, q⟩ := hh
  refine ⟨I1.kIn, ?_⟩
  have r2 : Vals (vs ++ dvs) (us ++ ds) := Vals.append r v
  have cnt : (us ++ ds).length = ps.length := (r2.length).symm.trans (G.len _ _ _ _ q)
  refine wpAny_call (codeAny_mono (G.run X.A X.stack s1 H1 ⟨us, []⟩ (us ++ ds) (vs ++ dvs) Q _ hr I1.env0 (b s1 us I1.kIn cnt) r2 q) ?_)
  intro res s2 hq
  cases res with
  | error er => exact hx σ pins H1 s1 er s2 I1 hq
  | ok fl =>
    cases fl with
    | ret u => exact Inv.after I1 hq
    | next => exact hq.elim
    | brk => exact hq.elim
    | cont => exact hq.elim
end

/-! ### own errors: a class with __init__(self, value): self.value = value -/
/-- x names such a class, at C -/
structure Err (K : PySem.W.Frag) (mg : Str → Option Value) (x : Str) (C : Addr) : Prop where
  g : mg x = some (.ref C)
  ox : OexC K C
  xf : XfC K C
  no : PySem.W.findIn K (.ref C) "value" = some none
  ini : ∃ (f : Addr) (q : Str) (st : Stmt) (fd : FuncData), PySem.W.findIn K (.ref C) "__init__" = some (some (.ref f)) ∧ PySem.W.typeIn K (.ref f) = some (.type "function") ∧ Fun K "__init__" q st f fd ∧ Binds K fd ["self", "value"] [] ∧
    FnScope ["self", "value"] ["self", "value"] (defScope st) ∧
    (∀ X : Cx, X.N = (["self", "value"] : List Str) → X.env.scope = defScope st → ∃ t : TS, PSs X (defBody st) t ∧ (∀ D σ H, tOst X.K "value" (tVar 0) (tVar 1) D σ H → t D σ H))
/-- an error of the class at C with the value v is let out, all else as it was -/
def Thrown (C : Addr) (v : V) (H : Hp) (E : XK) : Prop := ∀ (d : Addr) (H' : Hp), Same H H' → H d = none → H' d = some (.xd [(("value" : Str), v)]) → E (.ref C) (some d) H'
def spIni (K : PySem.W.Frag) (C : Addr) : Sp := fun vs H Q _ => ∃ (a : Addr) (v : V), vs = [.ref a, v] ∧ H a = some (exo a C none) ∧ ∀ dx, H dx = none → dx ≠ a → Q .non (upd (upd H dx (exd dx [(("value" : Str), v)])) a (exo a C (some dx)))
section
variable {P : Program} {w : World} {K : PySem.W.Frag} {mg : Str → Option Value} {base : Heap}
theorem Err.init {x : Str} {C : Addr} (T : Err K mg x C) : ∃ (f : Addr) (fd : FuncData), PySem.W.findIn K (.ref C) "__init__" = some (some (.ref f)) ∧ PySem.W.typeIn K (.ref f) = some (.type "function") ∧ Binds K fd ["self", "value"] [] ∧
    FnOk P w K mg base CX0 1 f fd ["self", "value"] (spIni K C) := by
  obtain ⟨f, q, st, fd, h1, h2, F, b, S, dv⟩ := T.ini
  refine ⟨f, fd, h1, h2, b, F.ok S (fun vs H Q E h => ?_) (fun cdv A outer s H vs Q E hr h => ?_)⟩
  · obtain ⟨a, v, e, _⟩ := h
    rw [e]
    rfl
  · obtain ⟨a, v, e, ea, k⟩ := h
    subst e
    obtain ⟨t, d, go⟩ := dv (cxOf CX0 P w K mg base ["self", "value"] q (defScope st) f cdv A outer s H E).nox rfl rfl
    refine ⟨t, d, go _ _ _ ?_⟩
    exact ⟨v, rfl, .ref a, rfl, a, C, rfl, T.ox, T.no, Or.inl ⟨ea, k⟩⟩
end
section
variable {X : Cx} {x : Str} {C : Addr} {e : Expr} {te : TE} {p pos pos2 : Pos} {W : WX}
/-- raise x(e) -/
def tThrow (K : PySem.W.Frag) (C : Addr) (W : WX) (te : TE) : TS := fun _ σ H => tMkO C (spIni K C) [] (tCons te tNil) σ H fun cls d H' => W cls d σ H'
theorem ps_throw (T : Err X.K X.mg x C) (hc : X.calm = true) (hr : Room 2 X.A) (tk : Takes X W) (he : PE X e te) (hg : Gl X x := by rfl) (hdb : (x == ("__debug__" : Str)) = false := by decide)
    (hs : starEach (e :: []) X.env = (false, eval e X.env) :: starEach [] X.env := by rfl) (hpl : (backTo pos (starEach [] X.env)).any (·.1) = false := by rfl) :
    PS X (.Raise (some (.Call (.Name x p) [e] [] pos)) none pos2) (tThrow X.K C W te) := by
  obtain ⟨f, fd, h1, h2, b, F⟩ := T.init (P := X.prog) (w := X.w) (base := X.base)
  exact ps_raise (pos := pos2) hc tk (pmk_oex (x := x) (p := p) (pos := pos) (dvs := []) (ds := []) T.ox h1 h2 F hr b .nil pass0 hg T.g (pa_cons he pa_nil hs) hdb hs hpl)
/-- what the reading of a raise asks, from Thrown -/
theorem thrown_go {K : PySem.W.Frag} {H : Hp} {E : XK} {v : V} (h : Thrown C v H E) : [v].length ≤ 1000 ∧ ∀ a, H a = none → spIni K C (.ref a :: ([v] ++ [])) (upd H a (exo a C none))
    (fun u H2 => u = .non ∧ ∃ (d : Addr) (fs : List (Str × V)), H2 a = some (exo a C (some d)) ∧ H2 d = some (exd d fs) ∧ H d = none ∧ E (.ref C) (some d) (upd (del H2 a) d (.xd fs))) (fun _ _ _ => False) := by
  refine ⟨by show 1 ≤ 1000; decide, fun a ha => ⟨a, v, rfl, upd_same, fun dx hd ne => ⟨rfl, dx, _, upd_same, by rw [upd_ne ne, upd_same], ?_, ?_⟩⟩⟩
  · rw [upd_ne ne] at hd
    exact hd
  · rw [upd_ne ne] at hd
    refine h dx _ (fun b o e => ?_) hd upd_same
    rw [upd_ne (ne_of_none e hd), del_ne (ne_of_none e ha), upd_ne (ne_of_none e ha), upd_ne (ne_of_none e hd), upd_ne (ne_of_none e ha)]
    exact e
end
end Rw

set_option Elab.async false
set_option linter.all false
set_option maxRecDepth 100000
set_option maxHeartbeats 4000000
/-! TkF: the kinds of data, what data is kept over heaps, numbers among the primes. -/
namespace Rw
open PySem PySem.Spec PyProof.Rows L2

/-! ### kinds -/
def kindS : PyData → String
  | .none => "NoneType" | .bool _ => "bool" | .int _ => "int" | .str _ => "str" | .list _ => "list" | .tuple _ => "tuple" | .dict _ => "dict"
def intish : PyData → Bool
  | .int _ => true | .bool _ => true | _ => false
def boolish : PyData → Bool
  | .bool _ => true | _ => false
def isIntD : PyData → Bool
  | .int _ => true | _ => false
section
variable {K : PySem.W.Frag} {H H' : Hp} {v : V} {d : PyData}
theorem any_ty (h : Any H v d) : TyX K H v (.type (kindS d)) := by
  cases h with
  | non => exact .base .non
  | bl b => exact .base (.bl b)
  | int i => exact .base (.int i)
  | str x => exact .base (.str x)
  | lst e _ => exact .base (.lst e)
  | tup e _ => exact .base (.tup e)
  | dct e _ => exact .base (.dK e)
theorem kit_int (d : PyData) : PySem.W.kitOne K (.type (kindS d)) (.type "int") = some (intish d) := by
  cases d with
  | none => exact kit_ty (show kitB "NoneType" "int" = some false by decide +kernel)
  | bool b => exact kit_ty (show kitB "bool" "int" = some true by decide +kernel)
  | int i => exact kit_ty (show kitB "int" "int" = some true by decide +kernel)
  | str x => exact kit_ty (show kitB "str" "int" = some false by decide +kernel)
  | list xs => exact kit_ty (show kitB "list" "int" = some false by decide +kernel)
  | tuple xs => exact kit_ty (show kitB "tuple" "int" = some false by decide +kernel)
  | dict kvs => exact kit_ty (show kitB "dict" "int" = some false by decide +kernel)
theorem kit_bool (d : PyData) : PySem.W.kitOne K (.type (kindS d)) (.type "bool") = some (boolish d) := by
  cases d with
  | none => exact kit_ty (show kitB "NoneType" "bool" = some false by decide +kernel)
  | bool b => exact kit_ty (show kitB "bool" "bool" = some true by decide +kernel)
  | int i => exact kit_ty (show kitB "int" "bool" = some false by decide +kernel)
  | str x => exact kit_ty (show kitB "str" "bool" = some false by decide +kernel)
  | list xs => exact kit_ty (show kitB "list" "bool" = some false by decide +kernel)
  | tuple xs => exact kit_ty (show kitB "tuple" "bool" = some false by decide +kernel)
  | dict kvs => exact kit_ty (show kitB "dict" "bool" = some false by decide +kernel)
theorem int_of (h : Any H v d) (e : isIntD d = true) : ∃ n, d = .int n ∧ v = .int n := by
  cases h with
  | int i => exact ⟨i, rfl, rfl⟩
  | _ => cases e
mutual
theorem any_keep (k : Same H H') : ∀ (d : PyData) (v : V), Any H v d → Any H' v d
  | .none, _, h => by
    cases h
    exact .non
  | .bool b, _, h => by
    cases h
    exact .bl b
  | .int i, _, h => by
    cases h
    exact .int i
  | .str x, _, h => by
    cases h
    exact .str x
  | .list ds, _, h => by
    cases h with
    | lst e a => exact .lst (k _ _ e) (any_keepL k ds _ a)
  | .tuple ds, _, h => by
    cases h with
    | tup e a => exact .tup (k _ _ e) (any_keepL k ds _ a)
  | .dict ds, _, h => by
    cases h with
    | dct e a => exact .dct (k _ _ e) (any_keepK k ds _ a)
theorem any_keepL (k : Same H H') : ∀ (ds : List PyData) (vs : List V), AnyL H vs ds → AnyL H' vs ds
  | [], _, h => by
    cases h
    exact .nil
  | d :: ds, _, h => by
    cases h with
    | cons a b => exact .cons (any_keep k d _ a) (any_keepL k ds _ b)
theorem any_keepK (k : Same H H') : ∀ (ds : List (PyData × PyData)) (vs : List (Key × V)), AnyK H vs ds → AnyK H' vs ds
  | [], _, h => by
    cases h
    exact .nil
  | (_, d) :: ds, _, h => by
    cases h with
    | cons a b => exact .cons (any_keep k d _ a) (any_keepK k ds _ b)
end
theorem Any.keep (h : Any H v d) (k : Same H H') : Any H' v d := any_keep k d v h
end

/-! ### all but one object -/
/-- what was tracked but at p is as it was -/
def Grow (p : Addr) (H H' : Hp) : Prop := ∀ b o, b ≠ p → H b = some o → H' b = some o
theorem Grow.refl {p : Addr} {H : Hp} : Grow p H H := fun _ _ _ e => e
theorem Grow.trans {p : Addr} {H H1 H2 : Hp} (a : Grow p H H1) (b : Grow p H1 H2) : Grow p H H2 := fun c o n e => b c o n (a c o n e)
theorem Grow.of {p : Addr} {H H' : Hp} (a : Same H H') : Grow p H H' := fun c o _ e => a c o e
theorem Grow.put {p : Addr} {H : Hp} {o : HO} : Grow p H (upd H p o) := fun c u n e => by
  rw [upd_ne n]
  exact e
theorem Grow.del {p : Addr} {H H' : Hp} (a : Grow p H H') : Same (del H p) (del H' p) := fun c o e => by
  by_cases z : c = p
  · rw [z, del_same] at e
    cases e
  · rw [del_ne z] at e
    rw [del_ne z]
    exact a c o z e
theorem same_del {p : Addr} {H : Hp} : Same (del H p) H := fun c o e => by
  by_cases z : c = p
  · rw [z, del_same] at e
    cases e
  · rw [del_ne z] at e
    exact e
theorem same_new {p : Addr} {H : Hp} {o : HO} (h : H p = none) : Same H (upd H p o) := fun c u e => by
  rw [upd_ne (ne_of_none e h)]
  exact e
theorem del_new {p q : Addr} {H : Hp} {o : HO} (h : H q = none) : Same (del H p) (del (upd H q o) p) := Grow.del (Grow.of (same_new h))
theorem ne_new {H : Hp} {p q : Addr} {o : HO} (hp : H p = some o) (h : H q = none) : q ≠ p := (ne_of_none hp h).symm

/-! ### the primes -/
def primesL : List Int := [2, 3, 5, 7, 11, 13]
def isPr : PyData → Bool
  | .int n => decide (n ∈ primesL)
  | _ => false
theorem inV_ints (n : Int) : ∀ l : List Int, inV (.int n) (l.map V.int) = decide (n ∈ l)
  | [] => rfl
  | a :: l => by
    show (eqV (.int a) (.int n) || inV (.int n) (l.map V.int)) = _
    rw [inV_ints n l]
    show ((a == n) || decide (n ∈ l)) = _
    by_cases h : a = n
    · subst h
      simp
    · have h2 : ¬ n = a := fun z => h z.symm
      simp [h, h2]
theorem flat_ints : ∀ l : List Int, (l.map V.int).all flatV = true
  | [] => rfl
  | a :: l => by
    show (true && (l.map V.int).all flatV) = true
    rw [flat_ints l] <;> rfl
theorem prime_cases {p : Int} (h : p ∈ primesL) : p = 2 ∨ p = 3 ∨ p = 5 ∨ p = 7 ∨ p = 11 ∨ p = 13 := by
  simpa [primesL] using h
theorem prime_pos {p : Int} (h : p ∈ primesL) : 2 ≤ p ∧ p ≤ 13 := by
  rcases prime_cases h with e | e | e | e | e | e <;> omega
/-- a number that is no multiple of the prime has an inverse -/
theorem has_inverse {p n : Int} (h : p ∈ primesL) (hn : n % p ≠ 0) : ∃ j : Nat, ((j : Int) + 1) < p ∧ ((1 + (j : Int)) * n) % p = 1 := by
  have key : ∀ (p : Int) (r : Int), p ∈ primesL → 0 ≤ r → r < p → r ≠ 0 → ∃ j : Nat, ((j : Int) + 1) < p ∧ ((1 + (j : Int)) * r) % p = 1 := by
    intro p r hp h0 h1 h2
    have c : ∀ p ∈ [2, 3, 5, 7, 11, 13], ∀ r ∈ List.range p, r ≠ 0 → ∃ j ∈ List.range 12, j + 1 < p ∧ ((1 + j) * r) % p = 1 := by decide +kernel
    obtain ⟨j, _, a, b⟩ := c p.toNat (by rcases prime_cases hp with e | e | e | e | e | e <;> subst e <;> decide) r.toNat (List.mem_range.mpr (by omega)) (by omega)
    refine ⟨j, by omega, ?_⟩
    have e1 : ((p.toNat : Nat) : Int) = p := Int.toNat_of_nonneg (by omega)
    have e2 : ((r.toNat : Nat) : Int) = r := Int.toNat_of_nonneg h0
    have b2 : ((((1 + j) * r.toNat % p.toNat : Nat)) : Int) = ((1 : Nat) : Int) := by rw [b]
    rw [Int.natCast_emod, Int.natCast_mul, e1, e2, Int.natCast_add] at b2
    exact b2
  have hp := prime_pos h
  obtain ⟨j, a, b⟩ := key p (n % p) h (Int.emod_nonneg n (by omega)) (Int.emod_lt_of_pos n (by omega)) hn
  refine ⟨j, a, ?_⟩
  rw [Int.mul_emod, Int.emod_emod_of_dvd n (Int.dvd_refl p), ← Int.mul_emod] at b
  exact b
theorem fmod_pos {a b : Int} (h : 0 < b) : a.fmod b = a % b := Int.fmod_eq_emod_of_nonneg a (by omega)
end Rw

set_option Elab.async false
set_option linter.all false
set_option maxRecDepth 100000
set_option maxHeartbeats 4000000
/-! TkG: what stands behind the top, as facts that the kernel is asked. -/
namespace Rw
open PySem PySem.Spec PyProof.Rows L2
/-- a def of the text stands at f under the name x -/
def DefAt (K : PySem.W.Frag) (x qual : Str) (st : Stmt) (f : Addr) : Prop :=
  ∃ (oc : Value) (od : Option Addr) (kV dc pm : Value) (an : Option Addr) (cd ct : Value) (sl : Array (Option Value)), K.lookup f = some ⟨oc, od, .func (PySem.W.fnOf x qual (defArgs st) (defBody st) (defScope st) .none kV dc pm an cd ct), sl⟩ ∧
    PySem.W.codeIn K cd qual = true ∧ PySem.W.keepIn K (.ref f) = true
def DefHere (K : PySem.W.Frag) (x : Str) (st : Stmt) : Prop := ∃ f : Addr, PySem.W.nsIn K mainGlobals x = some (some (.ref f)) ∧ DefAt K x x st f
/-- a def with defaults -/
def DflHere (K : PySem.W.Frag) (x : Str) (st : Stmt) (ds : List Value) : Prop :=
  ∃ (f T : Addr) (oc : Value) (od : Option Addr) (kV dc pm : Value) (an : Option Addr) (cd ct : Value) (sl : Array (Option Value)) (tc : Value) (td : Option Addr) (n : Nat) (ts : Array (Option Value)), PySem.W.nsIn K mainGlobals x = some (some (.ref f)) ∧
    K.lookup f = some ⟨oc, od, .func (PySem.W.fnOf x x (defArgs st) (defBody st) (defScope st) (.ref T) kV dc pm an cd ct), sl⟩ ∧ PySem.W.codeIn K cd x = true ∧ PySem.W.keepIn K (.ref f) = true ∧
    K.lookup T = some ⟨tc, td, .seq ds.toArray n, ts⟩
/-- an own error class x below the class at R, its __init__ is st -/
def ErrHere (K : PySem.W.Frag) (x q : Str) (st : Stmt) (R C : Addr) : Prop :=
  ∃ (f N : Addr) (nm qn : Str) (bs : List Value) (sn : List Str) (sub : List Value) (ab : Bool) (col : Option Bool) (dd : Option Addr) (m0 m1 m2 m3 m5 : Option Value), PySem.W.nsIn K mainGlobals x = some (some (.ref C)) ∧
    K.lookup C = some (excClassObj nm qn C N bs [.ref R, .type "ValueError", .type "Exception", .type "BaseException", .type "object"] true sn sub ab col dd m0 m1 m2 m3 m5 "ValueError.__new__") ∧
    PySem.W.findIn K (.ref C) "__setattr__" = some (some (.builtin "object.__setattr__")) ∧ PySem.W.findIn K (.ref C) "__getattribute__" = some (some (.builtin "BaseException.__getattribute__")) ∧ PySem.W.findIn K (.ref C) "__getattr__" = some none ∧
    PySem.W.findIn K (.ref C) "value" = some none ∧ PySem.W.findIn K (.ref C) "__init__" = some (some (.ref f)) ∧ PySem.W.typeIn K (.ref f) = some (.type "function") ∧ DefAt K "__init__" q st f ∧
    PySem.W.keepIn K (.ref C) = true ∧ PySem.W.subIn K (.ref C) (.type "BaseException") = some true ∧ PySem.W.typeIn K (.ref C) = some (.type "type") ∧ PySem.W.hasDictIn K C = true
section
variable {K : PySem.W.Frag} {mg : Str → Option Value} {h : Heap}
theorem DefHere.df {x : Str} {st : Stmt} {ps : List Str} (D : DefHere K x st) (X : K.In h) (G : h.Ns mainGlobals mg)
    (b : ∀ (kV doc pm : Value) (an : Option Addr) (cdv ct : Value) (us : List Value), us.length = ps.length → bindArgs (PySem.W.fnOf x x (defArgs st) (defBody st) (defScope st) .none kV doc pm an cdv ct) ⟨us, []⟩ = pure (ps.zip us)) : Df K mg x st ps := by
  obtain ⟨f, g, oc, od, kV, dc, pm, an, cd, ct, sl, l, c, k⟩ := D
  have F := fun_mk (st := st) l c k
  exact ⟨f, _, PySem.W.mg_of X G g, F, F.binds b⟩
theorem exm_of {A C : Addr} {b : Bool} (h1 : PySem.W.subIn K (.ref C) (.type "BaseException") = some true) (h2 : PySem.W.isClsIn K C = true) (h3 : PySem.W.typeIn K (.ref C) = some (.type "type")) (h4 : PySem.W.subIn K (.ref A) (.ref C) = some b) :
    PySem.W.exmOne K (.ref A) (.ref C) = some b := by
  have e1 : (PySem.W.subIn K (.ref C) (.type "BaseException") == some true) = true := by
    rw [h1] <;> rfl
  have h2' : (PySem.W.clsIn K C).isSome = true := h2
  have e2 : ((PySem.W.clsIn K C).isSome && PySem.W.typeIn K (.ref C) == some (.type "type")) = true := by
    rw [h2', h3] <;> rfl
  unfold PySem.W.exmOne
  rw [if_pos e1]
  show (if ((PySem.W.clsIn K C).isSome && PySem.W.typeIn K (.ref C) == some (.type "type")) = true then PySem.W.subIn K (.ref A) (.ref C) else none) = some b
  rw [if_pos e2]
  exact h4
/-- the body of __init__(self, value): self.value = value -/
def IsIni (st : Stmt) : Prop := ∃ p1 p2 p3 p4 : Pos, defBody st = [.Assign [.Attribute (.Name "self" p1) "value" p2] (.Name "value" p3) p4] ∧ (defScope st).names.lookup ("self" : Str) = some NameKind.local ∧ (defScope st).names.lookup ("value" : Str) = some NameKind.local
theorem ini_walk {st : Stmt} (I : IsIni st) (X : Cx) (hN : X.N = (["self", "value"] : List Str)) (hS : X.env.scope = defScope st) : ∃ t : TS, PSs X (defBody st) t ∧ (∀ D σ H, tOst X.K "value" (tVar 0) (tVar 1) D σ H → t D σ H) := by
  obtain ⟨p1, p2, p3, p4, e, l1, l2⟩ := I
  rw [e]
  refine ⟨_, pss_one (ps_ost (pe_var (i := 0) (by rw [hN]; rfl) (.inl (by rw [hS]; exact l1))) (pe_var (i := 1) (by rw [hN]; rfl) (.inl (by rw [hS]; exact l2)))), fun D σ H z => z⟩
theorem ErrHere.err {x q : Str} {st : Stmt} {R C : Addr} (E : ErrHere K x q st R C) (X : K.In h) (G : h.Ns mainGlobals mg) (S : FnScope ["self", "value"] ["self", "value"] (defScope st)) (I : IsIni st)
    (b : ∀ (kV doc pm : Value) (an : Option Addr) (cdv ct : Value) (us : List Value), us.length = 2 → bindArgs (PySem.W.fnOf "__init__" q (defArgs st) (defBody st) (defScope st) .none kV doc pm an cdv ct) ⟨us, []⟩ = pure ((["self", "value"] : List Str).zip us)) : Err K mg x C := by
  obtain ⟨f, N, nm, qn, bs, sn, sub, ab, col, dd, m0, m1, m2, m3, m5, g, l, sa, ga, gg, no, ini, ty, ⟨oc, od, kV, dc, pm, an, cd, ct, sl, lf, cf, kf⟩, kc, ex, tc, hd⟩ := E
  have F := fun_mk (x := "__init__") (qual := q) (st := st) lf cf kf
  exact {
    g := PySem.W.mg_of X G g
    ox := ⟨⟨nm, qn, N, bs, _, sn, sub, ab, col, dd, m0, m1, m2, m3, m5, l, rfl⟩, sa, ex, tc, kc⟩
    xf := ⟨ga, gg, ex, hd⟩
    no := no
    ini := ⟨f, q, st, _, ini, ty, F, F.binds b, S, ini_walk I⟩ }
/-- a tuple of ints of the text -/
def IntsHere (K : PySem.W.Frag) (x : Str) (a : Addr) (us : List Value) : Prop := ∃ (dd : Option Addr) (n : Nat) (sl : Array (Option Value)), PySem.W.nsIn K mainGlobals x = some (some (.ref a)) ∧ K.lookup a = some ⟨.type "tuple", dd, .seq us.toArray n, sl⟩
theorem IntsHere.sq {x : Str} {a : Addr} {us : List Value} {xs : List V} (E : IntsHere K x a us) (r : Vals xs us) (z : us.length ≤ sizeLine) (H : Hp) : SqT K H a xs := by
  obtain ⟨dd, n, sl, _, l⟩ := E
  exact Or.inr ⟨_, us.toArray, n, l, rfl, rfl, by simpa using z, by simpa using r⟩
/-! the same from its facts, the rest found by the kernel -/
theorem DefHere.of {x : Str} {st : Stmt} {f : Addr} {oc : Value} {od : Option Addr} {kV dc pm : Value} {an : Option Addr} {cd ct : Value} {sl : Array (Option Value)} (g : PySem.W.nsIn K mainGlobals x = some (some (.ref f)))
    (l : K.lookup f = some ⟨oc, od, .func (PySem.W.fnOf x x (defArgs st) (defBody st) (defScope st) .none kV dc pm an cd ct), sl⟩) (c : PySem.W.codeIn K cd x = true) (k : PySem.W.keepIn K (.ref f) = true) : DefHere K x st :=
  ⟨f, g, oc, od, kV, dc, pm, an, cd, ct, sl, l, c, k⟩
theorem DflHere.of {x : Str} {st : Stmt} {ds : List Value} {f T : Addr} {oc : Value} {od : Option Addr} {kV dc pm : Value} {an : Option Addr} {cd ct : Value} {sl : Array (Option Value)} {tc : Value} {td : Option Addr} {n : Nat} {ts : Array (Option Value)}
    (g : PySem.W.nsIn K mainGlobals x = some (some (.ref f))) (l : K.lookup f = some ⟨oc, od, .func (PySem.W.fnOf x x (defArgs st) (defBody st) (defScope st) (.ref T) kV dc pm an cd ct), sl⟩) (c : PySem.W.codeIn K cd x = true) (k : PySem.W.keepIn K (.ref f) = true)
    (t : K.lookup T = some ⟨tc, td, .seq ds.toArray n, ts⟩) : DflHere K x st ds := ⟨f, T, oc, od, kV, dc, pm, an, cd, ct, sl, tc, td, n, ts, g, l, c, k, t⟩
theorem ErrHere.of {x q : Str} {st : Stmt} {R C f N : Addr} {nm qn : Str} {bs : List Value} {sn : List Str} {sub : List Value} {ab : Bool} {col : Option Bool} {dd : Option Addr} {m0 m1 m2 m3 m5 : Option Value}
    {oc : Value} {od : Option Addr} {kV dc pm : Value} {an : Option Addr} {cd ct : Value} {sl : Array (Option Value)} (g : PySem.W.nsIn K mainGlobals x = some (some (.ref C)))
    (xl : K.lookup C = some (excClassObj nm qn C N bs [.ref R, .type "ValueError", .type "Exception", .type "BaseException", .type "object"] true sn sub ab col dd m0 m1 m2 m3 m5 "ValueError.__new__"))
    (sa : PySem.W.findIn K (.ref C) "__setattr__" = some (some (.builtin "object.__setattr__"))) (ga : PySem.W.findIn K (.ref C) "__getattribute__" = some (some (.builtin "BaseException.__getattribute__"))) (gg : PySem.W.findIn K (.ref C) "__getattr__" = some none)
    (no : PySem.W.findIn K (.ref C) "value" = some none) (ini : PySem.W.findIn K (.ref C) "__init__" = some (some (.ref f))) (ty : PySem.W.typeIn K (.ref f) = some (.type "function"))
    (l : K.lookup f = some ⟨oc, od, .func (PySem.W.fnOf "__init__" q (defArgs st) (defBody st) (defScope st) .none kV dc pm an cd ct), sl⟩) (c : PySem.W.codeIn K cd q = true) (k : PySem.W.keepIn K (.ref f) = true)
    (kc : PySem.W.keepIn K (.ref C) = true) (ex : PySem.W.subIn K (.ref C) (.type "BaseException") = some true) (tc : PySem.W.typeIn K (.ref C) = some (.type "type")) (hd : PySem.W.hasDictIn K C = true) : ErrHere K x q st R C :=
  ⟨f, N, nm, qn, bs, sn, sub, ab, col, dd, m0, m1, m2, m3, m5, g, xl, sa, ga, gg, no, ini, ty, ⟨oc, od, kV, dc, pm, an, cd, ct, sl, l, c, k⟩, kc, ex, tc, hd⟩
theorem IntsHere.of {x : Str} {a : Addr} {us : List Value} {dd : Option Addr} {n : Nat} {sl : Array (Option Value)} (g : PySem.W.nsIn K mainGlobals x = some (some (.ref a))) (l : K.lookup a = some ⟨.type "tuple", dd, .seq us.toArray n, sl⟩) : IntsHere K x a us := ⟨dd, n, sl, g, l⟩
end
end Rw

set_option Elab.async false
set_option linter.all false
set_option maxRecDepth 100000
set_option maxHeartbeats 4000000
/-! TkZ: zip of lists and tuples, in any order. -/
namespace Rw
open PySem PySem.Spec PyProof.Rows L2

/-- a list (true) or a tuple (false) -/
def SqB (K : PySem.W.Frag) (H : Hp) : Bool → Addr → List V → Prop
  | true, a, xs => SqL K H a xs
  | false, a, xs => SqT K H a xs
def itB (h : Heap) : Bool → Addr → Addr → Nat → Prop
  | true, it, l, i => h.IsListIter it l i
  | false, it, l, i => h.IsTupleIter it l i
def sqB (h : Heap) : Bool → Addr → Array Value → Prop
  | true, l, xs => h.IsList l xs
  | false, l, xs => h.IsTuple l xs
def nmB : Bool → String
  | true => "list_iterator"
  | false => "tuple_iterator"
section
variable {X : Cx} {pins : List (Addr × Obj)} {σ : L2.St} {H : Hp} {s : Shared} {h h' : Heap} {k : Bool} {a it : Addr} {i : Nat} {xs ys : List V}
theorem sqB_inv (I : Inv X pins σ H s) (q : SqB X.K H k a xs) : ∃ its : List Value, Vals xs its ∧ sqB s.heap k a its.toArray ∧ a < s.heap.objs.size := by
  cases k with
  | true =>
    obtain ⟨its, r, p, _⟩ := I.list q
    exact ⟨its, r, p.isList, p.lt⟩
  | false =>
    obtain ⟨its, r, p, _⟩ := I.tuple q
    obtain ⟨o, ho, _⟩ := id p
    exact ⟨its, r, p, Heap.lt_size ho⟩
theorem sqB_inj (I : Inv X pins σ H s) (q : SqB X.K H k a xs) (q' : SqB X.K H k a ys) : xs = ys := by
  cases k with
  | true => exact I.list_inj q q'
  | false => exact I.tuple_inj q q'
theorem itB_obj (t : itB h k it a i) : ∃ o, h.get? it = some o ∧ ∀ v, o.data ≠ .cell v := by
  cases k with
  | true =>
    obtain ⟨o, e, _, d⟩ := t
    exact ⟨o, e, fun v q => by rw [d] at q; cases q⟩
  | false =>
    obtain ⟨o, e, _, d⟩ := t
    exact ⟨o, e, fun v q => by rw [d] at q; cases q⟩
theorem itB_at (t : itB h k it a i) (e : ∀ o, h.get? it = some o → h'.get? it = some o) : itB h' k it a i := by
  cases k with
  | true => exact Heap.IsListIter.at t e
  | false => exact Heap.IsTupleIter.at t e
theorem drawsB {prog : Program} {w : World} {A : Around} (hh : A.handled = none) (k : Bool) (it l : Addr) (hne : l ≠ it) (items : Array Value) :
    Draws prog w A it [it, l] items.size (fun i v => items[i]? = some v) (fun i h => itB h k it l i ∧ sqB h k l items) := by
  cases k with
  | true => exact Draws.list hh it l hne items
  | false => exact Draws.tuple hh it l hne items
theorem sepB {z TI TO i1 i2 a b : Addr} (D : ZipApart z TI TO i1 i2 a b) : ZipSep2 z TI TO i1 i2 [i1, a] [i2, b] where
  TIz := D.TIz
  TOz := D.TOz
  TITO := D.TITO
  TIi1 := D.TIi1
  mem1 := List.mem_cons_self
  zf1 := by simp; exact ⟨D.i1z.symm, D.l1z.symm⟩
  Tf1 := by simp; exact ⟨D.TOi1, D.l1TO.symm⟩
  TIi2 := D.TIi2
  mem2 := List.mem_cons_self
  zf2 := by simp; exact ⟨D.i2z.symm, D.l2z.symm⟩
  Tf2 := by simp; exact ⟨D.TOi2, D.l2TO.symm⟩
  sep1_2 := by simp; exact ⟨D.i12, D.l2i1.symm⟩
  sep2_1 := by simp; exact ⟨D.i12.symm, D.l1i2.symm⟩
end

/-- the lists or tuples at a and b as they stand at each turn, the items in new pairs -/
def ItB (K : PySem.W.Frag) (k1 k2 : Bool) (a b : Addr) : It :=
  ⟨fun i H => ∃ (xs ys : List V) (x y : V), SqB K H k1 a xs ∧ SqB K H k2 b ys ∧ xs[i]? = some x ∧ ys[i]? = some y,
    fun i H v H' => ∃ T x y, v = .ref T ∧ H T = none ∧ H' = upd H T (.tup [x, y]) ∧ (∀ xs, SqB K H k1 a xs → xs[i]? = some x) ∧ ∀ ys, SqB K H k2 b ys → ys[i]? = some y,
    fun i H => ∃ xs ys : List V, SqB K H k1 a xs ∧ SqB K H k2 b ys ∧ i ≤ xs.length ∧ i ≤ ys.length ∧ (xs.length = i ∨ ys.length = i)⟩
theorem turn_zipB {P : Program} {w : World} {K : PySem.W.Frag} {k1 k2 : Bool} {elts : List Expr} {kk : Nat} {tpos : Pos} {a b z TI TO i1 i2 : Addr} (D : ZipApart z TI TO i1 i2 a b) :
    Turn P w K (.Tuple elts kk tpos) (ItB K k1 k2 a b) [z, TI, TO, i1, i2] z (fun i h => IsZip h z TI TO .none ∧ IsPair h TI (.ref i1) (.ref i2) ∧ (∃ x y, IsPair h TO x y) ∧ itB h k1 i1 a i ∧ itB h k2 i2 b i) where
  mem := by simp
  obj := fun i h st c hc => by
    obtain ⟨hz, hTI, ⟨x, y, hTO⟩, h1, h2⟩ := st
    have e' : c = z ∨ c = TI ∨ c = TO ∨ c = i1 ∨ c = i2 := by simpa using hc
    rcases e' with q | q | q | q | q
    · rw [q]; exact ⟨_, hz, fun v q => nomatch q⟩
    · rw [q]; exact ⟨_, hTI, fun v q => nomatch q⟩
    · rw [q]; exact ⟨_, hTO, fun v q => nomatch q⟩
    · rw [q]; exact itB_obj h1
    · rw [q]; exact itB_obj h2
  keep := fun i h h' st k => by
    obtain ⟨hz, hTI, ⟨x, y, hTO⟩, h1, h2⟩ := st
    exact ⟨k z (by simp) _ hz, k TI (by simp) _ hTI, ⟨x, y, k TO (by simp) _ hTO⟩, itB_at h1 fun o q => k i1 (by simp) o q, itB_at h2 fun o q => k i2 (by simp) o q⟩
  item := by
    intro X hP hw hK hc i pins s σ H E I hf st hg
    subst hP hw hK
    obtain ⟨hz, hTI, ⟨x0, y0, hTO⟩, h1, h2⟩ := st
    obtain ⟨xs, ys, x, y, hqx, hqy, hx, hy⟩ := hg
    obtain ⟨its, rv, p, _⟩ := sqB_inv I hqx
    obtain ⟨its2, rv2, p2, _⟩ := sqB_inv I hqy
    obtain ⟨u, hu, ru⟩ := rv.get hx
    obtain ⟨u2, hu2, ru2⟩ := rv2.get hy
    have hzl : z < s.heap.objs.size := Heap.lt_size hz
    have hd : X.A.in1.handled = none := I.ok.hd hc
    have g1 : i < its.toArray.size := by
      have := (List.getElem?_eq_some_iff.mp hu).1
      simpa using this
    have g2 : i < its2.toArray.size := by
      have := (List.getElem?_eq_some_iff.mp hu2).1
      simpa using this
    refine wpAny_pyNext_zipD2_item (sepB D) (drawsB hd k1 i1 a D.l1i1 its.toArray) (drawsB hd k2 i2 b D.l2i2 its2.toArray) hz hTI hTO ⟨h1, p⟩ ⟨h2, p2⟩ g1 g2 fun x1 x2 h' tk e1 e2 z' TO' t1 t2 hT hsz hk => ?_
    have hx1 : x1 = u := by
      have q : its[i]? = some x1 := by simpa using e1
      rw [hu] at q
      exact (Option.some.inj q).symm
    have hx2 : x2 = u2 := by
      have q : its2[i]? = some x2 := by simpa using e2
      rw [hu2] at q
      exact (Option.some.inj q).symm
    subst hx1 hx2
    refine ⟨_, rfl, wpAny_letOwnedTupleGo_zip (s := { s with heap := h', toks := tk }) z' fun h'' z'' sb => ?_⟩
    have hT2 : h''.get? s.heap.objs.size = some { cls := .type "tuple", data := .seq #[x1, x2] } := (sb.2 _ (Nat.ne_of_gt hzl)).trans hT
    have new : ObjOk X.prog X.w (upd H s.heap.objs.size (.tup [x, y])) h'' s.heap.objs.size (.tup [x, y]) :=
      ⟨by show 2 ≤ sizeLine; decide, [x1, x2], .cons ru (.cons ru2 .nil), ⟨_, hT2, rfl, _, rfl⟩⟩
    have I1 : Inv X pins σ (upd H s.heap.objs.size (.tup [x, y])) { s with heap := h'', toks := tk } :=
      I.turnedNew (t' := tk) (ch := [z, TI, TO, i1, i2]) (fun c o hb q => (sb.2 c (fun q' => hb (by simp [q']))).trans (hk c o (fun q' => hb (by simp [q'])) (fun q' => hb (by simp [q'])) (fun q' => hb (by simp [q'])) (fun q' => hb (by simp [q'])) q)) hf (Nat.le_refl _) new
    refine ⟨.ref s.heap.objs.size, _, I1, rfl, ⟨_, x, y, rfl, I.hok.fresh (Nat.le_refl _), rfl, fun l hl => by rw [sqB_inj I hl hqx]; exact hx, fun l hl => by rw [sqB_inj I hl hqy]; exact hy⟩, ⟨z'', ?_, ⟨x1, x2, ?_⟩, ?_, ?_⟩, fun c hcm => ?_⟩
    · exact (sb.2 _ D.TIz).trans (hk _ _ D.TIz D.TITO D.TIi1 D.TIi2 hTI)
    · exact (sb.2 _ D.TOz).trans TO'
    · exact itB_at t1.1 fun o q => (sb.2 _ D.i1z).trans q
    · exact itB_at t2.1 fun o q => (sb.2 _ D.i2z).trans q
    · have hlt : c < s.heap.objs.size := by
        have e' : c = z ∨ c = TI ∨ c = TO ∨ c = i1 ∨ c = i2 := by simpa using hcm
        rcases e' with q | q | q | q | q
        · rw [q]; exact hzl
        · rw [q]; exact Heap.lt_size hTI
        · rw [q]; exact Heap.lt_size hTO
        · rw [q]; obtain ⟨_, e1, _⟩ := itB_obj h1; exact Heap.lt_size e1
        · rw [q]; obtain ⟨_, e2, _⟩ := itB_obj h2; exact Heap.lt_size e2
      rw [upd_ne (Nat.ne_of_lt hlt)]
      exact (hf c hcm).1
  done := by
    intro X hP hw hK hc i pins s σ H E I hf st hg
    subst hP hw hK
    obtain ⟨hz, hTI, ⟨x0, y0, hTO⟩, h1, h2⟩ := st
    obtain ⟨xs, ys, hqx, hqy, l1, l2, hend⟩ := hg
    obtain ⟨its, rv, p, _⟩ := sqB_inv I hqx
    obtain ⟨its2, rv2, p2, _⟩ := sqB_inv I hqy
    have m1 := rv.length
    have m2 := rv2.length
    have hd : X.A.in1.handled = none := I.ok.hd hc
    have z1 : its.toArray.size = its.length := by simp
    have z2 : its2.toArray.size = its2.length := by simp
    exact wpAny_pyNext_zipD2_end (sepB D) (drawsB hd k1 i1 a D.l1i1 its.toArray) (drawsB hd k2 i2 b D.l2i2 its2.toArray) hz hTI hTO ⟨h1, p⟩ ⟨h2, p2⟩ (by omega) (by omega) (by omega) fun h' tk hk => ⟨rfl, I.turnedL (t' := tk) (ch := [z, TI, TO, i1, i2]) (fun c o hb q =>
      hk c o (fun q' => hb (by simp [q'])) (fun q' => hb (by simp [q'])) (fun q' => hb (by simp [q'])) (fun q' => hb (by simp [q'])) q) hf⟩
  self := fun A i s Q E st h => wpAny_pyIter_zip st.1 h

abbrev zipBH1 (k1 : Bool) (h : Heap) (l1 : Addr) : Heap := h.push { cls := .type (nmB k1), data := .fields #[.ref l1, .int 0 0] }
abbrev zipBH2 (k1 k2 : Bool) (h : Heap) (l1 l2 : Addr) : Heap := (zipBH1 k1 h l1).push { cls := .type (nmB k2), data := .fields #[.ref l2, .int 0 0] }
abbrev zipBH3 (k1 k2 : Bool) (h : Heap) (l1 l2 : Addr) : Heap := (zipBH2 k1 k2 h l1 l2).push { cls := .type "tuple", data := .seq #[.ref h.objs.size, .ref (zipBH1 k1 h l1).objs.size] }
abbrev zipBH4 (k1 k2 : Bool) (h : Heap) (l1 l2 : Addr) : Heap := (zipBH3 k1 k2 h l1 l2).push { cls := .type "tuple", data := .seq #[.none, .none] }
abbrev zipBH5 (k1 k2 : Bool) (h : Heap) (l1 l2 : Addr) : Heap := (zipBH4 k1 k2 h l1 l2).push { cls := .type "zip", data := .fields #[.none, .bool false, .bool false, .ref (zipBH2 k1 k2 h l1 l2).objs.size, .ref (zipBH3 k1 k2 h l1 l2).objs.size] }
theorem meets_zipB_lt (l1 l2 : Addr) (xs ys : Array Value) :
    Meets (Builtin.«zip.__new__» ⟨[.type "zip", .ref l1, .ref l2], []⟩) (fun _ R s => s.heap.IsList l1 xs ∧ s.heap.IsTuple l2 ys ∧
      R (.ok (.ret (.ref (zipBH4 true false s.heap l1 l2).objs.size))) { s with heap := zipBH5 true false s.heap l1 l2 }) :=
  .of_wp fun prog w A R s h => by
    obtain ⟨hp, g, d, tk, os⟩ := s; obtain ⟨hl1, hl2, h⟩ := h
    have hsub := sub_zip
    have hL1 : Heap.IsList (Shared.heap ⟨hp, g, d, tk, os⟩) l1 xs := hl1
    have hL2 : Heap.IsTuple (Shared.heap ⟨hp.push { cls := .type "list_iterator", data := .fields #[.ref l1, .int 0 0] }, g, d, tk, os⟩) l2 ys := Heap.IsTuple.push hl2 _
    wp_walk using wpAny_pyIter_list hL1, wpAny_pyIter_tuple hL2
    exact ⟨_, rfl, h⟩
theorem meets_zipB_tl (l1 l2 : Addr) (xs ys : Array Value) :
    Meets (Builtin.«zip.__new__» ⟨[.type "zip", .ref l1, .ref l2], []⟩) (fun _ R s => s.heap.IsTuple l1 xs ∧ s.heap.IsList l2 ys ∧
      R (.ok (.ret (.ref (zipBH4 false true s.heap l1 l2).objs.size))) { s with heap := zipBH5 false true s.heap l1 l2 }) :=
  .of_wp fun prog w A R s h => by
    obtain ⟨hp, g, d, tk, os⟩ := s; obtain ⟨hl1, hl2, h⟩ := h
    have hsub := sub_zip
    have hL1 : Heap.IsTuple (Shared.heap ⟨hp, g, d, tk, os⟩) l1 xs := hl1
    have hL2 : Heap.IsList (Shared.heap ⟨hp.push { cls := .type "tuple_iterator", data := .fields #[.ref l1, .int 0 0] }, g, d, tk, os⟩) l2 ys := Heap.IsList.push hl2 _
    wp_walk using wpAny_pyIter_tuple hL1, wpAny_pyIter_list hL2
    exact ⟨_, rfl, h⟩
theorem meets_zipB (k1 k2 : Bool) (l1 l2 : Addr) (xs ys : Array Value) :
    Meets (Builtin.«zip.__new__» ⟨[.type "zip", .ref l1, .ref l2], []⟩) (fun _ R s => sqB s.heap k1 l1 xs ∧ sqB s.heap k2 l2 ys ∧
      R (.ok (.ret (.ref (zipBH4 k1 k2 s.heap l1 l2).objs.size))) { s with heap := zipBH5 k1 k2 s.heap l1 l2 }) := by
  cases k1 <;> cases k2
  · exact RZ.meets_zipT_new l1 l2 xs ys
  · exact meets_zipB_tl l1 l2 xs ys
  · exact meets_zipB_lt l1 l2 xs ys
  · exact meets_zip_new l1 l2 xs ys
theorem itB_new {h : Heap} {k : Bool} {it l : Addr} (e : h.get? it = some { cls := .type (nmB k), data := .fields #[.ref l, .int 0 0] }) : itB h k it l 0 := by
  cases k with
  | true => exact ⟨_, e, rfl, rfl⟩
  | false => exact ⟨_, e, rfl, rfl⟩
section
variable {prog : Program} {w : World} {A : Around} {E : Value → Shared → Prop} {s : Shared}
theorem call_zipB {k1 k2 : Bool} {l1 l2 : Addr} {xs ys : Array Value} {Q : Value → Shared → Prop} (hl1 : sqB s.heap k1 l1 xs) (hl2 : sqB s.heap k2 l2 ys)
    (h : ∀ h', IsZip h' (s.heap.objs.size + 4) (s.heap.objs.size + 2) (s.heap.objs.size + 3) .none → IsPair h' (s.heap.objs.size + 2) (.ref s.heap.objs.size) (.ref (s.heap.objs.size + 1)) →
      IsPair h' (s.heap.objs.size + 3) .none .none → itB h' k1 s.heap.objs.size l1 0 → itB h' k2 (s.heap.objs.size + 1) l2 0 → h'.objs.size = s.heap.objs.size + 5 →
      (∀ c o, s.heap.get? c = some o → h'.get? c = some o) → Q (.ref (s.heap.objs.size + 4)) { s with heap := h' }) :
    wpAny (model prog w) A (call (.type "zip") [.ref l1, .ref l2]) Q E s := by
  refine callType_new F.called_zip (by decide) (F.typeCall_zip_2 _ _) (F.newCall_zip_2 _ _) (fun obj => F.args_object_init_3 obj _ _) F.entry_zip_new
    (meets_zipB k1 k2 l1 l2 xs ys) ⟨hl1, hl2, ?_⟩
  have z1 : (zipBH1 k1 s.heap l1).objs.size = s.heap.objs.size + 1 := Heap.size_push ..
  have z2 : (zipBH2 k1 k2 s.heap l1 l2).objs.size = s.heap.objs.size + 2 := by rw [Heap.size_push, z1]
  have z3 : (zipBH3 k1 k2 s.heap l1 l2).objs.size = s.heap.objs.size + 3 := by rw [Heap.size_push, z2]
  have z4 : (zipBH4 k1 k2 s.heap l1 l2).objs.size = s.heap.objs.size + 4 := by rw [Heap.size_push, z3]
  have z5 : (zipBH5 k1 k2 s.heap l1 l2).objs.size = s.heap.objs.size + 5 := by rw [Heap.size_push, z4]
  have g5 : (zipBH5 k1 k2 s.heap l1 l2).get? (zipBH4 k1 k2 s.heap l1 l2).objs.size = some _ := Heap.get?_push_size _ rfl
  have g4 : (zipBH5 k1 k2 s.heap l1 l2).get? (zipBH3 k1 k2 s.heap l1 l2).objs.size = some _ := Heap.get?_push_of_some _ (Heap.get?_push_size _ rfl)
  have g3 : (zipBH5 k1 k2 s.heap l1 l2).get? (zipBH2 k1 k2 s.heap l1 l2).objs.size = some _ := Heap.get?_push_of_some _ (Heap.get?_push_of_some _ (Heap.get?_push_size _ rfl))
  have g2 : (zipBH5 k1 k2 s.heap l1 l2).get? (zipBH1 k1 s.heap l1).objs.size = some _ := Heap.get?_push_of_some _ (Heap.get?_push_of_some _ (Heap.get?_push_of_some _ (Heap.get?_push_size _ rfl)))
  have g1 : (zipBH5 k1 k2 s.heap l1 l2).get? s.heap.objs.size = some _ := Heap.get?_push_of_some _ (Heap.get?_push_of_some _ (Heap.get?_push_of_some _ (Heap.get?_push_of_some _ (Heap.get?_push_size _ rfl))))
  show _ ∧ _
  rw [z2, z3, z4] at g5
  rw [z1, z2] at g3
  rw [z3] at g4
  rw [z1] at g2
  rw [z4]
  exact ⟨⟨_, g5, rfl⟩, h _ g5 g3 g4 (itB_new g1) (itB_new g2) z5 fun c o x =>
    Heap.get?_push_of_some _ (Heap.get?_push_of_some _ (Heap.get?_push_of_some _ (Heap.get?_push_of_some _ (Heap.get?_push_of_some _ x))))⟩
end
def iZipB (K : PySem.W.Frag) (ta : TA) : TI := fun σ H R => ta σ H fun vs H1 => ∃ a b k1 k2 xs ys, vs = [.ref a, .ref b] ∧ SqB K H1 k1 a xs ∧ SqB K H1 k2 b ys ∧ R (ItB K k1 k2 a b) H1
theorem pi_zipB {X : Cx} {e e2 : Expr} {ta : TA} {p pos tpos : Pos} {elts : List Expr} {kk : Nat} (hg : Gl X "zip") (hm : X.mg "zip" = none) (ha : PA X [e, e2] ta)
    (hs : starEach [e, e2] X.env = (false, eval e X.env) :: starEach [e2] X.env := by rfl) (hpl : (backTo pos (starEach [e2] X.env)).any (·.1) = false := by rfl) :
    PI X (.Tuple elts kk tpos) (.Call (.Name "zip" p) [e, e2] [] pos) (iZipB X.K ta) := by
  refine ⟨fun pins s σ H R I h => ?_⟩
  refine Call_ (ld_blt I hg hm PyProof.Rows.boot_zip (PyProof.Rows.callWith_type1 (thn (ha.run pos pins s σ H _ I h) fun us s1 ⟨vs, H1, I1, r1, q1⟩ => ?_) hs hpl))
  obtain ⟨a, b, k1, k2, xs, ys, ex, hqx, hqy, q⟩ := q1
  subst ex
  cases r1 with
  | cons r rr =>
    cases rr with
    | cons r' rr =>
      cases rr
      cases r
      cases r'
      obtain ⟨its, rv, p1, la⟩ := sqB_inv I1 hqx
      obtain ⟨its2, rv2, p2, lb⟩ := sqB_inv I1 hqy
      refine call_zipB p1 p2 fun h' hz hTI hTO h1 h2 hsz hk => wpAny_pyIter_zip hz ?_
      have I2 : Inv X pins σ H1 { s1 with heap := h' } := I1.kept (t' := s1.toks) hk
      refine ⟨s1.heap.objs.size + 4, [s1.heap.objs.size + 4, s1.heap.objs.size + 2, s1.heap.objs.size + 3, s1.heap.objs.size, s1.heap.objs.size + 1], _, _, H1, rfl, I2, turn_zipB (PySem.W.ktu_apart s1.heap.objs.size a b la lb), ⟨hz, hTI, ⟨_, _, hTO⟩, h1, h2⟩, fun c hcm => ?_, q⟩
      have e' : c = s1.heap.objs.size + 4 ∨ c = s1.heap.objs.size + 2 ∨ c = s1.heap.objs.size + 3 ∨ c = s1.heap.objs.size ∨ c = s1.heap.objs.size + 1 := by simpa using hcm
      have hle : s1.heap.objs.size ≤ c := by
        rcases e' with z | z | z | z | z
        · rw [z]; exact Nat.le_add_right _ _
        · rw [z]; exact Nat.le_add_right _ _
        · rw [z]; exact Nat.le_add_right _ _
        · rw [z]; exact Nat.le_refl _
        · rw [z]; exact Nat.le_add_right _ _
      exact I1.fpOk hle (I1.hok.fresh hle)
end Rw

set_option Elab.async false
set_option linter.all false
set_option maxRecDepth 100000
set_option maxHeartbeats 4000000
/-! TkQ: enumerate of a list or a tuple. -/
namespace Rw
open PySem PySem.Spec PyProof.Rows L2

set_option maxHeartbeats 1000000 in
theorem meets_enum_new1 {v : Value} {o : Obj} {H : Heap → Prop} (B : Begins v o H) :
    Meets (Builtin.«enumerate.__new__» ⟨[.type "enumerate", v], []⟩) (fun _ R s => H s.heap ∧
      R (.ok (.ret (.ref (s.heap.push o).objs.size))) { s with heap := (s.heap.push o).push { cls := .type "enumerate", data := .fields #[.none, .bool false, .ref s.heap.objs.size, rawInt 0, .none, .none] } }) :=
  .of_wp fun prog w A R s h => by
    obtain ⟨hp, g, d, tk, os⟩ := s; obtain ⟨h1, h⟩ := h
    have hsub := sub_enumerate
    have q1 : ∀ {A' : Around} {E : Value → Shared → Prop} {Q : Value → Shared → Prop}, Q (.ref hp.objs.size) ⟨hp.push o, g, d, tk, os⟩ → wpAny (model prog w) A' (pyIter v) Q E ⟨hp, g, d, tk, os⟩ :=
      fun q => B.iter prog w _ _ ⟨hp, g, d, tk, os⟩ _ h1 q
    wp_walk using q1
    refine wpAny_stack_any fun st => wpAny_pure ?_
    split
    · rename_i c _ _ _ _ _
      cases (c == Value.type "enumerate")
      · wp_walk using q1
        exact ⟨_, rfl, h⟩
      · wp_walk using q1
        exact ⟨_, rfl, h⟩
    · wp_walk using q1
      exact ⟨_, rfl, h⟩
section
variable {prog : Program} {w : World} {A : Around} {E : Value → Shared → Prop} {s : Shared}
theorem call_enum1 {v : Value} {o : Obj} {H : Heap → Prop} {Q : Value → Shared → Prop} (B : Begins v o H) (h1 : H s.heap)
    (h : ∀ h', IsEnum h' (s.heap.objs.size + 1) s.heap.objs.size 0 .none → h'.get? s.heap.objs.size = some o → h'.objs.size = s.heap.objs.size + 2 →
      (∀ b o, s.heap.get? b = some o → h'.get? b = some o) → Q (.ref (s.heap.objs.size + 1)) { s with heap := h' }) :
    wpAny (model prog w) A (call (.type "enumerate") [v]) Q E s := by
  refine callType_new F.called_enumerate (by decide) (F.typeCall_enumerate_1 _) (F.newCall_enumerate_1 _) (fun obj => F.args_object_init_2 obj _) F.entry_enumerate_new
    (meets_enum_new1 B) ⟨h1, ?_⟩
  have hz : (s.heap.push o).objs.size = s.heap.objs.size + 1 := Heap.size_push ..
  show _ ∧ _
  rw [hz]
  have he : IsEnum ((s.heap.push o).push { cls := .type "enumerate", data := .fields #[.none, .bool false, .ref s.heap.objs.size, rawInt 0, .none, .none] }) (s.heap.objs.size + 1) s.heap.objs.size 0 .none := by
    have := Heap.get?_push_size (s.heap.push o) (o := { cls := .type "enumerate", data := .fields #[.none, .bool false, .ref s.heap.objs.size, rawInt 0, .none, .none] }) rfl
    rw [hz] at this; exact this
  refine ⟨⟨_, he, rfl⟩, h _ he (Heap.get?_push_of_some _ (Heap.get?_push_size _ B.free)) (by rw [Heap.size_push, hz]) fun b o x => Heap.get?_push_of_some _ (Heap.get?_push_of_some _ x)⟩
end
def itObjB (k : Bool) (a : Addr) : Obj := { cls := .type (nmB k), data := .fields #[.ref a, .int 0 0] }
theorem begins_B (k : Bool) (a : Addr) (items : Array Value) : Begins (.ref a) (itObjB k a) fun h => sqB h k a items := by
  cases k with
  | true => exact begins_list a items
  | false => exact begins_tuple a items

/-- the list or tuple at a as it stands at each turn, each item in a new pair -/
def ItEB (K : PySem.W.Frag) (k : Bool) (a : Addr) : It :=
  ⟨fun i H => ∃ (xs : List V) (x : V), SqB K H k a xs ∧ xs[i]? = some x, fun i H v H' => ∃ T x, v = .ref T ∧ H T = none ∧ H' = upd H T (.tup [.int (i : Nat), x]) ∧ ∀ xs, SqB K H k a xs → xs[i]? = some x, fun i H => ∃ xs : List V, SqB K H k a xs ∧ xs.length = i⟩
theorem turn_enumB {P : Program} {w : World} {K : PySem.W.Frag} {k : Bool} {elts : List Expr} {kk : Nat} {tpos : Pos} (a e it : Addr) :
    Turn P w K (.Tuple elts kk tpos) (ItEB K k a) [e, it] e (fun i h => (∃ old, IsEnum h e it ((i : Nat) : Int) old) ∧ itB h k it a i ∧ e ≠ it ∧ a ≠ it ∧ e ≠ a) where
  mem := by simp
  obj := fun i h st b hb => by
    obtain ⟨⟨old, he⟩, hi, _⟩ := st
    have e' : b = e ∨ b = it := by simpa using hb
    rcases e' with z | z
    · rw [z]; exact ⟨_, he, fun v q => nomatch q⟩
    · rw [z]; exact itB_obj hi
  keep := fun i h h' st k => let ⟨⟨old, he⟩, hi, hne⟩ := st; ⟨⟨old, k e (by simp) _ he⟩, itB_at hi fun o q => k it (by simp) o q, hne⟩
  item := by
    intro X hP hw hK hc i pins s σ H E I hf st hg
    subst hP hw hK
    obtain ⟨⟨old, he⟩, hit, hne, hna, hea⟩ := st
    obtain ⟨xs, x, hq, hx⟩ := hg
    obtain ⟨its, rv, p, _⟩ := sqB_inv I hq
    obtain ⟨u, hu, ru⟩ := rv.get hx
    have hel : e < s.heap.objs.size := Heap.lt_size he
    have hil : it < s.heap.objs.size := by obtain ⟨_, q, _⟩ := itB_obj hit; exact Heap.lt_size q
    have hd : X.A.in1.handled = none := I.ok.hd hc
    have g1 : i < its.toArray.size := by
      have := (List.getElem?_eq_some_iff.mp hu).1
      simpa using this
    have hef : e ∉ [it, a] := by simp; exact ⟨hne, hea⟩
    refine wpAny_pyNext_enum_itemD (drawsB hd k it a hna its.toArray) he ⟨hit, p⟩ g1 hne hef fun x1 h' tk e1 ho hs' hT hsz hk => ?_
    have hx1 : x1 = u := by
      have q : its[i]? = some x1 := by simpa using e1
      rw [hu] at q
      exact (Option.some.inj q).symm
    subst hx1
    refine ⟨_, rfl, wpAny_letOwnedTupleGo_enum (s := { s with heap := h', toks := tk + 1 }) ho fun h'' he' sb => ?_⟩
    have hT2 : h''.get? s.heap.objs.size = some { cls := .type "tuple", data := .seq #[.int i tk, x1] } := (sb.2 _ (Nat.ne_of_gt hel)).trans hT
    have new : ObjOk X.prog X.w (upd H s.heap.objs.size (.tup [.int (i : Nat), x])) h'' s.heap.objs.size (.tup [.int (i : Nat), x]) :=
      ⟨by show 2 ≤ sizeLine; decide, [.int i tk, x1], .cons ⟨_, rfl⟩ (.cons ru .nil), ⟨_, hT2, rfl, _, rfl⟩⟩
    have I1 : Inv X pins σ (upd H s.heap.objs.size (.tup [.int (i : Nat), x])) { s with heap := h'', toks := tk + 1 } :=
      I.turnedNew (t' := tk + 1) (ch := [e, it]) (fun b ob hb q => (sb.2 b (fun z => hb (by simp [z]))).trans (hk b ob (fun z => hb (by simp [z])) (fun z => hb (by simp [z])) q)) hf (Nat.le_refl _) new
    refine ⟨.ref s.heap.objs.size, _, I1, rfl, ⟨_, x, rfl, I.hok.fresh (Nat.le_refl _), rfl, fun ys hy => by rw [sqB_inj I hy hq]; exact hx⟩, ⟨⟨x1, ?_⟩, itB_at hs'.1 fun o q => (sb.2 it (Ne.symm hne)).trans q, hne, hna, hea⟩, fun b hb => ?_⟩
    · have e1 : ((i + 1 : Nat) : Int) = (i : Int) + 1 := by omega
      rw [e1]; exact he'
    · have hb' : b < s.heap.objs.size := by
        have e' : b = e ∨ b = it := by simpa using hb
        rcases e' with z | z
        · rw [z]; exact hel
        · rw [z]; exact hil
      rw [upd_ne (Nat.ne_of_lt hb')]
      exact (hf b hb).1
  done := by
    intro X hP hw hK hc i pins s σ H E I hf st hg
    subst hP hw hK
    obtain ⟨⟨old, he⟩, hit, hne, hna, hea⟩ := st
    obtain ⟨xs, hq, hx⟩ := hg
    obtain ⟨its, rv, p, _⟩ := sqB_inv I hq
    obtain ⟨f0, f1, f2, f3, f4, f5⟩ := hf it (by simp)
    have hl := rv.length
    have hd : X.A.in1.handled = none := I.ok.hd hc
    have z1 : its.toArray.size = its.length := by simp
    have e1 : its.toArray.size = i := by omega
    refine wpAny_pyNext_enum_endD (drawsB hd k it a hna its.toArray) he (by rw [e1]; exact ⟨hit, p⟩) fun h' eb => ⟨rfl, I.turned (t' := s.toks) (fun b o hb q => eb b o hb q) f0 f1 f3 f4 f5⟩
  self := fun A i s Q E st h => let ⟨⟨_, he⟩, _⟩ := st; wpAny_pyIter_enum he h
def iEnumB (K : PySem.W.Frag) (ta : TA) : TI := fun σ H R => ta σ H fun vs H1 => ∃ a k xs, vs = [.ref a] ∧ SqB K H1 k a xs ∧ R (ItEB K k a) H1
theorem pi_enumB {X : Cx} {e : Expr} {ta : TA} {p pos tpos : Pos} {elts : List Expr} {kk : Nat} (hg : Gl X "enumerate") (hm : X.mg "enumerate" = none) (ha : PA X [e] ta) (hs : starEach [e] X.env = [(false, eval e X.env)] := by rfl) :
    PI X (.Tuple elts kk tpos) (.Call (.Name "enumerate" p) [e] [] pos) (iEnumB X.K ta) := by
  refine ⟨fun pins s σ H R I h => ?_⟩
  refine Call_ (ld_blt I hg hm boot_enumerate (PyProof.Rows.callWith_type1 (thn (ha.run pos pins s σ H _ I h) fun us s1 ⟨vs, H1, I1, r1, q1⟩ => ?_) hs rfl))
  obtain ⟨a, k, xs, ex, hq, q⟩ := q1
  subst ex
  cases r1 with
  | cons r rr =>
    cases rr
    cases r
    obtain ⟨its, rv, p', la⟩ := sqB_inv I1 hq
    refine call_enum1 (begins_B k a its.toArray) p' fun h' he hit hsz hk => wpAny_pyIter_enum he ?_
    have I2 : Inv X pins σ H1 { s1 with heap := h' } := I1.kept (t' := s1.toks) hk
    refine ⟨s1.heap.objs.size + 1, [s1.heap.objs.size + 1, s1.heap.objs.size], _, _, H1, rfl, I2, turn_enumB a (s1.heap.objs.size + 1) s1.heap.objs.size, ⟨⟨.none, he⟩, itB_new hit, Nat.succ_ne_self _, Nat.ne_of_lt la, fun z => Nat.lt_irrefl a (Nat.lt_of_lt_of_le la (Nat.le_trans (Nat.le_succ _) (Nat.le_of_eq z)))⟩, fun b hb => ?_, q⟩
    have e' : b = s1.heap.objs.size + 1 ∨ b = s1.heap.objs.size := by simpa using hb
    have hle : s1.heap.objs.size ≤ b := by
      rcases e' with z | z
      · rw [z]; exact Nat.le_add_right _ _
      · rw [z]; exact Nat.le_refl _
    exact I1.fpOk hle (I1.hok.fresh hle)
theorem walk_enumB {K : PySem.W.Frag} {k : Bool} {a : Addr} {xs : List V} : Walk (ItEB K k a) xs.length (fun H => SqB K H k a xs) (YPair (fun i => some (.int (i : Nat))) (fun i => xs[i]?)) := by
  refine ⟨fun i _ hi q => ⟨xs, xs[i], q, by simp [hi]⟩, fun _ q => ⟨xs, q, rfl⟩, fun i H v H' _ q y => ?_⟩
  obtain ⟨T, x, h1, h2, h3, h4⟩ := y
  exact ⟨T, .int (i : Nat), x, h1, h2, h3, rfl, h4 xs q⟩
end Rw

set_option Elab.async false
set_option linter.all false
set_option maxRecDepth 100000
set_option maxHeartbeats 4000000
/-! TkS: written dicts with int keys and with text keys: `in`, `d[k]`. -/
namespace Rw
open PySem PySem.Spec PyProof.Rows L2

inductive IntTab : List DictEntry → List (Int × Value) → Prop
  | nil : IntTab [] []
  | cons {e : DictEntry} {es : List DictEntry} {i : Int} {t : Tok} {v : Value} {kvs : List (Int × Value)} : e.key = .int i t → e.hash = hashInt i → e.val = v → IntTab es kvs → IntTab (e :: es) ((i, v) :: kvs)
inductive TxtTab (P : Params) : List DictEntry → List (Str × Value) → Prop
  | nil : TxtTab P [] []
  | cons {e : DictEntry} {es : List DictEntry} {x : Str} {t : Tok} {v : Value} {kvs : List (Str × Value)} : e.key = .str x t → e.hash = PyData.keyHash P x → e.val = v → TxtTab P es kvs → TxtTab P (e :: es) ((x, v) :: kvs)
def lookI (kvs : List (Int × Value)) (i : Int) : Option Value := (kvs.find? fun q => q.1 == i).map (·.2)
def lookS (kvs : List (Str × Value)) (x : Str) : Option Value := (kvs.find? fun q => q.1 == x).map (·.2)
theorem IntTab.find {es : List DictEntry} {kvs : List (Int × Value)} (T : IntTab es kvs) (i : Int) : findBy Value.isInt es.toArray i = lookI kvs i := by
  unfold findBy lookI
  rw [List.find?_toArray]
  induction T with
  | nil => rfl
  | cons k h v r ih =>
    rename_i e es j t u kvs
    rw [List.find?_cons, List.find?_cons]
    have e1 : Value.isInt i e.key = (j == i) := by rw [k] <;> rfl
    rw [e1]
    cases j == i with
    | true => simp [v]
    | false => exact ih
theorem TxtTab.find {P : Params} {es : List DictEntry} {kvs : List (Str × Value)} (T : TxtTab P es kvs) (x : Str) : findBy Value.isStrOf es.toArray x = lookS kvs x := by
  unfold findBy lookS
  rw [List.find?_toArray]
  induction T with
  | nil => rfl
  | cons k h v r ih =>
    rename_i e es y t u kvs
    rw [List.find?_cons, List.find?_cons]
    have e1 : Value.isStrOf x e.key = (y == x) := by rw [k] <;> rfl
    rw [e1]
    cases y == x with
    | true => simp [v]
    | false => exact ih
theorem IntTab.keys {es : List DictEntry} {kvs : List (Int × Value)} (T : IntTab es kvs) : ∀ e ∈ es, ∃ i t, e.key = .int i t ∧ e.hash = hashInt i := by
  induction T with
  | nil => intro e h; cases h
  | cons k h v r ih =>
    intro e he
    rcases List.mem_cons.mp he with z | z
    · rw [z]; exact ⟨_, _, k, h⟩
    · exact ih e z
theorem TxtTab.keys {P : Params} {es : List DictEntry} {kvs : List (Str × Value)} (T : TxtTab P es kvs) : ∀ e ∈ es, ∃ x t, e.key = .str x t ∧ e.hash = PyData.keyHash P x := by
  induction T with
  | nil => intro e h; cases h
  | cons k h v r ih =>
    intro e he
    rcases List.mem_cons.mp he with z | z
    · rw [z]; exact ⟨_, _, k, h⟩
    · exact ih e z
/-- at d: a written dict with int keys -/
structure TabI (K : PySem.W.Frag) (d : Addr) (kvs : List (Int × Value)) : Prop where
  at_ : ∃ (l : List DictEntry) (n : Nat), K.lookup d = some ⟨.type "dict", none, .dict l.toArray n, #[]⟩ ∧ IntTab l kvs
  low : (d == sysModules) = false
structure TabS (K : PySem.W.Frag) (w : World) (d : Addr) (kvs : List (Str × Value)) : Prop where
  at_ : ∃ (l : List DictEntry) (n : Nat), K.lookup d = some ⟨.type "dict", none, .dict l.toArray n, #[]⟩ ∧ TxtTab w.params l kvs
  low : (d == sysModules) = false
section
variable {X : Cx} {d : Addr} {pins : List (Addr × Obj)} {σ : L2.St} {H : Hp} {s : Shared}
theorem tabI_map {kvs : List (Int × Value)} (T : TabI X.K d kvs) (I : Inv X pins σ H s) : s.heap.MapOf (PySem.intKind X.prog X.w) d (lookI kvs) := by
  obtain ⟨l, n, hl, t⟩ := T.at_
  refine ⟨_, l.toArray, n, I.kIn _ _ hl, ⟨rfl, rfl, rfl⟩, rfl, fun e he => ?_, fun k => t.find k⟩
  obtain ⟨i, tk, e1, e2⟩ := t.keys e (by simpa using he)
  exact ⟨i, by rw [e1]; exact PySem.intKind_is X.prog X.w i tk, e2⟩
theorem tabS_map {kvs : List (Str × Value)} (T : TabS X.K X.w d kvs) (I : Inv X pins σ H s) : s.heap.MapOf (PySem.strKind X.prog X.w) d (lookS kvs) := by
  obtain ⟨l, n, hl, t⟩ := T.at_
  refine ⟨_, l.toArray, n, I.kIn _ _ hl, ⟨rfl, rfl, rfl⟩, rfl, fun e he => ?_, fun k => t.find k⟩
  obtain ⟨i, tk, e1, e2⟩ := t.keys e (by simpa using he)
  exact ⟨i, by rw [e1]; exact PySem.strKind_is X.prog X.w i tk, e2⟩
theorem op_in_ti {kvs : List (Int × Value)} (T : TabI X.K d kvs) : OpR X (compareOp .In) (fun x y H Q => ∃ i, x = .int i ∧ y = .ref d ∧ Q (.bl (lookI kvs i).isSome) H) := by
  intro pins s σ H x y v u Q I rx ry h
  obtain ⟨i, rfl, rfl, q⟩ := h
  obtain ⟨t, rfl⟩ := rx
  cases ry
  exact wpAny_in_of (PySem.intKind_is X.prog X.w i t) T.low (tabI_map T I) ⟨.bl _, H, I.tok _, rfl, q⟩
theorem op_in_ts {kvs : List (Str × Value)} (T : TabS X.K X.w d kvs) : OpR X (compareOp .In) (fun x y H Q => ∃ z, x = .str z ∧ y = .ref d ∧ Q (.bl (lookS kvs z).isSome) H) := by
  intro pins s σ H x y v u Q I rx ry h
  obtain ⟨z, rfl, rfl, q⟩ := h
  obtain ⟨t, rfl⟩ := rx
  cases ry
  exact wpAny_in_of (PySem.strKind_is X.prog X.w z t) T.low (tabS_map T I) ⟨.bl _, H, I.tok _, rfl, q⟩
theorem ix_ti {kvs : List (Int × Value)} (T : TabI X.K d kvs) : IxR X (fun x y H Q => ∃ i u v, x = .ref d ∧ y = .int i ∧ lookI kvs i = some u ∧ RelV v u ∧ Q v H) := by
  intro value slice pins s σ H x y v u Q I rx ry h hs
  obtain ⟨i, u0, r, rfl, rfl, e, ru, q⟩ := h
  obtain rfl : v = Value.ref d := rx
  obtain ⟨t, rfl⟩ := ry
  have hm := tabI_map T I
  exact tail_any hm.typeIs slot_dict_getitem.lookup (wpAny_getItem_of (PySem.intKind_is X.prog X.w i t) hm e ⟨r, H, I.tok _, ru, q⟩) hs
theorem ix_ts {kvs : List (Str × Value)} (T : TabS X.K X.w d kvs) : IxR X (fun x y H Q => ∃ z u v, x = .ref d ∧ y = .str z ∧ lookS kvs z = some u ∧ RelV v u ∧ Q v H) := by
  intro value slice pins s σ H x y v u Q I rx ry h hs
  obtain ⟨z, u0, r, rfl, rfl, e, ru, q⟩ := h
  obtain rfl : v = Value.ref d := rx
  obtain ⟨t, rfl⟩ := ry
  have hm := tabS_map T I
  exact tail_any hm.typeIs slot_dict_getitem.lookup (wpAny_getItem_of (PySem.strKind_is X.prog X.w z t) hm e ⟨r, H, I.tok _, ru, q⟩) hs
end
/-! the tables of this program -/
theorem prime_tab {us : List Value} {v1 v2 v3 v4 v5 v6 : Value} (i : Int) : (lookI [(2, v1), (3, v2), (5, v3), (7, v4), (11, v5), (13, v6)] i).isSome = decide (i ∈ primesL) := by
  unfold lookI primesL
  by_cases h : i ∈ ([2, 3, 5, 7, 11, 13] : List Int)
  · rw [decide_eq_true h]
    simp only [List.mem_cons, List.not_mem_nil, or_false] at h
    rcases h with e | e | e | e | e | e <;> subst e <;> rfl
  · rw [decide_eq_false h]
    simp only [List.mem_cons, List.not_mem_nil, or_false, not_or] at h
    obtain ⟨a, b, c, d, e, f⟩ := h
    have z : ∀ j : Int, ¬ i = j → (j == i) = false := fun j q => by simp; exact fun y => q y.symm
    simp [List.find?, z 2 a, z 3 b, z 5 c, z 7 d, z 11 e, z 13 f]
def isArr (c : Nat) : Bool := c == 62 || c == 60
theorem arr_tab {v1 v2 : Value} (c : Nat) : (lookS [(">", v1), ("<", v2)] ⟨#[c]⟩).isSome = isArr c := by
  unfold lookS isArr
  by_cases h1 : c = 62
  · subst h1; rfl
  · by_cases h2 : c = 60
    · subst h2; rfl
    · have z1 : ((">" : Str) == (⟨#[c]⟩ : Str)) = false := by
        refine beq_eq_false_iff_ne.mpr fun e => h1 ?_
        have := congrArg (fun x : Str => x.cps[0]?) e
        exact (Option.some.inj this).symm
      have z2 : (("<" : Str) == (⟨#[c]⟩ : Str)) = false := by
        refine beq_eq_false_iff_ne.mpr fun e => h2 ?_
        have := congrArg (fun x : Str => x.cps[0]?) e
        exact (Option.some.inj this).symm
      simp [List.find?, z1, z2, h1, h2]
end Rw

set_option Elab.async false
set_option linter.all false
set_option maxRecDepth 100000
set_option maxHeartbeats 4000000
/-! TkBA: what stands behind the top: methods of a class, written tables, ints, defs with two defaults. -/
namespace Rw
open PySem PySem.Spec PyProof.Rows L2
def MethHere (K : PySem.W.Frag) (C : Addr) (x q : Str) (st : Stmt) : Prop := ∃ f : Addr, PySem.W.findIn K (.ref C) x = some (some (.ref f)) ∧ PySem.W.isFn K (.ref f) = true ∧ DefAt K x q st f
def TabIHere (K : PySem.W.Frag) (x : Str) (d : Addr) (kvs : List (Int × Value)) : Prop := PySem.W.nsIn K mainGlobals x = some (some (.ref d)) ∧ TabI K d kvs
def TabSHere (K : PySem.W.Frag) (w : World) (x : Str) (d : Addr) (kvs : List (Str × Value)) : Prop := PySem.W.nsIn K mainGlobals x = some (some (.ref d)) ∧ TabS K w d kvs
section
variable {K : PySem.W.Frag} {mg : Str → Option Value} {h : Heap}
theorem MethHere.of {C : Addr} {x q : Str} {st : Stmt} {f : Addr} {oc : Value} {od : Option Addr} {kV dc pm : Value} {an : Option Addr} {cd ct : Value} {sl : Array (Option Value)} (g : PySem.W.findIn K (.ref C) x = some (some (.ref f))) (fn : PySem.W.isFn K (.ref f) = true)
    (l : K.lookup f = some ⟨oc, od, .func (PySem.W.fnOf x q (defArgs st) (defBody st) (defScope st) .none kV dc pm an cd ct), sl⟩) (c : PySem.W.codeIn K cd q = true) (k : PySem.W.keepIn K (.ref f) = true) : MethHere K C x q st :=
  ⟨f, g, fn, oc, od, kV, dc, pm, an, cd, ct, sl, l, c, k⟩
theorem TabIHere.of {x : Str} {d : Addr} {kvs : List (Int × Value)} {l : List DictEntry} {n : Nat} (g : PySem.W.nsIn K mainGlobals x = some (some (.ref d))) (k : K.lookup d = some ⟨.type "dict", none, .dict l.toArray n, #[]⟩) (t : IntTab l kvs) (z : (d == sysModules) = false) : TabIHere K x d kvs :=
  ⟨g, ⟨⟨l, n, k, t⟩, z⟩⟩
theorem TabSHere.of {w : World} {x : Str} {d : Addr} {kvs : List (Str × Value)} {l : List DictEntry} {n : Nat} (g : PySem.W.nsIn K mainGlobals x = some (some (.ref d))) (k : K.lookup d = some ⟨.type "dict", none, .dict l.toArray n, #[]⟩) (t : TxtTab w.params l kvs) (z : (d == sysModules) = false) : TabSHere K w x d kvs :=
  ⟨g, ⟨⟨l, n, k, t⟩, z⟩⟩
theorem MethHere.mt {C : Addr} {x q : Str} {st : Stmt} {ps : List Str} (D : MethHere K C x q st)
    (b : ∀ (kV doc pm : Value) (an : Option Addr) (cdv ct : Value) (us : List Value), us.length = ps.length → bindArgs (PySem.W.fnOf x q (defArgs st) (defBody st) (defScope st) .none kV doc pm an cdv ct) ⟨us, []⟩ = pure (ps.zip us)) :
    ∃ (f : Addr) (fd : FuncData), PySem.W.findIn K (.ref C) x = some (some (.ref f)) ∧ PySem.W.isFn K (.ref f) = true ∧ PySem.W.keepIn K (.ref f) = true ∧ Fun K x q st f fd ∧ Binds K fd ps [] := by
  obtain ⟨f, g, fn, oc, od, kV, dc, pm, an, cd, ct, sl, l, c, k⟩ := D
  have F := fun_mk (x := x) (qual := q) (st := st) l c k
  exact ⟨f, _, g, fn, k, F, F.binds b⟩
end
/-- a def with two defaults None, called with all three -/
theorem DflHere.own3 {l : PySem.Program} {w : World} {K : PySem.W.Frag} {mg : Str → Option Value} {base h : Heap} {x p1 p2 p3 : Str} {st : Stmt} {CX : CXT} {k : Nat} {sp : Sp} (D : DflHere K x st [.none, .none]) (X : K.In h) (G : h.Ns mainGlobals mg)
    (b : ∀ (T : Addr) (kV doc pm : Value) (an : Option Addr) (cdv ct : Value) (us its : List Value), us.length = 3 → its.length = 2 →
      ∃ g, bindArgs (PySem.W.fnOf x x (defArgs st) (defBody st) (defScope st) (.ref T) kV doc pm an cdv ct) ⟨us, []⟩ = seqItems? (.ref T) >>= g ∧ g (some its.toArray) = pure (([p1, p2, p3] : List Str).zip (us ++ its.drop 2)))
    (ok : ∀ (f : Addr) (fd : FuncData), FunD K x x (defArgs st) (defBody st) (defScope st) [.non, .non] [] f fd → FnOk l w K mg base CX k f fd [p1, p2, p3] sp) : Own l w K mg base CX k x [p1, p2, p3] [] sp := by
  obtain ⟨f, T', oc, od, kV, dc, pm, an, cd, ct, sl, tc, td, n, ts, g, l', c', k', lT⟩ := D
  have F : FunD K x x (defArgs st) (defBody st) (defScope st) [.non, .non] [] f _ := ⟨⟨oc, od, _, kV, dc, pm, an, cd, ct, sl, rfl, l', c', .inr ⟨by simp, T', _, [.none, .none], n, rfl, lT, rfl, .cons rfl (.cons rfl .nil)⟩, .inl rfl⟩, k'⟩
  obtain ⟨ds, v, bb⟩ := F.binds1 (ps := [p1, p2, p3]) 3 2 (by simp) rfl b
  exact ⟨f, _, ds, PySem.W.mg_of X G g, k', ok f _ F, bb, v⟩
end Rw

set_option Elab.async false
set_option linter.all false
set_option maxRecDepth 100000
set_option maxHeartbeats 4000000
/-! TkBB: the written table of inverses. -/
namespace Rw
open PySem PySem.Spec PyProof.Rows L2
def invL (p : Int) : List Int :=
  if p = 2 then [0, 1] else if p = 3 then [0, 1, 2] else if p = 5 then [0, 1, 3, 2, 4] else if p = 7 then [0, 1, 4, 5, 2, 3, 6]
  else if p = 11 then [0, 1, 6, 4, 3, 9, 2, 8, 7, 5, 10] else [0, 1, 7, 9, 10, 8, 11, 2, 5, 3, 4, 6, 12]
/-- for each prime the tuple of the inverses stands in the table -/
structure TabInv (K : PySem.W.Frag) (kI : List (Int × Value)) : Prop where
  at_ : ∀ p, p ∈ primesL → ∃ a, lookI kI p = some (.ref a) ∧ ∀ H : Hp, SqT K H a ((invL p).map V.int)
theorem invL_ok : ∀ p, p ∈ primesL → ∀ j : Nat, j < p.toNat → 0 < j → ∃ r : Int, (invL p)[j]? = some r ∧ 0 < r ∧ r < p ∧ (r * j) % p = 1 := by
  intro p hp
  have h : ∀ p, p ∈ primesL → ∀ j : Nat, j < p.toNat → 0 < j → (match (invL p)[j]? with | some r => decide (0 < r) && decide (r < p) && decide ((r * j) % p = 1) | none => false) = true := by decide +kernel
  intro j h1 h2
  have := h p hp j h1 h2
  cases e : (invL p)[j]? with
  | none => rw [e] at this; cases this
  | some r =>
    rw [e] at this
    simp only [Bool.and_eq_true, decide_eq_true_iff] at this
    exact ⟨r, rfl, this.1.1, this.1.2, this.2⟩
def TupHere (K : PySem.W.Frag) (a : Addr) (us : List Value) : Prop := ∃ (dd : Option Addr) (n : Nat) (sl : Array (Option Value)), K.lookup a = some ⟨.type "tuple", dd, .seq us.toArray n, sl⟩
section
variable {K : PySem.W.Frag}
theorem TupHere.of {a : Addr} {us : List Value} {dd : Option Addr} {n : Nat} {sl : Array (Option Value)} (l : K.lookup a = some ⟨.type "tuple", dd, .seq us.toArray n, sl⟩) : TupHere K a us := ⟨dd, n, sl, l⟩
theorem TupHere.sq {a : Addr} {us : List Value} {xs : List V} (E : TupHere K a us) (r : Vals xs us) (z : xs.length ≤ sizeLine) (H : Hp) : SqT K H a xs := by
  obtain ⟨dd, n, sl, l⟩ := E
  exact Or.inr ⟨_, us.toArray, n, l, rfl, rfl, by rw [r.length] at z; simpa using z, by simpa using r⟩
/-- the written table with its tuples -/
structure InvHere (K : PySem.W.Frag) (x : Str) (aI a2 a3 a5 a7 a11 a13 : Addr) (u2 u3 u5 u7 u11 u13 : List Value) : Prop where
  t : TabIHere K x aI [(2, .ref a2), (3, .ref a3), (5, .ref a5), (7, .ref a7), (11, .ref a11), (13, .ref a13)]
  k2 : TupHere K a2 u2
  k3 : TupHere K a3 u3
  k5 : TupHere K a5 u5
  k7 : TupHere K a7 u7
  k11 : TupHere K a11 u11
  k13 : TupHere K a13 u13
  v2 : Vals ((invL 2).map V.int) u2
  v3 : Vals ((invL 3).map V.int) u3
  v5 : Vals ((invL 5).map V.int) u5
  v7 : Vals ((invL 7).map V.int) u7
  v11 : Vals ((invL 11).map V.int) u11
  v13 : Vals ((invL 13).map V.int) u13
theorem InvHere.tab {x : Str} {aI a2 a3 a5 a7 a11 a13 : Addr} {u2 u3 u5 u7 u11 u13 : List Value} (E : InvHere K x aI a2 a3 a5 a7 a11 a13 u2 u3 u5 u7 u11 u13) : TabInv K [(2, .ref a2), (3, .ref a3), (5, .ref a5), (7, .ref a7), (11, .ref a11), (13, .ref a13)] := by
  refine ⟨fun p hp => ?_⟩
  simp only [primesL, List.mem_cons, List.not_mem_nil, or_false] at hp
  rcases hp with z | z | z | z | z | z <;> subst z
  · exact ⟨a2, rfl, E.k2.sq E.v2 (by decide)⟩
  · exact ⟨a3, rfl, E.k3.sq E.v3 (by decide)⟩
  · exact ⟨a5, rfl, E.k5.sq E.v5 (by decide)⟩
  · exact ⟨a7, rfl, E.k7.sq E.v7 (by decide)⟩
  · exact ⟨a11, rfl, E.k11.sq E.v11 (by decide)⟩
  · exact ⟨a13, rfl, E.k13.sq E.v13 (by decide)⟩
end
end Rw

set_option Elab.async false
set_option linter.all false
set_option maxRecDepth 100000
set_option maxHeartbeats 4000000
/-! K2A: the program's own defs. -/
namespace K2
open PySem PySem.Spec PyProof.Rows L2 Rw
def top (i : Nat) : Stmt := PySem.Challenge.pw_maprows_k02_integers_primes_and_inverses.main.body.getD i (.Pass ⟨0, 0, 0, 0⟩)
abbrev sNum : Stmt := top 6
abbrev sInt : Stmt := top 7
abbrev sPrime : Stmt := top 8
abbrev sCheck : Stmt := top 9
abbrev sInv : Stmt := top 10
theorem scNum : FnScope ["value"] ["value"] (defScope sNum) := ⟨rfl, rfl, rfl, by decide +kernel, rfl, by decide +kernel, by decide +kernel⟩
theorem scInt : FnScope ["value", "low", "high"] ["value", "low", "high"] (defScope sInt) := ⟨rfl, rfl, rfl, by decide +kernel, rfl, by decide +kernel, by decide +kernel⟩
theorem scPrime : FnScope ["value"] ["value"] (defScope sPrime) := ⟨rfl, rfl, rfl, by decide +kernel, rfl, by decide +kernel, by decide +kernel⟩
theorem scCheck : FnScope ["prime"] ["prime"] (defScope sCheck) := ⟨rfl, rfl, rfl, by decide +kernel, rfl, by decide +kernel, by decide +kernel⟩
abbrev NInv : List Str := ["number", "prime"]
theorem scInv : FnScope NInv ["number", "prime"] (defScope sInv) := ⟨rfl, rfl, rfl, by decide +kernel, rfl, by decide +kernel, by decide +kernel⟩

/-- what the top has left for the program's defs -/
structure Txt (K : PySem.W.Frag) (w : World) (mg : Str → Option Value) (aI CP CN : Addr) (kI : List (Int × Value)) : Prop where
  isi : mg "isinstance" = none
  int : mg "int" = none
  bool : mg "bool" = none
  range : mg "range" = none
  gI : mg "INVERSES" = some (.ref aI)
  tI : TabI K aI kI
  hI : ∀ i, (lookI kI i).isSome = decide (i ∈ primesL)
  vI : TabInv K kI
  eP : Err K mg "InvalidPrime" CP
  eN : Err K mg "NoInverse" CN

/-! ### the promises -/
def spNum : Sp := fun vs H Q _ => ∃ v d, vs = [v] ∧ Any H v d ∧ Q (.bl (isIntD d)) H
def aboveD (n : Int) : PyData → Bool
  | .int l => decide (l ≤ n)
  | _ => true
def belowD (n : Int) : PyData → Bool
  | .int l => decide (n ≤ l)
  | _ => true
def inB : PyData → PyData → PyData → Bool
  | .int n, l, h => aboveD n l && belowD n h
  | _, _, _ => false
def spInt : Sp := fun vs H Q _ => ∃ v l h d dl dh, vs = [v, l, h] ∧ Any H v d ∧ Any H l dl ∧ Any H h dh ∧ Q (.bl (inB d dl dh)) H
def spPrime : Sp := fun vs H Q _ => ∃ v d, vs = [v] ∧ Any H v d ∧ Q (.bl (isPr d)) H
def spCheck (CP : Addr) : Sp := fun vs H Q E => ∃ v d, vs = [v] ∧ Any H v d ∧ (isPr d = true → Q .non H) ∧ (isPr d = false → Thrown CP v H E)
def spInv (CP CN : Addr) : Sp := fun vs H Q E => ∃ n v d, vs = [.int n, v] ∧ Any H v d ∧ (isPr d = false → Thrown CP v H E) ∧
  (∀ p, d = .int p → p ∈ primesL → (n % p = 0 → Thrown CN (.int n) H E) ∧ (n % p ≠ 0 → ∀ r H', Same H H' → 0 < r → r < p → (r * n) % p = 1 → Q (.int r) H'))

section
variable {P : Program} {w : World} {K : PySem.W.Frag} {mg : Str → Option Value} {base : Heap} {aI CP CN : Addr} {kI : List (Int × Value)}
/-! ### the bodies -/
theorem okNum {f : Addr} {fd : FuncData} (F : Fun K "is_number" "is_number" sNum f fd) (T : Txt K w mg aI CP CN kI) : FnOk P w K mg base CX0 1 f fd ["value"] spNum := by
  refine F.ok scNum (fun vs H Q E h => ?_) (fun cdv A outer s H vs Q E hr h => ?_)
  · obtain ⟨v, d, rfl, _⟩ := h
    rfl
  · obtain ⟨v, d, rfl, an, q⟩ := h
    refine ⟨_, (pss_one (ps_ret (pe_and (pe_callB call_isi (by rfl) T.isi (by decide +kernel) (pa_cons (pv 0) (pa_cons (pe_bltn (v := .ty "int") rfl T.int boot_int rfl) pa_nil))) (pe_one (pe_not (pe_callB call_isi (by rfl) T.isi (by decide +kernel) (pa_cons (pv 0) (pa_cons (pe_bltn (v := .ty "bool") rfl T.bool (by decide +kernel) rfl) pa_nil)))))))), ?_⟩
    refine ⟨v, rfl, v, .ty "int", _, _, _, rfl, .ty _, any_ty an, kit_int d, _, rfl, ?_⟩
    cases an with
    | bl b => exact iteT ⟨_, rfl, _, .ty "bool", _, _, _, rfl, .ty _, any_ty (.bl b), kit_bool (.bool b), _, rfl, q⟩
    | int i => exact iteT ⟨_, rfl, _, .ty "bool", _, _, _, rfl, .ty _, any_ty (.int i), kit_bool (.int i), _, rfl, q⟩
    | _ => exact iteF q
theorem okInt {f : Addr} {fd : FuncData} (F : FunD K "is_integer" "is_integer" (defArgs sInt) (defBody sInt) (defScope sInt) [.non, .non] [] f fd) (GN : Own P w K mg base CX0 1 "is_number" ["value"] [] spNum) :
    FnOk P w K mg base CX0 2 f fd ["value", "low", "high"] spInt := by
  refine F.ok scInt (fun vs H Q E h => ?_) (fun cdv A outer s H vs Q E hr h => ?_)
  · obtain ⟨v, l, h, d, dl, dh, rfl, _⟩ := h
    rfl
  · obtain ⟨v, l, h, d, dl, dh, rfl, an, al, ah, q⟩ := h
    refine ⟨_, (pss_cons (ps_if (pt_not (pt_val (pe_own GN hr pass0 (pa_cons (pv 0) pa_nil)))) (pss_one (ps_ret pe_bl)) pss_nil)
      (pss_cons (ps_if (PW.pt (pw_and (pt_val (pe_own GN hr pass0 (pa_cons (pv 1) pa_nil))) (pw_and1 (pt_cmpR op_lt (pv 0) (pv 1) (nomark _))))) (pss_one (ps_ret pe_bl)) pss_nil)
      (pss_one (ps_ret (pe_not (pe_and (pe_own GN hr pass0 (pa_cons (pv 2) pa_nil)) (pe_one (pe_cmpR op_gt (pv 0) (pv 2) (nomark _))))))))), ?_⟩
    refine ⟨_, rfl, _, d, rfl, an, _, rfl, ?_⟩
    cases ed : isIntD d with
    | false =>
      refine iteT ?_
      have e : inB d dl dh = false := by cases d <;> first | rfl | cases ed
      rw [e] at q
      exact q
    | true =>
      obtain ⟨n, rfl, rfl⟩ := int_of an ed
      refine iteF ⟨_, rfl, _, dl, rfl, al, _, rfl, ?_⟩
      have last : aboveD n dl = true → tRet (tNotV (tAndV (tCall spNum [] E0 (tCons (tVar 2) tNil)) (tOp (rI0 fun i j => .bl (decide (j < i))) (tVar 0) (tVar 2)))) { nx := fun _ H' => Q .non H', rt := Q } (start ["value", "low", "high"] [.int n, l, h]) H := by
        intro ea
        refine ⟨_, rfl, _, dh, rfl, ah, _, rfl, ?_⟩
        cases eh : isIntD dh with
        | false =>
          refine iteF ⟨_, rfl, ?_⟩
          have e : inB (.int n) dl dh = true := by
            show (aboveD n dl && belowD n dh) = true
            rw [ea]
            cases dh <;> first | rfl | cases eh
          rw [e] at q
          exact q
        | true =>
          obtain ⟨m, rfl, rfl⟩ := int_of ah eh
          refine iteT ⟨_, rfl, _, rfl, _, _, rfl, rfl, _, rfl, ?_⟩
          have e : inB (.int n) dl (.int m) = !decide (m < n) := by
            show (aboveD n dl && decide (n ≤ m)) = _
            rw [ea]
            by_cases z : m < n
            · rw [decide_eq_true z, decide_eq_false (by omega)] <;> rfl
            · rw [decide_eq_false z, decide_eq_true (by omega)] <;> rfl
          rw [e] at q
          exact q
      cases el : isIntD dl with
      | false =>
        refine iteF (iteF (last ?_))
        cases dl <;> first | rfl | cases el
      | true =>
        obtain ⟨m, rfl, rfl⟩ := int_of al el
        refine iteT ⟨_, rfl, _, rfl, _, _, rfl, rfl, _, rfl, ?_⟩
        refine ite2 (fun z => ?_) (fun z => last ?_)
        · have e : inB (.int n) (.int m) dh = false := by
            show (decide (m ≤ n) && belowD n dh) = false
            have z2 := of_decide_eq_true z
            rw [decide_eq_false (by omega)] <;> rfl
          rw [e] at q
          exact q
        · have z2 : ¬ n < m := fun y => z (decide_eq_true y)
          exact decide_eq_true (by omega)
theorem okPrime {f : Addr} {fd : FuncData} (F : Fun K "is_prime" "is_prime" sPrime f fd) (T : Txt K w mg aI CP CN kI) (GN : Own P w K mg base CX0 1 "is_number" ["value"] [] spNum) : FnOk P w K mg base CX0 2 f fd ["value"] spPrime := by
  refine F.ok scPrime (fun vs H Q E h => ?_) (fun cdv A outer s H vs Q E hr h => ?_)
  · obtain ⟨v, d, rfl, _⟩ := h
    rfl
  · obtain ⟨v, d, rfl, an, q⟩ := h
    refine ⟨_, (pss_one (ps_ret (pe_and (pe_own GN hr pass0 (pa_cons (pv 0) pa_nil)) (pe_one (pe_cmpR (op_in_ti T.tI) (pv 0) (pe_glob (v := .ref aI) rfl T.gI rfl) (by rfl)))))), ?_⟩
    refine ⟨_, rfl, _, d, rfl, an, _, rfl, ?_⟩
    cases ed : isIntD d with
    | false =>
      refine iteF ?_
      have e : isPr d = false := by cases d <;> first | rfl | cases ed
      rw [e] at q
      exact q
    | true =>
      obtain ⟨n, rfl, rfl⟩ := int_of an ed
      refine iteT ⟨_, rfl, n, rfl, rfl, ?_⟩
      rw [T.hI]
      exact q
theorem okCheck {f : Addr} {fd : FuncData} (F : Fun K "check_prime" "check_prime" sCheck f fd) (T : Txt K w mg aI CP CN kI) (GP : Own P w K mg base CX0 2 "is_prime" ["value"] [] spPrime) : FnOk P w K mg base (L2.CX P w) 4 f fd ["prime"] (spCheck CP) := by
  refine F.okX scCheck (fun vs H Q E h => ?_) (fun cdv A outer s H vs Q E hr h => ?_)
  · obtain ⟨v, d, rfl, _⟩ := h
    rfl
  · obtain ⟨v, d, rfl, an, qt, qf⟩ := h
    refine ⟨_, (pss_one (ps_if (pt_not (pt_val (pe_own GP (hr.mono (by decide)) pass0 (pa_cons (pv 0) pa_nil)))) (pss_one (ps_throw T.eP rfl (hr.mono (by decide)) (takes_of rfl rfl rfl rfl) (pv 0))) pss_nil)), ?_⟩
    refine ⟨_, rfl, _, d, rfl, an, _, rfl, ?_⟩
    cases e : isPr d with
    | true => exact iteF (qt e)
    | false => exact iteT ⟨_, rfl, thrown_go (qf e)⟩
end
end K2

set_option Elab.async false
set_option linter.all false
set_option maxRecDepth 100000
set_option maxHeartbeats 4000000
/-! K2B: inverse. -/
namespace K2
open PySem PySem.Spec PyProof.Rows L2 Rw
section
variable {P : Program} {w : World} {K : PySem.W.Frag} {mg : Str → Option Value} {base : Heap} {aI CP CN : Addr} {kI : List (Int × Value)}
theorem dec_ints {a b : Int} : decide (V.int a = V.int b) = decide (a = b) := by
  by_cases h : a = b
  · rw [h, decide_eq_true rfl, decide_eq_true rfl]
  · rw [decide_eq_false h, decide_eq_false (fun z => h (V.int.inj z))]
theorem okInv {f : Addr} {fd : FuncData} (F : Fun K "inverse" "inverse" sInv f fd) (T : Txt K w mg aI CP CN kI) (GN : Own P w K mg base CX0 1 "is_number" ["value"] [] spNum) (GC : Own P w K mg base (L2.CX P w) 4 "check_prime" ["prime"] [] (spCheck CP)) :
    FnOk P w K mg base (L2.CX P w) 6 f fd ["number", "prime"] (spInv CP CN) := by
  refine F.okX scInv (fun vs H Q E h => ?_) (fun cdv A outer s H vs Q E hr h => ?_)
  · obtain ⟨n, v, d, rfl, _⟩ := h
    rfl
  · obtain ⟨n, v, d, rfl, an, kf, kt⟩ := h
    refine ⟨_, (pss_cons (ps_expr (pe_own (E := E) GC (hr.mono (by decide)) (passes_call (takes_of rfl rfl rfl rfl) (fun _ _ _ _ z => z)) (pa_cons (pv 1) pa_nil)))
      (pss_cons (ps_if (PW.pt (pw_or (pt_not (pt_val (pe_own GN (hr.mono (by decide)) pass0 (pa_cons (pv 0) pa_nil)))) (pw_or1 (pt_cmpR op_eq (pe_op op_modN (pv 0) (pv 1)) pe_int (nomark _)))))
        (pss_one (ps_throw T.eN rfl (hr.mono (by decide)) (takes_of rfl rfl rfl rfl) (pv 0))) pss_nil)
      (pss_one (ps_ret (pe_ix ix_tup (pe_ix (ix_ti T.tI) (pe_glob (v := .ref aI) rfl T.gI rfl) (pv 1) (fun _ _ => rfl)) (pe_op op_modN (pv 0) (pv 1)) (fun _ _ => rfl)))))), ?_⟩
    refine ⟨_, rfl, v, d, rfl, an, fun ep => ?_, kf⟩
    have ei : isIntD d = true := by cases d <;> first | rfl | cases ep
    obtain ⟨p, rfl, rfl⟩ := int_of an ei
    have hp : p ∈ primesL := of_decide_eq_true ep
    obtain ⟨k0, k1⟩ := kt p rfl hp
    have pp := prime_pos hp
    refine ⟨_, rfl, _, _, rfl, .int n, _, rfl, iteF ⟨_, rfl, _, rfl, _, _, rfl, rfl, (by show p ≠ 0; omega), rfl, _, rfl, ?_⟩⟩
    rw [dec_ints, fmod_pos (by omega)]
    refine ite2 (fun z => ⟨_, rfl, thrown_go (k0 (of_decide_eq_true z))⟩) (fun z => ?_)
    have nz : n % p ≠ 0 := fun y => z (decide_eq_true y)
    obtain ⟨a, la, sq⟩ := T.vI.at_ p hp
    refine ⟨_, rfl, p, _, .ref a, rfl, rfl, la, rfl, _, rfl, _, rfl, n, p, rfl, rfl, (by omega), ?_⟩
    have h0 := Int.emod_nonneg n (by omega : p ≠ 0)
    have h1 := Int.emod_lt_of_pos n (by omega : 0 < p)
    obtain ⟨j, ej⟩ : ∃ j : Nat, n % p = (j : Int) := ⟨(n % p).toNat, by omega⟩
    obtain ⟨r, er, r0, r1, r2⟩ := invL_ok p hp j (by omega) (by omega)
    refine ⟨a, _, n.fmod p, .int r, rfl, rfl, sq _, ?_, ?_⟩
    · rw [fmod_pos (by omega), ej]
      exact atI_nat (by rw [List.getElem?_map, er] <;> rfl)
    · refine k1 nz r _ (Same.refl _) r0 r1 ?_
      rw [← ej] at r2
      rw [← r2, Int.mul_emod r n, Int.mul_emod r (n % p), Int.emod_emod_of_dvd n (Int.dvd_refl p)]
end
end K2

set_option Elab.async false
set_option linter.all false
set_option maxRecDepth 100000
set_option maxHeartbeats 4000000
/-! K2C: the law's cells, boxes, draws. -/
namespace K2
open PySem PySem.Spec PyProof.Rows L2 Rw
abbrev sCell : Stmt := top 12
abbrev sBox : Stmt := top 13
abbrev sTake : Stmt := top 14
theorem scCell : FnScope ["_law_script", "_law_k"] ["_law_script", "_law_k"] (defScope sCell) := ⟨rfl, rfl, rfl, by decide +kernel, rfl, by decide +kernel, by decide +kernel⟩
theorem scBox : FnScope ["_law_cell_here"] ["_law_cell_here"] (defScope sBox) := ⟨rfl, rfl, rfl, by decide +kernel, rfl, by decide +kernel, by decide +kernel⟩
theorem scTake : FnScope ["_law_box_here", "_law_many", "_law_digit", "_law_number"] ["_law_box_here", "_law_many"] (defScope sTake) := ⟨rfl, rfl, rfl, by decide +kernel, rfl, by decide +kernel, by decide +kernel⟩
end K2
namespace Rw
open PySem PySem.Spec PyProof.Rows L2
/-- any int of the script, or a number of the law's own -/
def spCellR (K : PySem.W.Frag) : Sp := fun vs H Q _ => ∃ (a : Addr) (ns : List Int) (j : Nat), vs = [.ref a, .int (j : Int)] ∧ SqL K H a (ns.map V.int) ∧ j < 1000 ∧ ∀ z : Int, Q (.int z) H
/-- at p a box that was drawn from at most n times -/
def Bx (H : Hp) (p : Addr) (n : Nat) : Prop := ∃ a b c : Int, H p = some (.lst [.int a, .int b, .int c]) ∧ 0 ≤ a ∧ 0 ≤ b ∧ b < 2147483629 ∧ 0 ≤ c ∧ c ≤ (n : Int)
theorem Bx.more {H : Hp} {p : Addr} {n m : Nat} (h : Bx H p n) (l : n ≤ m) : Bx H p m := by
  obtain ⟨a, b, c, h1, h2, h3, h4, h5, h6⟩ := h
  exact ⟨a, b, c, h1, h2, h3, h4, h5, by omega⟩
theorem Bx.keep {H H' : Hp} {p : Addr} {n : Nat} (h : Bx H p n) (k : Same H H') : Bx H' p n := by
  obtain ⟨a, b, c, h1, r⟩ := h
  exact ⟨a, b, c, k _ _ h1, r⟩
theorem Bx.ne {H : Hp} {p q : Addr} {n : Nat} (h : Bx H p n) (hq : H q = none) : p ≠ q := by
  obtain ⟨a, b, c, h1, _⟩ := h
  exact ne_of_none h1 hq
def spBoxR : Sp := fun vs H Q _ => ∃ z : Int, vs = [.int z] ∧ ∀ p H', H p = none → Same H H' → Bx H' p 0 → Q (.ref p) H'
def spTakeR : Sp := fun vs H Q _ => ∃ (p : Addr) (m : Int) (n : Nat), vs = [.ref p, .int m] ∧ 0 < m ∧ m < 2 ^ 200 ∧ Bx H p n ∧ n ≤ 1000000 ∧ ∀ r H', 0 ≤ r → r < m → Grow p H H' → Bx H' p (n + 1) → Q (.int r) H'
theorem fdiv_nonneg' {a m : Int} (h : 0 ≤ a) (hm : 0 < m) : 0 ≤ a / m := Int.ediv_nonneg h (by omega)
end Rw
namespace K2
open PySem PySem.Spec PyProof.Rows L2 Rw
section
variable {P : Program} {w : World} {K : PySem.W.Frag} {mg : Str → Option Value} {base : Heap}
theorem okCell {f : Addr} {fd : FuncData} (F : Fun K "_law_cell" "_law_cell" sCell f fd) (zl : mg "len" = none) : FnOk P w K mg base CX0 1 f fd ["_law_script", "_law_k"] (spCellR K) := by
  refine F.ok scCell (fun vs H Q E h => ?_) (fun cdv A outer s H vs Q E hr h => ?_)
  · obtain ⟨a, ns, j, rfl, _⟩ := h
    rfl
  · obtain ⟨a, ns, j, rfl, hs, hj, q⟩ := h
    refine ⟨_, (pss_cons (ps_if (pt_cmpR op_lt (pv 1) (pe_callB call_len_seq (by rfl) zl PySem.boot_len (pa_cons (pv 0) pa_nil)) (nomark _)) (pss_one (ps_ret (pe_ix ix_list (pv 0) (pv 1) (fun _ _ => rfl)))) pss_nil)
      (pss_one (ps_ret (pe_op op_add (pe_op op_mul pe_int (pv 1)) pe_int)))), ?_⟩
    refine ⟨_, rfl, _, rfl, a, _, rfl, .inl hs, _, _, rfl, rfl, _, rfl, ?_⟩
    refine ite2 (fun z => ?_) (fun z => ?_)
    · have z2 := of_decide_eq_true z
      have z3 : j < ns.length := by
        rw [List.length_map] at z2
        omega
      exact ⟨_, rfl, _, rfl, a, _, _, _, rfl, rfl, hs, atI_nat (j := j) (v := .int ns[j]) (by rw [List.getElem?_map, List.getElem?_eq_getElem z3] <;> rfl), q _⟩
    · exact ⟨_, rfl, _, _, rfl, rfl, .inr ⟨by omega, by omega⟩, _, _, rfl, rfl, q _⟩
theorem okBox {f : Addr} {fd : FuncData} (F : Fun K "_law_box" "_law_box" sBox f fd) (zm : mg "max" = none) (zi : mg "int" = none) : FnOk P w K mg base CX0 1 f fd ["_law_cell_here"] spBoxR := by
  refine F.ok scBox (fun vs H Q E h => ?_) (fun cdv A outer s H vs Q E hr h => ?_)
  · obtain ⟨z, rfl, _⟩ := h
    rfl
  · obtain ⟨z, rfl, q⟩ := h
    refine ⟨_, (pss_one (ps_ret (pe_lst (pa_cons (pe_callB (call_max2 rfl) (by rfl) zm (by decide +kernel) (pa_cons pe_int (pa_cons (pe_op op_sub (pv 0) (pe_op op_pow pe_int pe_int)) pa_nil))) (pa_cons (pe_op op_modN (pe_callTy call_int1 (by rfl) zi (by decide +kernel) (pa_cons (pv 0) pa_nil)) pe_int) (pa_cons pe_int pa_nil)))))), ?_⟩
    refine ⟨_, rfl, _, _, rfl, rfl, ⟨by decide, by decide, by decide⟩, _, _, rfl, rfl, _, _, rfl, _, rfl, .inl ⟨_, rfl, _, _, rfl, rfl, (by dsimp only; omega), (by show 3 ≤ sizeLine; decide), fun p hp => ?_⟩⟩
    refine q p _ hp (same_new hp) ⟨_, _, _, upd_same, ?_, ?_, ?_, by omega, by omega⟩
    · split <;> omega
    · rw [fmod_pos (by decide)]
      exact Int.emod_nonneg _ (by decide)
    · rw [fmod_pos (by decide)]
      exact Int.emod_lt_of_pos _ (by decide)
theorem okTake {f : Addr} {fd : FuncData} (F : Fun K "_law_take" "_law_take" sTake f fd) (zi : mg "int" = none) : FnOk P w K mg base CX0 1 f fd ["_law_box_here", "_law_many"] spTakeR := by
  refine F.ok scTake (fun vs H Q E h => ?_) (fun cdv A outer s H vs Q E hr h => ?_)
  · obtain ⟨p, m, n, rfl, _⟩ := h
    rfl
  · obtain ⟨p, m, n, rfl, m0, m1, ⟨a, b, c, hp, a0, b0, b1, c0, c1⟩, hn, q⟩ := h
    refine ⟨_, (pss_cons (ps_if (pt_cmpR op_gt (pe_ix ix_list (pv 0) pe_int (fun _ _ => rfl)) pe_int (nomark _)) (pss_cons (ps_set (i := 2) scTake.nd rfl (Or.inl rfl) (pe_op op_modN (pe_callTy call_int1 (by rfl) zi (by decide +kernel) (pa_cons (pe_ix ix_list (pv 0) pe_int (fun _ _ => rfl)) pa_nil)) (pv 1)))
        (pss_cons (ps_asg (pe_op op_fdivW (pe_ix ix_list (pv 0) pe_int (fun _ _ => rfl)) (pv 1)) (pg_sub (pv 0) pe_int set_list))
        (pss_one (ps_ret (pv 2))))) pss_nil)
      (pss_cons (ps_asg (pe_op op_add (pe_ix ix_list (pv 0) pe_int (fun _ _ => rfl)) pe_int) (pg_sub (pv 0) pe_int set_list))
      (pss_cons (ps_set (i := 3) scTake.nd rfl (Or.inl rfl) (pe_op op_modN (pe_op op_pow (pe_callTy call_int1 (by rfl) zi (by decide +kernel) (pa_cons (pe_op op_add (pe_op op_add (pe_ix ix_list (pv 0) pe_int (fun _ _ => rfl)) (pe_op op_mul pe_int (pe_ix ix_list (pv 0) pe_int (fun _ _ => rfl)))) pe_int) pa_nil)) pe_int) pe_int))
      (pss_cons (ps_set (i := 3) scTake.nd rfl (Or.inl rfl) (pe_op op_modN (pe_op op_pow (pe_callTy call_int1 (by rfl) zi (by decide +kernel) (pa_cons (pe_op op_add (pv 3) (pe_op op_mul pe_int (pe_ix ix_list (pv 0) pe_int (fun _ _ => rfl)))) pa_nil)) pe_int) pe_int))
      (pss_one (ps_ret (pe_op op_modN (pe_callTy call_int1 (by rfl) zi (by decide +kernel) (pa_cons (pe_op op_fdivW (pv 3) pe_int) pa_nil)) (pv 1)))))))), ?_⟩
    refine ⟨_, rfl, p, _, 0, _, rfl, rfl, SqL.of hp, atI_nat (j := 0) rfl, _, _, rfl, rfl, _, rfl, ?_⟩
    refine ite2 (fun z => ?_) (fun z => ?_)
    · refine ⟨_, rfl, p, _, 0, _, rfl, rfl, SqL.of hp, atI_nat (j := 0) rfl, .inl ⟨_, rfl, _, rfl, _, _, rfl, rfl, (by show m ≠ 0; omega), ?_⟩⟩
      refine ⟨_, rfl, p, _, 0, _, rfl, rfl, SqL.of hp, atI_nat (j := 0) rfl, _, rfl, _, _, rfl, rfl, wide_div (b := 200) m0 (by omega) (by decide) (by decide), _, rfl, p, _, 0, 0, rfl, rfl, hp, rfl, ?_⟩
      refine ⟨_, rfl, ?_⟩
      show Q (.int (a.fmod m)) _
      rw [fmod_pos m0]
      exact q _ _ (Int.emod_nonneg _ (by omega)) (Int.emod_lt_of_pos _ m0) Grow.put ⟨_, b, c, upd_same, fdiv_nonneg' a0 m0, b0, b1, c0, by omega⟩
    · refine ⟨_, rfl, p, _, 2, _, rfl, rfl, SqL.of hp, atI_nat (j := 2) rfl, _, _, rfl, rfl, _, rfl, p, _, 2, 2, rfl, rfl, hp, rfl, ?_⟩
      have hp2 : (upd H p (.lst ([V.int a, V.int b, V.int c].set 2 (.int (c + 1))))) p = some (.lst [.int a, .int b, .int (c + 1)]) := upd_same
      refine ⟨_, rfl, p, _, 1, _, rfl, rfl, SqL.of hp2, atI_nat (j := 1) rfl, _, rfl, p, _, 2, _, rfl, rfl, SqL.of hp2, atI_nat (j := 2) rfl, _, _, rfl, rfl, .inl ⟨by omega, by omega⟩, _, _, rfl, rfl, _, _, rfl, rfl, .inl ⟨_, rfl, _, _, rfl, rfl, ⟨by decide, by decide, by omega⟩, _, _, rfl, rfl, (by dsimp only; omega), ?_⟩⟩
      generalize ((b + _ * (c + 1) + _) ^ _ : Int) = y1
      have y2 : 0 ≤ y1.fmod 2147483647 ∧ y1.fmod 2147483647 < 2147483647 := by
        rw [fmod_pos (by decide)]
        exact ⟨Int.emod_nonneg _ (by decide), Int.emod_lt_of_pos _ (by decide)⟩
      refine ⟨_, rfl, _, rfl, p, _, 2, _, rfl, rfl, SqL.of hp2, atI_nat (j := 2) rfl, _, _, rfl, rfl, .inl ⟨by omega, by omega⟩, _, _, rfl, rfl, .inl ⟨_, rfl, _, _, rfl, rfl, ⟨by decide, by decide, by omega⟩, _, _, rfl, rfl, (by dsimp only; omega), ?_⟩⟩
      generalize ((y1.fmod 2147483647 + _ * (c + 1)) ^ _ : Int) = y4
      refine ⟨_, rfl, _, _, rfl, rfl, ⟨by decide, by decide +kernel⟩, .inl ⟨_, rfl, _, rfl, _, _, rfl, rfl, (by show m ≠ 0; omega), ?_⟩⟩
      show Q (.int (Int.fmod _ m)) _
      rw [fmod_pos m0]
      exact q _ _ (Int.emod_nonneg _ (by omega)) (Int.emod_lt_of_pos _ m0) Grow.put ⟨a, b, c + 1, hp2, a0, b0, b1, by omega, by omega⟩
end
end K2

set_option Elab.async false
set_option linter.all false
set_option maxRecDepth 100000
set_option maxHeartbeats 4000000
/-! K2D: the law's odd things, its look at numbers, what it catches. -/
namespace K2
open PySem PySem.Spec PyProof.Rows L2 Rw
abbrev sOdd : Stmt := top 15
abbrev sWhole : Stmt := top 16
abbrev sCaught : Stmt := top 17
theorem scOdd : FnScope ["_law_box_here", "_law_some"] ["_law_box_here"] (defScope sOdd) := ⟨rfl, rfl, rfl, by decide +kernel, rfl, by decide +kernel, by decide +kernel⟩
theorem scWhole : FnScope ["_law_thing"] ["_law_thing"] (defScope sWhole) := ⟨rfl, rfl, rfl, by decide +kernel, rfl, by decide +kernel, by decide +kernel⟩
theorem scCaught : FnScope ["_law_p", "_law_number", "e"] ["_law_p", "_law_number"] (defScope sCaught) := ⟨rfl, rfl, rfl, by decide +kernel, rfl, by decide +kernel, by decide +kernel⟩
end K2
namespace Rw
open PySem PySem.Spec PyProof.Rows L2
/-- the odd things, as data -/
def oddL : List PyData := [.none, .bool true, .bool false, .str "1", .str "", .tuple [], .list [], .tuple [.int 1], .list [.int 0], .dict [], .dict [(.str "a", .int 1)], .int (-1), .int (10 ^ Int.toNat 29), .int (-(10 ^ Int.toNat 29)), .tuple [.tuple [.int 1]], .str "><"]
theorem AnyL.get {H : Hp} : ∀ {vs : List V} {ds : List PyData}, AnyL H vs ds → ∀ i, i < ds.length → ∃ v d, vs[i]? = some v ∧ d ∈ ds ∧ Any H v d
  | _, _, .nil, i, h => absurd h (Nat.not_lt_zero i)
  | _, _, .cons a _, 0, _ => ⟨_, _, rfl, List.mem_cons_self, a⟩
  | _, _, .cons _ b, i + 1, h => by
    obtain ⟨v, d, h1, h2, h3⟩ := AnyL.get b i (Nat.lt_of_succ_lt_succ h)
    exact ⟨v, d, h1, List.mem_cons_of_mem _ h2, h3⟩
/-- some odd thing, apart from the box -/
def spOddR : Sp := fun vs H Q _ => ∃ (p : Addr) (n : Nat), vs = [.ref p] ∧ Bx H p n ∧ n ≤ 1000000 ∧ ∀ v d H', d ∈ oddL → Any (del H' p) v d → Grow p H H' → Bx H' p (n + 1) → Q v H'
def spWholeR : Sp := fun vs H Q _ => ∃ v d, vs = [v] ∧ Any H v d ∧ Q (.bl (isIntD d)) H
end Rw
namespace K2
open PySem PySem.Spec PyProof.Rows L2 Rw
/-- what is caught: the prime is refused, the number is, or an inverse is told -/
def spCaught : Sp := fun vs H Q _ => ∃ (n : Int) (v : V) (d : PyData), vs = [v, .int n] ∧ Any H v d ∧
  (isPr d = false → ∀ l H', H l = none → Same H H' → H' l = some (.lst [.str "prime", v]) → Q (.ref l) H') ∧
  (∀ p, d = .int p → p ∈ primesL → (n % p = 0 → ∀ l H', H l = none → Same H H' → H' l = some (.lst [.str "none", .int n]) → Q (.ref l) H') ∧
    (n % p ≠ 0 → ∀ r l H', H l = none → Same H H' → 0 < r → r < p → (r * n) % p = 1 → H' l = some (.lst [.str "told", .int r]) → Q (.ref l) H'))
/-- what the top has left for the clauses -/
structure TxC (K : PySem.W.Frag) (mg : Str → Option Value) (CR CP CN : Addr) : Prop where
  gR : mg "RowError" = some (.ref CR)
  pp : PySem.W.exmOne K (.ref CP) (.ref CP) = some true
  np : PySem.W.exmOne K (.ref CN) (.ref CP) = some false
  nn : PySem.W.exmOne K (.ref CN) (.ref CN) = some true
section
variable {P : Program} {w : World} {K : PySem.W.Frag} {mg : Str → Option Value} {base : Heap} {aI CP CN CR : Addr} {kI : List (Int × Value)}
theorem okOdd {f : Addr} {fd : FuncData} (F : Fun K "_law_odd" "_law_odd" sOdd f fd) (GT : Own P w K mg base CX0 1 "_law_take" ["_law_box_here", "_law_many"] [] spTakeR) : FnOk P w K mg base CX0 2 f fd ["_law_box_here"] spOddR := by
  refine F.ok scOdd (fun vs H Q E h => ?_) (fun cdv A outer s H vs Q E hr h => ?_)
  · obtain ⟨p, n, rfl, _⟩ := h
    rfl
  · obtain ⟨p, n, rfl, bx, hn, q⟩ := h
    refine ⟨_, (pss_cons (ps_set (i := 1) scOdd.nd rfl (Or.inl rfl) (pe_lst (pa_cons pe_non (pa_cons pe_bl (pa_cons pe_bl (pa_cons pe_str (pa_cons pe_str (pa_cons (pe_tup pa_nil) (pa_cons (pe_lst pa_nil) (pa_cons (pe_tup (pa_cons pe_int pa_nil)) (pa_cons (pe_lst (pa_cons pe_int pa_nil)) (pa_cons pe_dnewK (pa_cons (pe_disp (pps_cons pe_str pe_int pps_nil) (by rfl) (by rfl) (fun z => by cases z) (by decide)) (pa_cons (pe_un un_neg pe_int) (pa_cons (pe_op op_pow pe_int pe_int) (pa_cons (pe_un un_neg (pe_op op_pow pe_int pe_int)) (pa_cons (pe_tup (pa_cons (pe_tup (pa_cons pe_int pa_nil)) pa_nil)) (pa_cons pe_str pa_nil))))))))))))))))))
      (pss_one (ps_ret (pe_ix ix_list (pv 1) (pe_own GT hr pass0 (pa_cons (pv 0) (pa_cons pe_int pa_nil))) (fun _ _ => rfl))))), ?_⟩
    refine ⟨by show 0 ≤ sizeLine; decide, fun q1 h1 => ?_⟩
    have k1 := same_new (o := .tup []) h1
    have b1 := bx.keep k1
    have a1 : Any (del (upd H q1 (.tup [])) p) (.ref q1) (.tuple []) := .tup (by rw [del_ne (bx.ne h1).symm]; exact upd_same) .nil
    generalize upd H q1 (.tup []) = H1 at k1 b1 a1 ⊢
    refine ⟨by show 0 ≤ sizeLine; decide, fun q2 h2 => ?_⟩
    have k2 := same_new (o := .lst []) h2
    have b2 := b1.keep k2
    have a2 : Any (del (upd H1 q2 (.lst [])) p) (.ref q2) (.list []) := .lst (by rw [del_ne (b1.ne h2).symm]; exact upd_same) .nil
    have d2 := del_new (p := p) (o := .lst []) h2
    generalize upd H1 q2 (.lst []) = H2 at k2 b2 a2 d2 ⊢
    refine ⟨by show 1 ≤ sizeLine; decide, fun q3 h3 => ?_⟩
    have k3 := same_new (o := .tup [.int 1]) h3
    have b3 := b2.keep k3
    have a3 : Any (del (upd H2 q3 (.tup [.int 1])) p) (.ref q3) (.tuple [.int 1]) := .tup (by rw [del_ne (b2.ne h3).symm]; exact upd_same) (.cons (.int 1) .nil)
    have d3 := del_new (p := p) (o := .tup [.int 1]) h3
    generalize upd H2 q3 (.tup [.int 1]) = H3 at k3 b3 a3 d3 ⊢
    refine ⟨by show 1 ≤ sizeLine; decide, fun q4 h4 => ?_⟩
    have k4 := same_new (o := .lst [.int 0]) h4
    have b4 := b3.keep k4
    have a4 : Any (del (upd H3 q4 (.lst [.int 0])) p) (.ref q4) (.list [.int 0]) := .lst (by rw [del_ne (b3.ne h4).symm]; exact upd_same) (.cons (.int 0) .nil)
    have d4 := del_new (p := p) (o := .lst [.int 0]) h4
    generalize upd H3 q4 (.lst [.int 0]) = H4 at k4 b4 a4 d4 ⊢
    refine fun q5 h5 => ?_
    have k5 := same_new (o := .dK []) h5
    have b5 := b4.keep k5
    have a5 : Any (del (upd H4 q5 (.dK [])) p) (.ref q5) (.dict []) := .dct (by rw [del_ne (b4.ne h5).symm]; exact upd_same) .nil
    have d5 := del_new (p := p) (o := .dK []) h5
    generalize upd H4 q5 (.dK []) = H5 at k5 b5 a5 d5 ⊢
    refine fun q6 h6 => ⟨upd_same, [(Sum.inr "a", .int 1)], rfl, by show 1 ≤ 15; decide, ?_⟩
    rw [upd_upd]
    have k6 := same_new (o := .dK (mergeK [] [(Sum.inr "a", .int 1)])) h6
    have b6 := b5.keep k6
    have a6 : Any (del (upd H5 q6 (.dK (mergeK [] [(Sum.inr "a", .int 1)]))) p) (.ref q6) (.dict [(.str "a", .int 1)]) := .dct (kvs := [(Sum.inr "a", .int 1)]) (by rw [del_ne (b5.ne h6).symm]; exact upd_same) (.cons (.int 1) .nil)
    have d6 := del_new (p := p) (o := .dK (mergeK [] [(Sum.inr "a", .int 1)])) h6
    generalize upd H5 q6 (.dK (mergeK [] [(Sum.inr "a", .int 1)])) = H6 at k6 b6 a6 d6 ⊢
    refine ⟨_, rfl, _, _, rfl, rfl, ⟨by decide, by decide, by decide⟩, _, _, rfl, rfl, ⟨by decide, by decide, by decide⟩, _, rfl, by show 1 ≤ sizeLine; decide, fun q7 h7 => ?_⟩
    have k7 := same_new (o := .tup [.int 1]) h7
    have b7 := b6.keep k7
    have a7 : Any (del (upd H6 q7 (.tup [.int 1])) p) (.ref q7) (.tuple [.int 1]) := .tup (by rw [del_ne (b6.ne h7).symm]; exact upd_same) (.cons (.int 1) .nil)
    have d7 := del_new (p := p) (o := .tup [.int 1]) h7
    generalize upd H6 q7 (.tup [.int 1]) = H7 at k7 b7 a7 d7 ⊢
    refine ⟨by show 1 ≤ sizeLine; decide, fun q8 h8 => ?_⟩
    have k8 := same_new (o := .tup [.ref q7]) h8
    have b8 := b7.keep k8
    have d8 := del_new (p := p) (o := .tup [.ref q7]) h8
    have a8 : Any (del (upd H7 q8 (.tup [.ref q7])) p) (.ref q8) (.tuple [.tuple [.int 1]]) := .tup (by rw [del_ne (b7.ne h8).symm]; exact upd_same) (.cons (a7.keep d8) .nil)
    generalize upd H7 q8 (.tup [.ref q7]) = H8 at k8 b8 a8 d8 ⊢
    refine ⟨by show 16 ≤ sizeLine; decide, fun l hl => ?_⟩
    have k9 := fun o => same_new (o := o) hl
    have d9 := fun o => del_new (p := p) (o := o) hl
    have w7 := fun o => d8.trans (d9 o)
    have w6 := fun o => d7.trans (w7 o)
    have w5 := fun o => d6.trans (w6 o)
    have w4 := fun o => d5.trans (w5 o)
    have w3 := fun o => d4.trans (w4 o)
    have w2 := fun o => d3.trans (w3 o)
    have w1 := fun o => d2.trans (w2 o)
    have big : ∀ o, Same H (upd H8 l o) := fun o => k1.trans (k2.trans (k3.trans (k4.trans (k5.trans (k6.trans (k7.trans (k8.trans (k9 o))))))))
    refine ⟨_, rfl, _, rfl, p, 16, n, rfl, by decide, by decide, bx.keep (big _), hn, fun r H' r0 r1 G B => ?_⟩
    have nl : l ≠ p := (b8.ne hl).symm
    obtain ⟨i, rfl⟩ : ∃ i : Nat, r = (i : Int) := ⟨r.toNat, by omega⟩
    have all : AnyL (del H' p) [.non, .bl true, .bl false, .str "1", .str "", .ref q1, .ref q2, .ref q3, .ref q4, .ref q5, .ref q6, .int (-1), .int (10 ^ Int.toNat 29), .int (-(10 ^ Int.toNat 29)), .ref q8, .str "><"] oddL :=
      .cons .non (.cons (.bl _) (.cons (.bl _) (.cons (.str _) (.cons (.str _) (.cons ((a1.keep (w1 _)).keep G.del) (.cons ((a2.keep (w2 _)).keep G.del) (.cons ((a3.keep (w3 _)).keep G.del) (.cons ((a4.keep (w4 _)).keep G.del) (.cons ((a5.keep (w5 _)).keep G.del)
        (.cons ((a6.keep (w6 _)).keep G.del) (.cons (.int _) (.cons (.int _) (.cons (.int _) (.cons ((a8.keep (d9 _)).keep G.del) (.cons (.str _) .nil)))))))))))))))
    obtain ⟨v, d, g1, g2, g3⟩ := AnyL.get all i (by show i < 16; omega)
    exact ⟨l, _, _, v, rfl, rfl, SqL.of (G l _ nl upd_same), atI_nat g1, q v d H' g2 g3 ((Grow.of (big _)).trans G) B⟩
theorem okWhole {f : Addr} {fd : FuncData} (F : Fun K "_law_whole" "_law_whole" sWhole f fd) (T : Txt K w mg aI CP CN kI) : FnOk P w K mg base CX0 1 f fd ["_law_thing"] spWholeR := by
  refine F.ok scWhole (fun vs H Q E h => ?_) (fun cdv A outer s H vs Q E hr h => ?_)
  · obtain ⟨v, d, rfl, _⟩ := h
    rfl
  · obtain ⟨v, d, rfl, an, q⟩ := h
    refine ⟨_, (pss_one (ps_ret (pe_and (pe_callB call_isi (by rfl) T.isi (by decide +kernel) (pa_cons (pv 0) (pa_cons (pe_bltn (v := .ty "int") rfl T.int boot_int rfl) pa_nil))) (pe_one (pe_not (pe_callB call_isi (by rfl) T.isi (by decide +kernel) (pa_cons (pv 0) (pa_cons (pe_bltn (v := .ty "bool") rfl T.bool (by decide +kernel) rfl) pa_nil)))))))), ?_⟩
    refine ⟨v, rfl, v, .ty "int", _, _, _, rfl, .ty _, any_ty an, kit_int d, _, rfl, ?_⟩
    cases an with
    | bl b => exact iteT ⟨_, rfl, _, .ty "bool", _, _, _, rfl, .ty _, any_ty (.bl b), kit_bool (.bool b), _, rfl, q⟩
    | int i => exact iteT ⟨_, rfl, _, .ty "bool", _, _, _, rfl, .ty _, any_ty (.int i), kit_bool (.int i), _, rfl, q⟩
    | _ => exact iteF q
theorem okCaught {f : Addr} {fd : FuncData} (F : Fun K "_law_caught" "_law_caught" sCaught f fd) (T : Txt K w mg aI CP CN kI) (TC : TxC K mg CR CP CN) (GI : Own P w K mg base (L2.CX P w) 6 "inverse" ["number", "prime"] [] (spInv CP CN)) :
    FnOk P w K mg base CX0 7 f fd ["_law_p", "_law_number"] spCaught := by
  refine F.ok scCaught (fun vs H Q E h => ?_) (fun cdv A outer s H vs Q E hr h => ?_)
  · obtain ⟨n, v, d, rfl, _⟩ := h
    rfl
  · obtain ⟨n, v, d, rfl, an, kf, kt⟩ := h
    refine ⟨_, (pss_one (ps_tries rfl rfl scCaught.nd takes0
      (fun W pn xe tk pw => pss_one (ps_ret (pe_lst (pa_cons pe_str (pa_cons (pe_ownS (W := W) GI hr (fun σ => passAt tk σ) (pa_cons (pv 1) (pa_cons (pv 0) pa_nil))) pa_nil)))))
      (.as (i := 2) rfl rfl ⟨rfl, by decide, .inl T.eP.g⟩ (fun a oe cls d pn hz hf => pss_one (ps_ret (pe_lst (pa_cons pe_str (pa_cons (pe_xf T.eP.xf T.eP.no hz hf (pv 2)) pa_nil)))))
      (.as (i := 2) rfl rfl ⟨rfl, by decide, .inl T.eN.g⟩ (fun a oe cls d pn hz hf => pss_one (ps_ret (pe_lst (pa_cons pe_str (pa_cons (pe_xf T.eN.xf T.eN.no hz hf (pv 2)) pa_nil)))))
      (.anon ⟨rfl, by decide, .inl TC.gR⟩ (fun a oe cls d pn hz hf => pss_one (ps_ret (pe_lst (pa_cons pe_str pa_nil)))) .nil))))), ?_⟩
    refine ⟨_, rfl, _, rfl, n, v, d, rfl, an, fun ep => ?_, fun p e hp => ?_⟩
    · intro dd H1 sm hd hx
      refine ⟨true, TC.pp, fun _ a ha => ?_, fun z => (nomatch z)⟩
      refine ⟨_, rfl, rfl, rfl, dd, _, v, rfl, hx, rfl, (by show 2 ≤ sizeLine; decide), fun l hl => ?_⟩
      exact kf ep l _ (sm.free hl) (sm.trans (same_new hl)) upd_same
    · obtain ⟨k0, k1⟩ := kt p e hp
      constructor
      · intro hz dd H1 sm hd hx
        refine ⟨false, TC.np, fun z => (nomatch z), fun _ => ⟨true, TC.nn, fun _ a ha => ?_, fun z => (nomatch z)⟩⟩
        refine ⟨_, rfl, rfl, rfl, dd, _, .int n, rfl, hx, rfl, (by show 2 ≤ sizeLine; decide), fun l hl => ?_⟩
        exact k0 hz l _ (sm.free hl) (sm.trans (same_new hl)) upd_same
      · intro hz r H1 sm r0 r1 re
        refine ⟨(by show 2 ≤ sizeLine; decide), fun l hl => ?_⟩
        exact k1 hz r l _ (sm.free hl) (sm.trans (same_new hl)) r0 r1 re upd_same
end
end K2

set_option Elab.async false
set_option linter.all false
set_option maxRecDepth 100000
set_option maxHeartbeats 4000000
/-! K2E: the law's look at bounds and at inverses. -/
namespace Rw
open PySem PySem.Spec PyProof.Rows L2
theorem list_len (t : Str) (r : List Str) : (listText (t :: r)).length = t.length + piled r + 2 := by
  have a : (listText (t :: r)).length = (textFrom 1 (("[" : Str) ++ (if (0 : Nat) > 0 then ", " else "" : String) ++ t) r).length + 1 := by
    show (textFrom 0 "[" (t :: r) ++ "]").length = _
    rw [strLen_append]
    rfl
  rw [a, textFrom_length_pos r 1 _ (by decide), strLen_append, strLen_append]
  show 1 + 0 + t.length + piled r + 1 = _
  omega
theorem pair_len (a b : PyData) : (PyData.list [a, b]).shown.length = a.shown.length + b.shown.length + 4 := by
  simp only [PyData.shown, PyData.shownAll]
  rw [list_len, piled_cons, piled_nil]
  omega
theorem int_len {n : Int} (h : n.natAbs < 10 ^ 40) : (PyData.int n).shown.length ≤ 41 := by
  simp only [PyData.shown]
  show (Str.ofString (toString n)).length ≤ 41
  rw [PySem.ofString_length]
  exact int_text_length_le10 (by decide) h
theorem log2_small {n : Int} (h : n.natAbs < 10 ^ 40) : n.natAbs.log2 < 1920 := by
  by_cases z : n.natAbs = 0
  · rw [z]
    decide
  · exact (Nat.log2_lt z).mpr (Nat.lt_trans h (by decide +kernel))
/-- an odd thing in a list behind a short word -/
theorem odd_shown : ∀ d ∈ oddL, d.showable = true ∧ d.depth ≤ 10 ∧ d.shown.length ≤ 100 := by decide +kernel
theorem pair_shown {x : Str} {d : PyData} (hx : (reprText x).length ≤ 100) (h1 : d.showable = true) (h2 : d.depth ≤ 10) (h3 : d.shown.length ≤ 100) :
    (PyData.list [.str x, d]).showable = true ∧ (PyData.list [.str x, d]).depth ≤ 60 ∧ (PyData.list [.str x, d]).shown.length ≤ sizeLine := by
  refine ⟨?_, ?_, ?_⟩
  · simp only [PyData.showable, PyData.showableAll, h1, Bool.and_self]
  · simp only [PyData.depth, PyData.depthAll]
    omega
  · rw [pair_len]
    have e : (PyData.str x).shown.length ≤ 100 := by simpa only [PyData.shown] using hx
    exact Nat.le_trans (by omega : _ ≤ 1000) (by decide)
theorem int_shown {n : Int} (h : n.natAbs < 10 ^ 40) : (PyData.int n).showable = true ∧ (PyData.int n).depth ≤ 10 ∧ (PyData.int n).shown.length ≤ 100 := by
  refine ⟨?_, by simp only [PyData.depth]; omega, Nat.le_trans (int_len h) (by decide)⟩
  simp only [PyData.showable]
  exact decide_eq_true (log2_small h)
end Rw
namespace K2
open PySem PySem.Spec PyProof.Rows L2 Rw
abbrev sBounds : Stmt := top 18
abbrev sInvR : Stmt := top 19
abbrev NBounds : List Str := ["_law_box_here", "_law_thing", "_law_some", "_law_least", "_law_most", "_law_due"]
theorem scBounds : FnScope NBounds ["_law_box_here", "_law_thing"] (defScope sBounds) := ⟨rfl, rfl, rfl, by decide +kernel, rfl, by decide +kernel, by decide +kernel⟩
theorem scInvR : FnScope ["_law_p", "_law_number", "_law_told"] ["_law_p", "_law_number"] (defScope sInvR) := ⟨rfl, rfl, rfl, by decide +kernel, rfl, by decide +kernel, by decide +kernel⟩
def spBounds : Sp := fun vs H Q _ => ∃ (p : Addr) (v : V) (d : PyData) (n : Nat), vs = [.ref p, v] ∧ Any (del H p) v d ∧ Bx H p n ∧ n ≤ 1000 ∧ ∀ H', Grow p H H' → Bx H' p (n + 10) → Q (.bl true) H'
def spInvR : Sp := fun vs H Q _ => ∃ (p n : Int), vs = [.int p, .int n] ∧ p ∈ primesL ∧ n.natAbs < 10 ^ 40 ∧ ∀ H', Same H H' → Q (.bl true) H'
/-- a bound: told, an int, or not -/
def Bd (v : V) (d : PyData) : Prop := (v = .non ∧ d = .none) ∨ ∃ i, v = .int i ∧ d = .int i
theorem Bd.any {H : Hp} {v : V} {d : PyData} (h : Bd v d) : Any H v d := by
  rcases h with ⟨rfl, rfl⟩ | ⟨i, rfl, rfl⟩
  · exact .non
  · exact .int i
theorem inB_no (d : PyData) : inB d .none .none = isIntD d := by cases d <;> rfl
theorem inB_not {d : PyData} (h : isIntD d = false) (l m : PyData) : inB d l m = false := by cases d <;> first | rfl | cases h
theorem str_same (a : Str) : decide (V.str a = V.str a) = true := decide_eq_true rfl
theorem bl_same (a : Bool) : decide (V.bl a = V.bl a) = true := decide_eq_true rfl
/-- the bounds that the law draws from -/
theorem bd_get (i : Nat) (h : i < 8) : ∃ v d, ([.non, .int (-1), .int 0, .int 1, .int 2, .int 5, .int (10 ^ Int.toNat 29), .int (-(10 ^ Int.toNat 29))] : List V)[i]? = some v ∧ Bd v d := by
  match i, h with
  | 0, _ => exact ⟨_, _, rfl, .inl ⟨rfl, rfl⟩⟩
  | 1, _ => exact ⟨_, _, rfl, .inr ⟨_, rfl, rfl⟩⟩
  | 2, _ => exact ⟨_, _, rfl, .inr ⟨_, rfl, rfl⟩⟩
  | 3, _ => exact ⟨_, _, rfl, .inr ⟨_, rfl, rfl⟩⟩
  | 4, _ => exact ⟨_, _, rfl, .inr ⟨_, rfl, rfl⟩⟩
  | 5, _ => exact ⟨_, _, rfl, .inr ⟨_, rfl, rfl⟩⟩
  | 6, _ => exact ⟨_, _, rfl, .inr ⟨_, rfl, rfl⟩⟩
  | 7, _ => exact ⟨_, _, rfl, .inr ⟨_, rfl, rfl⟩⟩
section
variable {P : Program} {w : World} {K : PySem.W.Frag} {mg : Str → Option Value} {base : Heap}
theorem okBounds {f : Addr} {fd : FuncData} (F : Fun K "_law_bounds_right" "_law_bounds_right" sBounds f fd) (zr : mg "repr" = none) (GT : Own P w K mg base CX0 1 "_law_take" ["_law_box_here", "_law_many"] [] spTakeR)
    (GW : Own P w K mg base CX0 1 "_law_whole" ["_law_thing"] [] spWholeR) (G1 : Own P w K mg base CX0 2 "is_integer" ["value", "low", "high"] [.non, .non] spInt) (G2 : Own P w K mg base CX0 2 "is_integer" ["value", "low", "high"] [.non] spInt)
    (G3 : Own P w K mg base CX0 2 "is_integer" ["value", "low", "high"] [] spInt) : FnOk P w K mg base CX0 3 f fd ["_law_box_here", "_law_thing"] spBounds := by
  refine F.ok scBounds (fun vs H Q E h => ?_) (fun cdv A outer s H vs Q E hr h => ?_)
  · obtain ⟨p, v, d, n, rfl, _⟩ := h
    rfl
  · obtain ⟨p, v, d, n, rfl, an, bx, hn, q⟩ := h
    have hr1 := fun {h : 1 ≤ 2} => hr.mono h
    refine ⟨_, (pss_cons (ps_set (i := 2) scBounds.nd rfl (Or.inl rfl) (pe_lst (pa_cons pe_non (pa_cons (pe_un un_neg pe_int) (pa_cons pe_int (pa_cons pe_int (pa_cons pe_int (pa_cons pe_int (pa_cons (pe_op op_pow pe_int pe_int) (pa_cons (pe_un un_neg (pe_op op_pow pe_int pe_int)) pa_nil))))))))))
      (pss_cons (ps_par (i := 3) (j := 4) (by rfl) scBounds.nd rfl rfl (by decide) rfl rfl (pa_cons (pe_ix ix_list (pv 2) (pe_own GT (hr.mono (by decide)) pass0 (pa_cons (pv 0) (pa_cons pe_int pa_nil))) (fun _ _ => rfl)) (pa_cons (pe_ix ix_list (pv 2) (pe_own GT (hr.mono (by decide)) pass0 (pa_cons (pv 0) (pa_cons pe_int pa_nil))) (fun _ _ => rfl)) pa_nil)) (by rfl))
      (Evl.pss_cut (ps_if (PW.pt (pw_and (pt_cmpR op_eq (pe_own GT (hr.mono (by decide)) pass0 (pa_cons (pv 0) (pa_cons pe_int pa_nil))) pe_int (nomark _)) (pw_and1 (pt_val (pe_own GW (hr.mono (by decide)) pass0 (pa_cons (pv 1) pa_nil)))))) (pss_one (ps_par (i := 3) (j := 4) (by rfl) scBounds.nd rfl rfl (by decide) rfl rfl (pa_cons (pe_op op_sub (pv 1) (pe_own GT (hr.mono (by decide)) pass0 (pa_cons (pv 0) (pa_cons pe_int pa_nil)))) (pa_cons (pe_op op_sub (pe_op op_add (pv 1) (pe_own GT (hr.mono (by decide)) pass0 (pa_cons (pv 0) (pa_cons pe_int pa_nil)))) pe_int) pa_nil)) (by rfl))) pss_nil)
      (pss_cons (ps_set (i := 5) scBounds.nd rfl (Or.inl rfl) (pe_and (pe_own GW (hr.mono (by decide)) pass0 (pa_cons (pv 1) pa_nil)) (pe_and (pe_or (pe_cmpR op_isN (pv 3) pe_non (nomark _)) (pe_one (pe_cmpR op_ge (pv 1) (pv 3) (nomark _)))) (pe_one (pe_or (pe_cmpR op_isN (pv 4) pe_non (nomark _)) (pe_one (pe_cmpR op_le (pv 1) (pv 4) (nomark _))))))))
      (pss_cons (ps_if (pt_cmpR op_ne (pe_callB call_reprB (by rfl) zr (by decide +kernel) (pa_cons (pe_own G3 hr pass0 (pa_cons (pv 1) (pa_cons (pv 3) (pa_cons (pv 4) pa_nil)))) pa_nil)) (pe_callB call_reprB (by rfl) zr (by decide +kernel) (pa_cons (pv 5) pa_nil)) (nomark _)) (pss_one (ps_ret pe_bl)) pss_nil)
      (pss_one (ps_ret (pe_and (pe_cmpR op_eq (pe_own G1 hr pass0 (pa_cons (pv 1) pa_nil)) (pe_own GW (hr.mono (by decide)) pass0 (pa_cons (pv 1) pa_nil)) (nomark _)) (pe_one (pe_cmpR op_eq (pe_own G2 hr pass0 (pa_cons (pv 1) (pa_cons (pv 3) pa_nil))) (pe_own G3 hr pass0 (pa_cons (pv 1) (pa_cons (pv 3) (pa_cons pe_non pa_nil)))) (nomark _))))))))))), ?_⟩
    refine ⟨_, rfl, _, _, rfl, rfl, ⟨by decide, by decide, by decide⟩, _, _, rfl, rfl, ⟨by decide, by decide, by decide⟩, _, rfl, by show 8 ≤ sizeLine; decide, fun l hl => ?_⟩
    have nl : l ≠ p := (bx.ne hl).symm
    have k0 := fun o => same_new (o := o) hl
    refine ⟨_, rfl, _, rfl, p, 8, n, rfl, by decide, by decide, bx.keep (k0 _), by omega, fun r1 H1 r10 r11 w1 b1 => ?_⟩
    obtain ⟨i1, rfl⟩ : ∃ i : Nat, r1 = (i : Int) := ⟨r1.toNat, by omega⟩
    obtain ⟨lv, dl, g1, e1⟩ := bd_get i1 (by omega)
    have ll1 := w1 l _ nl upd_same
    refine ⟨l, _, _, lv, rfl, rfl, SqL.of ll1, atI_nat g1, _, rfl, _, rfl, p, 8, n + 1, rfl, by decide, by decide, b1, by omega, fun r2 H2 r20 r21 w2 b2 => ?_⟩
    obtain ⟨i2, rfl⟩ : ∃ i : Nat, r2 = (i : Int) := ⟨r2.toNat, by omega⟩
    obtain ⟨mv, dm, g2, e2⟩ := bd_get i2 (by omega)
    have ll2 := w2 l _ nl ll1
    refine ⟨l, _, _, mv, rfl, rfl, SqL.of ll2, atI_nat g2, lv, mv, rfl, ?_⟩
    have W2 : Grow p H H2 := ((Grow.of (k0 _)).trans w1).trans w2
    refine ⟨fun σ' H' => ∃ lv mv dl dm, σ' = [some (.ref p), some v, some (.ref l), some lv, some mv, none] ∧ Bd lv dl ∧ Bd mv dm ∧ Grow p H H' ∧ Bx H' p (n + 5), ?_, ?_⟩
    · refine ⟨_, rfl, p, 3, n + 2, rfl, by decide, by decide, b2, by omega, fun r3 H3 r30 r31 w3 b3 => ⟨rfl, _, rfl, ?_⟩⟩
      have W3 := W2.trans w3
      refine ite2 (fun z => ?_) (fun z => ?_)
      · refine ⟨_, rfl, v, d, rfl, (an.keep W3.del).keep same_del, _, rfl, ?_⟩
        cases ei : isIntD d with
        | false => exact iteF ⟨lv, mv, dl, dm, rfl, e1, e2, W3, b3.more (by omega)⟩
        | true =>
          obtain ⟨m, rfl, rfl⟩ := int_of an ei
          refine iteT ⟨_, rfl, _, rfl, p, 2, n + 3, rfl, by decide, by decide, b3, by omega, fun r4 H4 r40 r41 w4 b4 => ⟨_, _, rfl, rfl, _, rfl, _, rfl, p, 3, n + 4, rfl, by decide, by decide, b4, by omega, fun r5 H5 r50 r51 w5 b5 => ⟨_, _, rfl, rfl, _, _, rfl, rfl, _, _, rfl, ?_⟩⟩⟩
          exact ⟨_, _, _, _, rfl, .inr ⟨_, rfl, rfl⟩, .inr ⟨_, rfl, rfl⟩, (W3.trans w4).trans w5, b5⟩
      · exact ⟨lv, mv, dl, dm, rfl, e1, e2, W3, b3.more (by omega)⟩
    · rintro σ' H' ⟨lv, mv, dl, dm, rfl, e1, e2, W, b⟩
      have a' : Any H' v d := (an.keep W.del).keep same_del
      have fin : tSeq (tIfS (tTest (tOp rNe (tCB (fun xs H Q => ∃ b, xs = [.bl b] ∧ Q (.str (boolS b)) H) (tCons (tCall spInt [] E0 (tCons (tVar 1) (tCons (tVar 3) (tCons (tVar 4) tNil)))) tNil)) (tCB (fun xs H Q => ∃ b, xs = [.bl b] ∧ Q (.str (boolS b)) H) (tCons (tVar 5) tNil)))) (tRet (tC (.bl false))) tNext)
          (tRet (tAndV (tOp rEq (tCall spInt [.non, .non] E0 (tCons (tVar 1) tNil)) (tCall spWholeR [] E0 (tCons (tVar 1) tNil))) (tOp rEq (tCall spInt [.non] E0 (tCons (tVar 1) (tCons (tVar 3) tNil))) (tCall spInt [] E0 (tCons (tVar 1) (tCons (tVar 3) (tCons (tC .non) tNil)))))))
          { nx := fun _ H' => Q .non H', rt := Q } [some (.ref p), some v, some (.ref l), some lv, some mv, some (.bl (inB d dl dm))] H' := by
        refine ⟨_, rfl, _, rfl, _, rfl, v, lv, mv, d, dl, dm, rfl, a', e1.any, e2.any, _, rfl, _, rfl, _, rfl, rfl, _, rfl, ?_⟩
        rw [str_same]
        refine iteF ⟨_, rfl, v, .non, .non, d, .none, .none, rfl, a', .non, .non, _, rfl, v, d, rfl, a', rfl, ?_⟩
        rw [inB_no, bl_same]
        refine ⟨_, rfl, iteT ⟨_, rfl, _, rfl, v, lv, .non, d, dl, .none, rfl, a', e1.any, .non, _, rfl, _, rfl, v, lv, .non, d, dl, .none, rfl, a', e1.any, .non, rfl, ?_⟩⟩
        show Q (.bl (decide (V.bl (inB d dl .none) = V.bl (inB d dl .none)))) H'
        rw [bl_same]
        exact q H' W (b.more (by omega))
      refine ⟨_, rfl, v, d, rfl, a', _, rfl, ?_⟩
      cases ei : isIntD d with
      | false =>
        rw [inB_not ei] at fin
        exact iteF fin
      | true =>
        obtain ⟨m, rfl, rfl⟩ := int_of an ei
        refine iteT ⟨_, rfl, rfl, _, rfl, ?_⟩
        have low : ∀ {b : Bool}, b = aboveD m dl → (if b = true then tOrV (tOp (fun x y H Q => y = .non ∧ Q (.bl (decide (x = .non))) H) (tVar 4) (tC .non)) (tOp (rI0 fun i j => .bl (decide (i ≤ j))) (tVar 1) (tVar 4)) [some (.ref p), some (.int m), some (.ref l), some lv, some mv, none] H' (fun x H1 => gName 5 x [some (.ref p), some (.int m), some (.ref l), some lv, some mv, none] H1 (fun σ H => tSeq (tIfS (tTest (tOp rNe (tCB (fun xs H Q => ∃ b, xs = [.bl b] ∧ Q (.str (boolS b)) H) (tCons (tCall spInt [] E0 (tCons (tVar 1) (tCons (tVar 3) (tCons (tVar 4) tNil)))) tNil)) (tCB (fun xs H Q => ∃ b, xs = [.bl b] ∧ Q (.str (boolS b)) H) (tCons (tVar 5) tNil)))) (tRet (tC (.bl false))) tNext)
          (tRet (tAndV (tOp rEq (tCall spInt [.non, .non] E0 (tCons (tVar 1) tNil)) (tCall spWholeR [] E0 (tCons (tVar 1) tNil))) (tOp rEq (tCall spInt [.non] E0 (tCons (tVar 1) (tCons (tVar 3) tNil))) (tCall spInt [] E0 (tCons (tVar 1) (tCons (tVar 3) (tCons (tC .non) tNil)))))))
          { nx := fun _ H' => Q .non H', rt := Q } σ H)) else (fun x H1 => gName 5 x [some (.ref p), some (.int m), some (.ref l), some lv, some mv, none] H1 (fun σ H => tSeq (tIfS (tTest (tOp rNe (tCB (fun xs H Q => ∃ b, xs = [.bl b] ∧ Q (.str (boolS b)) H) (tCons (tCall spInt [] E0 (tCons (tVar 1) (tCons (tVar 3) (tCons (tVar 4) tNil)))) tNil)) (tCB (fun xs H Q => ∃ b, xs = [.bl b] ∧ Q (.str (boolS b)) H) (tCons (tVar 5) tNil)))) (tRet (tC (.bl false))) tNext)
          (tRet (tAndV (tOp rEq (tCall spInt [.non, .non] E0 (tCons (tVar 1) tNil)) (tCall spWholeR [] E0 (tCons (tVar 1) tNil))) (tOp rEq (tCall spInt [.non] E0 (tCons (tVar 1) (tCons (tVar 3) tNil))) (tCall spInt [] E0 (tCons (tVar 1) (tCons (tVar 3) (tCons (tC .non) tNil)))))))
          { nx := fun _ H' => Q .non H', rt := Q } σ H)) (.bl false) H') := by
          intro b hb
          have key : ∀ x, x = (b && belowD m dm) → inB (.int m) dl dm = x := fun x hx => by
            rw [hx, hb]
            rfl
          cases b with
          | false =>
            refine iteF ?_
            rw [key false rfl] at fin
            exact fin
          | true =>
            refine iteT ⟨_, rfl, rfl, _, rfl, ?_⟩
            rcases e2 with ⟨rfl, rfl⟩ | ⟨i, rfl, rfl⟩
            · refine iteT ?_
              rw [key true rfl] at fin
              exact fin
            · refine iteF ⟨_, rfl, _, rfl, _, _, rfl, rfl, ?_⟩
              rw [key (decide (m ≤ i)) rfl] at fin
              exact fin
        rcases e1 with ⟨rfl, rfl⟩ | ⟨i, rfl, rfl⟩
        · exact iteT ⟨_, rfl, low (b := true) rfl⟩
        · exact iteF ⟨_, rfl, _, rfl, _, _, rfl, rfl, _, rfl, low (b := decide (i ≤ m)) rfl⟩
end
end K2

set_option Elab.async false
set_option linter.all false
set_option maxRecDepth 100000
set_option maxHeartbeats 4000000
/-! K2F: the law's look at inverses; the law. -/
namespace Rw
open PySem PySem.Spec PyProof.Rows L2
theorem _root_.L2.Same.grow {p : Addr} {H H1 H2 : Hp} (s : Same H H1) (hp : H p = none) (g : Grow p H1 H2) : Same H H2 := fun b o e => g b o (ne_of_none e hp) (s b o e)
end Rw
namespace K2
open PySem PySem.Spec PyProof.Rows L2 Rw
section
variable {P : Program} {w : World} {K : PySem.W.Frag} {mg : Str → Option Value} {base : Heap}
theorem okInvR {f : Addr} {fd : FuncData} (F : Fun K "_law_inverse_right" "_law_inverse_right" sInvR f fd) (zr : mg "repr" = none) (zi : mg "int" = none) (GC : Own P w K mg base CX0 7 "_law_caught" ["_law_p", "_law_number"] [] spCaught)
    (GW : Own P w K mg base CX0 1 "_law_whole" ["_law_thing"] [] spWholeR) : FnG P w K mg base CX0 8 f fd ["_law_p", "_law_number"] spInvR := by
  refine funG F scInvR (fun vs H Q E h => ?_) (fun cdv A outer s H vs Q E gu hr h => ?_)
  · obtain ⟨p, n, rfl, _⟩ := h
    rfl
  · obtain ⟨p, n, rfl, hp, hn, q⟩ := h
    have pp := prime_pos hp
    refine ⟨_, (pss_cons (ps_set (i := 2) scInvR.nd rfl (Or.inl rfl) (pe_own GC hr pass0 (pa_cons (pv 0) (pa_cons (pv 1) pa_nil))))
      (pss_cons (ps_if (pt_cmpR op_eq (pe_op op_modN (pe_callTy call_int1 (by rfl) zi (by decide +kernel) (pa_cons (pv 1) pa_nil)) (pv 0)) pe_int (nomark _)) (pss_one (ps_ret (pe_cmpR op_eq (pe_callB (call_repr gu hr.units) (by rfl) zr (by decide +kernel) (pa_cons (pv 2) pa_nil)) (pe_callB (call_repr gu hr.units) (by rfl) zr (by decide +kernel) (pa_cons (pe_lst (pa_cons pe_str (pa_cons (pv 1) pa_nil))) pa_nil)) (nomark _)))) pss_nil)
      (pss_cons (ps_if (PW.pt (pw_or (pt_cmpR op_ne (pe_ix ix_list (pv 2) pe_int (fun _ _ => rfl)) pe_str (nomark _)) (pw_or (pt_not (pt_val (pe_own GW (hr.mono (by decide)) pass0 (pa_cons (pe_ix ix_list (pv 2) pe_int (fun _ _ => rfl)) pa_nil)))) (pw_or1 (pt_not (pt_chain op_lt op_lt pe_int (pe_ix ix_list (pv 2) pe_int (fun _ _ => rfl)) (pv 0))))))) (pss_one (ps_ret pe_bl)) pss_nil)
      (pss_one (ps_ret (pe_cmpR op_eq (pe_op op_modN (pe_callTy call_int1 (by rfl) zi (by decide +kernel) (pa_cons (pe_op op_mul (pe_ix ix_list (pv 2) pe_int (fun _ _ => rfl)) (pv 1)) pa_nil)) (pv 0)) pe_int (nomark _))))))), ?_⟩
    have ep : isPr (.int p) = true := decide_eq_true hp
    have pz : ∀ m : Int, (fun (_ j : Int) => j ≠ 0) m p := fun m => by
      show p ≠ 0
      omega
    refine ⟨_, rfl, _, rfl, n, .int p, .int p, rfl, .int p, fun e => ?_, fun p' e hp' => ?_⟩
    · rw [ep] at e
      cases e
    · cases e
      constructor
      · intro hz l H1 hl sm hx
        refine ⟨_, rfl, .inl ⟨_, rfl, _, rfl, _, _, rfl, rfl, pz n, rfl, _, rfl, ?_⟩⟩
        rw [dec_ints, fmod_pos (by omega)]
        refine ite2 (fun _ => ?_) (fun z => absurd (decide_eq_true hz) z)
        have an : Any H1 (.ref l) (.list [.str "none", .int n]) := .lst hx (.cons (.str _) (.cons (.int _) .nil))
        obtain ⟨i1, i2, i3⟩ := int_shown hn
        obtain ⟨s1, s2, s3⟩ := pair_shown (x := "none") (by decide +kernel) i1 i2 i3
        refine ⟨_, rfl, l, _, rfl, an, s1, s2, s3, _, rfl, (by show 2 ≤ sizeLine; decide), fun l2 hl2 => ?_⟩
        refine ⟨l2, _, rfl, .lst upd_same (.cons (.str _) (.cons (.int _) .nil)), s1, s2, s3, rfl, ?_⟩
        rw [str_same]
        exact q _ (sm.trans (same_new hl2))
      · intro nz r l H1 hl sm r0 r1 re hx
        refine ⟨_, rfl, .inl ⟨_, rfl, _, rfl, _, _, rfl, rfl, pz n, rfl, _, rfl, ?_⟩⟩
        rw [dec_ints, fmod_pos (by omega)]
        refine ite2 (fun z => absurd (of_decide_eq_true z) nz) (fun _ => ?_)
        refine ⟨_, rfl, l, _, 0, _, rfl, rfl, SqL.of hx, atI_nat (j := 0) rfl, rfl, _, rfl, ?_⟩
        rw [str_same]
        refine iteF ⟨_, rfl, l, _, 1, _, rfl, rfl, SqL.of hx, atI_nat (j := 1) rfl, .int r, .int r, rfl, .int r, _, rfl, iteF ⟨_, rfl, l, _, 1, _, rfl, rfl, SqL.of hx, atI_nat (j := 1) rfl, _, _, rfl, rfl, _, rfl, ?_⟩⟩
        rw [decide_eq_true (show (0 : Int) < r from r0)]
        refine iteT ⟨_, rfl, _, _, rfl, rfl, _, rfl, ?_⟩
        rw [decide_eq_true (show r < p from r1)]
        refine iteF ⟨_, rfl, l, _, 1, _, rfl, rfl, SqL.of hx, atI_nat (j := 1) rfl, _, rfl, _, _, rfl, rfl, .inl ⟨by omega, by omega⟩, .inl ⟨_, rfl, _, rfl, _, _, rfl, rfl, pz (r * n), rfl, ?_⟩⟩
        show Q (.bl (decide (V.int (Int.fmod (r * n) p) = V.int 1))) H1
        rw [dec_ints, fmod_pos (by omega), decide_eq_true re]
        exact q _ sm
end
end K2

set_option Elab.async false
set_option linter.all false
set_option maxRecDepth 100000
set_option maxHeartbeats 8000000
/-! K2G: the law. -/
namespace K2
open PySem PySem.Spec PyProof.Rows L2 Rw
abbrev sLaw : Stmt := top 20
abbrev NLaw : List Str := ["_law_script", "_law_primes_here", "_law_number", "_law_k", "_law_box_here", "_law_thing", "_law_wide", "_law_p"]
theorem scLaw : FnScope NLaw ["_law_script"] (defScope sLaw) := ⟨rfl, rfl, rfl, by decide +kernel, rfl, by decide +kernel, by decide +kernel⟩
def spLaw (K : PySem.W.Frag) : Sp := fun vs H Q _ => ∃ (a : Addr) (ns : List Int), vs = [.ref a] ∧ SqL K H a (ns.map V.int) ∧ ns.length ≤ 63 ∧ ∀ H', Q (.bl true) H'
/-- the numbers of the first loop -/
def firstL : List Int := (List.range 35).map (fun i : Nat => -4 + (i : Int)) ++ [169, 10 ^ Int.toNat 29]
theorem first_is : rgV (-4) 31 ++ [.int 169, .int (10 ^ Int.toNat 29)] = firstL.map V.int := by
  unfold rgV firstL
  rw [List.map_append, List.map_map]
  rfl
/-- a thing that the law asks about -/
def Thing (d : PyData) : Prop := d.showable = true ∧ d.depth ≤ 10 ∧ d.shown.length ≤ 100
structure Olaw (P : Program) (w : World) (K : PySem.W.Frag) (mg : Str → Option Value) (base : Heap) : Prop where
  cell : Own P w K mg base CX0 1 "_law_cell" ["_law_script", "_law_k"] [] (spCellR K)
  box : Own P w K mg base CX0 1 "_law_box" ["_law_cell_here"] [] spBoxR
  take : Own P w K mg base CX0 1 "_law_take" ["_law_box_here", "_law_many"] [] spTakeR
  odd : Own P w K mg base CX0 2 "_law_odd" ["_law_box_here"] [] spOddR
  whole : Own P w K mg base CX0 1 "_law_whole" ["_law_thing"] [] spWholeR
  prime : Own P w K mg base CX0 2 "is_prime" ["value"] [] spPrime
  caught : Own P w K mg base CX0 7 "_law_caught" ["_law_p", "_law_number"] [] spCaught
  bounds : Own P w K mg base CX0 3 "_law_bounds_right" ["_law_box_here", "_law_thing"] [] spBounds
  inv : OwnG P w K mg base CX0 8 "_law_inverse_right" ["_law_p", "_law_number"] [] spInvR
structure Zs (mg : Str → Option Value) : Prop where
  list : mg "list" = none
  range : mg "range" = none
  repr : mg "repr" = none
  max : mg "max" = none
  min : mg "min" = none
  len : mg "len" = none
section
variable {P : Program} {w : World} {K : PySem.W.Frag} {mg : Str → Option Value} {base : Heap}
theorem okLaw {f : Addr} {fd : FuncData} (F : Fun K "law" "law" sLaw f fd) (Z : Zs mg) (O : Olaw P w K mg base) : FnG P w K mg base CX0 10 f fd ["_law_script"] (spLaw K) := by
  refine funG F scLaw (fun vs H Q E h => ?_) (fun cdv A outer s H vs Q E gu hr h => ?_)
  · obtain ⟨a, ns, rfl, _⟩ := h
    rfl
  · obtain ⟨a, ns, rfl, hs, hlen, q⟩ := h
    refine ⟨_, (pss_cons (ps_set (i := 1) scLaw.nd rfl (Or.inl rfl) (pe_lst (pa_cons pe_int (pa_cons pe_int (pa_cons pe_int (pa_cons pe_int (pa_cons pe_int (pa_cons pe_int pa_nil))))))))
      (pss_cons (ps_for PassesOwn.never rfl (pi_list (pe_op op_cat (pe_listRg rfl rfl Z.list (prg_2 rfl Z.range (pe_un un_neg pe_int) pe_int)) (pe_lst (pa_cons pe_int (pa_cons (pe_op op_pow pe_int pe_int) pa_nil))))) (pg_name (i := 2) scLaw.nd rfl (Or.inl rfl))
        (pss_one (ps_if (pt_cmpR op_ne (pe_callB call_reprB (by rfl) Z.repr (by decide +kernel) (pa_cons (pe_own O.prime (hr.mono (by decide)) pass0 (pa_cons (pv 2) pa_nil)) pa_nil)) (pe_callB call_reprB (by rfl) Z.repr (by decide +kernel) (pa_cons (pe_cmpR op_in_seq (pv 2) (pv 1) (by rfl)) pa_nil)) (nomark _)) (pss_one (ps_ret pe_bl)) pss_nil)))
      (pss_cons (ps_for PassesOwn.never rfl (pi_range1 rfl Z.range (pa_cons (pe_callB (call_max2 rfl) (by rfl) Z.max (by decide +kernel) (pa_cons pe_int (pa_cons (pe_callB (call_min2 rfl) (by rfl) Z.min (by decide +kernel) (pa_cons pe_int (pa_cons (pe_callB call_len_seq (by rfl) Z.len PySem.boot_len (pa_cons (pv 0) pa_nil)) pa_nil))) pa_nil))) pa_nil)) (pg_name (i := 3) scLaw.nd rfl (Or.inl rfl))
        (pss_cons (ps_set (i := 4) scLaw.nd rfl (Or.inl rfl) (pe_own O.box (hr.mono (by decide)) pass0 (pa_cons (pe_own O.cell (hr.mono (by decide)) pass0 (pa_cons (pv 0) (pa_cons (pv 3) pa_nil))) pa_nil)))
        (pss_cons (ps_set (i := 5) scLaw.nd rfl (Or.inl rfl) (pe_ix ix_list (pe_lst (pa_cons (pe_own O.odd (hr.mono (by decide)) pass0 (pa_cons (pv 4) pa_nil)) (pa_cons (pe_op op_sub (pe_own O.take (hr.mono (by decide)) pass0 (pa_cons (pv 4) (pa_cons pe_int pa_nil))) pe_int) pa_nil))) (pe_own O.take (hr.mono (by decide)) pass0 (pa_cons (pv 4) (pa_cons pe_int pa_nil))) (fun _ _ => rfl)))
        (pss_cons (ps_if (pt_not (pt_val (pe_own O.bounds (hr.mono (by decide)) pass0 (pa_cons (pv 4) (pa_cons (pv 5) pa_nil))))) (pss_one (ps_ret pe_bl)) pss_nil)
        (Evl.pss_cut (ps_if (pt_cmpR op_ne (pe_own O.prime (hr.mono (by decide)) pass0 (pa_cons (pv 5) pa_nil)) (pe_and (pe_own O.whole (hr.mono (by decide)) pass0 (pa_cons (pv 5) pa_nil)) (pe_one (pe_cmpR op_in_seq (pv 5) (pv 1) (by rfl)))) (nomark _)) (pss_one (ps_ret pe_bl)) pss_nil)
        (pss_cons (ps_set (i := 6) scLaw.nd rfl (Or.inl rfl) (pe_ix ix_list (pe_lst (pa_cons pe_int (pa_cons (pe_op op_pow pe_int pe_int) pa_nil))) (pe_own O.take (hr.mono (by decide)) pass0 (pa_cons (pv 4) (pa_cons pe_int pa_nil))) (fun _ _ => rfl)))
        (pss_cons (ps_set (i := 2) scLaw.nd rfl (Or.inl rfl) (pe_op op_sub (pe_own O.take (hr.mono (by decide)) pass0 (pa_cons (pv 4) (pa_cons (pe_op op_add (pe_op op_mul pe_int (pv 6)) pe_int) pa_nil))) (pv 6)))
        (pss_cons (ps_for PassesOwn.never rfl (pi_list (pv 1)) (pg_name (i := 7) scLaw.nd rfl (Or.inl rfl)) (pss_one (ps_if (PW.pt (pw_or (pt_not (pt_val (pe_ownG O.inv gu (hr.mono (by decide)) pass0 (pa_cons (pv 7) (pa_cons (pv 2) pa_nil))))) (pw_or1 (pt_not (pt_val (pe_ownG O.inv gu (hr.mono (by decide)) pass0 (pa_cons (pv 7) (pa_cons (pe_op op_mul (pv 7) (pv 2)) pa_nil)))))))) (pss_one (ps_ret pe_bl)) pss_nil)))
        (pss_one (ps_if (PW.pt (pw_or (pt_not (pt_val (pe_own O.whole (hr.mono (by decide)) pass0 (pa_cons (pv 5) pa_nil)))) (pw_or1 (pt_cmpR op_notIn_seq (pv 5) (pv 1) (by rfl))))) (pss_one (ps_if (pt_cmpR op_ne (pe_callB (call_repr gu hr.units) (by rfl) Z.repr (by decide +kernel) (pa_cons (pe_own O.caught (hr.mono (by decide)) pass0 (pa_cons (pv 5) (pa_cons (pv 2) pa_nil))) pa_nil)) (pe_callB (call_repr gu hr.units) (by rfl) Z.repr (by decide +kernel) (pa_cons (pe_lst (pa_cons pe_str (pa_cons (pv 5) pa_nil))) pa_nil)) (nomark _)) (pss_one (ps_ret pe_bl)) pss_nil)) pss_nil))))))))))
      (pss_one (ps_ret pe_bl))))), ?_⟩
    refine ⟨by show 6 ≤ sizeLine; decide, fun l0 h0 => ?_⟩
    have s0 := same_new (o := .lst (primesL.map V.int)) h0
    have e0 : (upd H l0 (.lst (primesL.map V.int))) l0 = some (.lst (primesL.map V.int)) := upd_same
    have hs0 := s0.seq hs
    show tSeq _ _ _ _ (upd H l0 (.lst (primesL.map V.int)))
    generalize upd H l0 (.lst (primesL.map V.int)) = H0 at s0 e0 hs0 ⊢
    -- the first loop
    refine ⟨_, rfl, _, _, rfl, rfl, ⟨by decide, by decide, by decide, by decide, by decide⟩, fun q1 h1 => ⟨_, _, rfl, rfl, ⟨by decide, by decide, by decide⟩, (by show 2 ≤ sizeLine; decide), fun q2 h2 => ?_⟩⟩
    have n12 : q1 ≠ q2 := ne_of_none upd_same h2
    refine ⟨q1, q2, _, _, rfl, rfl, (by rw [upd_ne n12]; exact upd_same), upd_same, (by show 35 + 2 ≤ sizeLine; decide), fun q3 h3 => ?_⟩
    have s1 := (same_new h1).trans ((same_new h2).trans (same_new (o := .lst (rgV (-4) 31 ++ [.int 169, .int (10 ^ Int.toNat 29)])) h3))
    have e3 := upd_same (H := upd (upd H0 q1 (.lst (rgV (-4) 31))) q2 (.lst [.int 169, .int (10 ^ Int.toNat 29)])) (a := q3) (o := .lst (rgV (-4) 31 ++ [.int 169, .int (10 ^ Int.toNat 29)]))
    refine ⟨q3, rfl, ⟨_, SqL.of e3⟩, ?_⟩
    generalize upd (upd (upd H0 q1 _) q2 _) q3 _ = H1 at s1 e3 ⊢
    refine for_list (K := K) (a := q3) (xs := firstL.map V.int) (fun i σ' H' => (∃ x, σ' = [some (.ref a), some (.ref l0), x, none, none, none, none, none]) ∧ H' = H1) ⟨⟨none, rfl⟩, rfl⟩ (fun i σ' H' _ ⟨_, e⟩ => by rw [e, ← first_is]; exact SqL.of e3) ?_ ?_
    · rintro i y σ' H' hi ⟨⟨x, rfl⟩, rfl⟩
      obtain ⟨m, rfl⟩ : ∃ m, y = V.int m := by
        rw [List.getElem?_map] at hi
        cases e : firstL[i]? with
        | none =>
          rw [e] at hi
          cases hi
        | some m =>
          rw [e] at hi
          exact ⟨m, (Option.some.inj hi).symm⟩
      refine ⟨_, rfl, .int m, .int m, rfl, .int m, _, rfl, _, rfl, _, rfl, l0, _, rfl, .inl (SqL.of (s1 _ _ e0)), rfl, flat_ints _, ?_⟩
      show ∃ b, [V.bl (inV (.int m) (primesL.map V.int))] = [V.bl b] ∧ _
      rw [inV_ints]
      refine ⟨_, rfl, rfl, _, rfl, ?_⟩
      show if (!decide (V.str (boolS (isPr (.int m))) = V.str (boolS (isPr (.int m))))) = true then _ else _
      rw [str_same]
      exact iteF ⟨⟨_, rfl⟩, rfl⟩
    rintro σ' H' ⟨⟨x2, rfl⟩, eH⟩
    obtain rfl : H1 = H' := eH.symm
    have e1 := s1 _ _ e0
    have hs1 := s1.seq hs0
    clear e3 s1 h1 h2 h3 n12
    -- the loop over the cells
    refine ⟨_, rfl, a, _, rfl, .inl hs1, _, _, rfl, _, _, rfl, _, rfl, ?_, ?_, ?_⟩
    · split <;> split <;> omega
    · split <;> split <;> omega
    have hn8 : (if (if ((ns.map V.int).length : Int) < 8 then ((ns.map V.int).length : Int) else 8) > 2 then (if ((ns.map V.int).length : Int) < 8 then ((ns.map V.int).length : Int) else 8) else 2).toNat ≤ 8 := by
      split <;> split <;> omega
    refine for_range (lo := 0) (n := _) (fun i σ' H' => (∃ x2 x3 x4 x5 x6 x7, σ' = [some (.ref a), some (.ref l0), x2, x3, x4, x5, x6, x7]) ∧ Same H1 H') ⟨⟨_, _, _, _, _, _, rfl⟩, Same.refl _⟩ ?_ ?_
    · rintro i σ' Hs hi ⟨⟨x2, x3, x4, x5, x6, x7, rfl⟩, S⟩
      have hi8 : i < 8 := Nat.lt_of_lt_of_le hi hn8
      -- the box
      refine ⟨_, rfl, _, rfl, a, ns, i, (by rw [Int.zero_add] <;> rfl), S.seq hs1, by omega, fun z => ⟨z, rfl, fun p H2 hp sm bx => ?_⟩⟩
      -- the thing
      refine ⟨_, rfl, p, 0, rfl, bx, by omega, fun v d H3 hd an g3 b3 => ⟨_, rfl, p, 9, 1, rfl, by decide, by decide, b3, by omega, fun r H4 r0 r1 g4 b4 => ⟨_, _, rfl, rfl, (by show 2 ≤ sizeLine; decide), fun l hl => ⟨_, rfl, p, 2, 2, rfl, by decide, by decide, b4.keep (same_new hl), by omega, fun r' H5 r0' r1' g5 b5 => ?_⟩⟩⟩⟩
      have nl : l ≠ p := (b4.ne hl).symm
      have S5 : Same Hs H5 := (((sm.grow hp g3).grow hp g4).trans (same_new hl)).grow hp g5
      have e5 := g5 l _ nl upd_same
      have kd : Same (del H4 p) (del H5 p) := (del_new hl).trans g5.del
      have th : ∃ tv td, ([v, V.int (r - 2)] : List V)[r'.toNat]? = some tv ∧ Thing td ∧ Any (del H5 p) tv td := by
        rcases (by omega : r' = 0 ∨ r' = 1) with e | e
        · subst e
          exact ⟨v, d, rfl, by
            obtain ⟨o1, o2, o3⟩ := odd_shown d hd
            exact ⟨o1, o2, o3⟩, (an.keep g4.del).keep kd⟩
        · subst e
          exact ⟨_, _, rfl, int_shown (n := r - 2) (by omega), .int _⟩
      obtain ⟨tv, td, t1, t2, t3⟩ := th
      refine ⟨l, _, _, tv, rfl, rfl, SqL.of e5, (by rw [← Int.toNat_of_nonneg r0']; exact atI_nat t1), ?_⟩
      -- the bounds
      refine ⟨_, rfl, _, rfl, p, tv, td, 3, rfl, t3, b5, by omega, fun H6 g6 b6 => ⟨_, rfl, iteF ?_⟩⟩
      have S6 := S5.grow hp g6
      have e6 := S6 _ _ (S _ _ e1)
      have a6 := t3.keep g6.del
      have c6 := a6.keep (same_del (p := p))
      -- is it a prime
      refine ⟨fun σ' H' => σ' = [some (.ref a), some (.ref l0), x2, some (.int (0 + (i : Int))), some (.ref p), some tv, x6, x7] ∧ H' = H6, ?_, ?_⟩
      · refine ⟨_, rfl, tv, td, rfl, c6, _, rfl, tv, td, rfl, c6, _, rfl, ?_⟩
        cases ei : isIntD td with
        | false =>
          have ep : isPr td = false := by cases td <;> first | rfl | cases ei
          rw [ep]
          exact iteF ⟨rfl, _, rfl, iteF ⟨rfl, rfl⟩⟩
        | true =>
          obtain ⟨m, rfl, rfl⟩ := int_of c6 ei
          refine iteT ⟨_, rfl, _, rfl, l0, _, rfl, .inl (SqL.of e6), rfl, flat_ints _, ?_⟩
          show scal _ (V.bl (inV (.int m) (primesL.map V.int))) = true ∧ _
          rw [inV_ints]
          refine ⟨rfl, _, rfl, ?_⟩
          show if (!decide (V.bl (isPr (.int m)) = V.bl (isPr (.int m)))) = true then _ else _
          rw [bl_same]
          exact iteF ⟨rfl, rfl⟩
      rintro σ' H' ⟨rfl, rfl⟩
      -- the number
      refine ⟨_, _, rfl, rfl, ⟨by decide, by decide, by decide⟩, (by show 2 ≤ sizeLine; decide), fun l2 hl2 => ⟨_, rfl, p, 2, 13, rfl, by decide, by decide, b6.keep (same_new hl2), by omega, fun r2 H7 r20 r21 g7 b7 => ?_⟩⟩
      have nl2 : l2 ≠ p := (b6.ne hl2).symm
      have S7 := (S6.trans (same_new hl2)).grow hp g7
      have a7 := a6.keep ((del_new hl2).trans g7.del)
      have wd : ∃ wv : Int, ([.int 40, .int (10 ^ Int.toNat 28)] : List V)[r2.toNat]? = some (.int wv) ∧ 1 ≤ wv ∧ wv ≤ 10 ^ 28 := by
        rcases (by omega : r2 = 0 ∨ r2 = 1) with e | e
        · subst e
          exact ⟨40, rfl, by decide, by decide⟩
        · subst e
          exact ⟨_, rfl, by decide, by decide⟩
      obtain ⟨wv, w1, w2, w3⟩ := wd
      refine ⟨l2, _, _, _, rfl, rfl, SqL.of (g7 l2 _ nl2 upd_same), (by rw [← Int.toNat_of_nonneg r20]; exact atI_nat w1), ?_⟩
      refine ⟨_, rfl, _, rfl, _, _, rfl, rfl, .inl ⟨by decide, by decide⟩, _, _, rfl, rfl, p, _, 14, rfl, by omega, by omega, b7, by omega, fun r3 H8 r30 r31 g8 b8 => ⟨_, rfl, _, _, rfl, rfl, ?_⟩⟩
      have S8 := S7.grow hp g8
      have e8 := S8 _ _ (S _ _ e1)
      have a8 := (a7.keep g8.del).keep (same_del (p := p))
      have hn : (r3 - wv).natAbs ≤ 10 ^ 28 := by omega
      -- the inverses
      refine ⟨_, rfl, l0, rfl, ⟨_, SqL.of e8⟩, for_list (K := K) (a := l0) (xs := primesL.map V.int) (fun j σ' H' => (∃ y, σ' = [some (.ref a), some (.ref l0), some (.int (r3 - wv)), some (.int (0 + (i : Int))), some (.ref p), some tv, some (.int wv), y]) ∧ Same H8 H') ⟨⟨_, rfl⟩, Same.refl _⟩
        (fun j σ' H' _ ⟨_, s⟩ => SqL.of (s _ _ e8)) ?_ ?_⟩
      · rintro j y σ' H' hj ⟨⟨y7, rfl⟩, s⟩
        obtain ⟨m, hm, rfl⟩ : ∃ m, m ∈ primesL ∧ y = V.int m := by
          rw [List.getElem?_map] at hj
          cases e : primesL[j]? with
          | none =>
            rw [e] at hj
            cases hj
          | some m =>
            rw [e] at hj
            exact ⟨m, List.mem_of_getElem? e, (Option.some.inj hj).symm⟩
        have mp := prime_pos hm
        have big : (m * (r3 - wv)).natAbs < 10 ^ 40 := by
          rw [Int.natAbs_mul]
          calc m.natAbs * (r3 - wv).natAbs ≤ 13 * 10 ^ 28 := Nat.mul_le_mul (by omega) hn
            _ < 10 ^ 40 := by decide
        refine ⟨_, rfl, _, rfl, m, r3 - wv, rfl, hm, by omega, fun H' s' => ⟨_, rfl, iteF ⟨_, rfl, _, rfl, _, rfl, _, _, rfl, rfl, .inl ⟨by omega, by omega⟩, m, m * (r3 - wv), rfl, hm, big, fun H'' s'' => ⟨_, rfl, iteF ⟨⟨_, rfl⟩, (s.trans s').trans s''⟩⟩⟩⟩⟩
      rintro σ' H9 ⟨⟨y7, rfl⟩, S9⟩
      have e9 := S9 _ _ e8
      have a9 := a8.keep S9
      -- what is no prime
      have key : ∀ Q : Bool → Hp → Prop, (isPr td = false → Q true H9) → (isPr td = true → Q false H9) → tOr (tNot (tB (tCall spWholeR [] E0 (tCons (tVar 5) tNil)))) (tTest (tOp (rIn K true) (tVar 5) (tVar 1))) [some (.ref a), some (.ref l0), some (.int (r3 - wv)), some (.int (0 + (i : Int))), some (.ref p), some tv, some (.int wv), y7] H9 Q := by
        intro Q q0 q1
        refine ⟨_, rfl, tv, td, rfl, a9, _, rfl, ?_⟩
        cases ei : isIntD td with
        | false => exact iteT (q0 (by cases td <;> first | rfl | cases ei))
        | true =>
          obtain ⟨m, rfl, rfl⟩ := int_of a9 ei
          refine iteF ⟨_, rfl, _, rfl, l0, _, rfl, .inl (SqL.of e9), rfl, flat_ints _, ?_⟩
          show ∃ b, V.bl (!inV (.int m) (primesL.map V.int)) = V.bl b ∧ Q b H9
          rw [inV_ints]
          refine ⟨_, rfl, ?_⟩
          show Q (!isPr (.int m)) H9
          cases ep : isPr (.int m) with
          | false => exact q0 ep
          | true => exact q1 ep
      have fin : ∀ H', Same H9 H' → Same H1 H' := fun H' s b o e => s b o (S9 b o (S8 b o (S b o e)))
      refine key _ (fun ep => iteT ?_) (fun ep => iteF ⟨⟨_, _, _, _, _, _, rfl⟩, fin _ (Same.refl _)⟩)
      refine ⟨_, rfl, _, rfl, r3 - wv, tv, td, rfl, a9, fun _ l3 H' hl3 s hx => ?_, fun m e hm => ?_⟩
      · obtain ⟨s1, s2, s3⟩ := pair_shown (x := "prime") (by decide +kernel) t2.1 t2.2.1 t2.2.2
        refine ⟨l3, _, rfl, .lst hx (.cons (.str _) (.cons (a9.keep s) .nil)), s1, s2, s3, _, rfl, (by show 2 ≤ sizeLine; decide), fun l4 hl4 => ?_⟩
        refine ⟨l4, _, rfl, .lst upd_same (.cons (.str _) (.cons ((a9.keep s).keep (same_new hl4)) .nil)), s1, s2, s3, rfl, _, rfl, ?_⟩
        rw [str_same]
        exact iteF ⟨⟨_, _, _, _, _, _, rfl⟩, fin _ (s.trans (same_new hl4))⟩
      · rw [e] at ep
        rw [show isPr (.int m) = true from decide_eq_true hm] at ep
        cases ep
    · rintro σ' H' ⟨_, _⟩
      exact q _
end
end K2

set_option Elab.async false
set_option linter.all false
set_option maxRecDepth 100000
set_option maxHeartbeats 8000000
/-! K2H: the end. -/
namespace K2
open PySem PySem.Spec PyProof.Rows L2 Rw
abbrev sIniP : Stmt := inClass (top 2) 0
abbrev sIniN : Stmt := inClass (top 3) 0
theorem scIniP : FnScope ["self", "value"] ["self", "value"] (defScope sIniP) := ⟨rfl, rfl, rfl, by decide +kernel, rfl, by decide +kernel, by decide +kernel⟩
theorem scIniN : FnScope ["self", "value"] ["self", "value"] (defScope sIniN) := ⟨rfl, rfl, rfl, by decide +kernel, rfl, by decide +kernel, by decide +kernel⟩
theorem isP : IsIni sIniP := ⟨_, _, _, _, rfl, rfl, rfl⟩
theorem isN : IsIni sIniN := ⟨_, _, _, _, rfl, rfl, rfl⟩
/-- what is asked of the written part -/
structure Asked (K : PySem.W.Frag) (CR CP CN aI a2 a3 a5 a7 a11 a13 : Addr) (u2 u3 u5 u7 u11 u13 : List Value) : Prop where
  iv : InvHere K "INVERSES" aI a2 a3 a5 a7 a11 a13 u2 u3 u5 u7 u11 u13
  root : PySem.W.nsIn K mainGlobals "RowError" = some (some (.ref CR))
  eP : ErrHere K "InvalidPrime" "InvalidPrime.__init__" sIniP CR CP
  eN : ErrHere K "NoInverse" "NoInverse.__init__" sIniN CR CN
  cP : PySem.W.isClsIn K CP = true
  cN : PySem.W.isClsIn K CN = true
  pp : PySem.W.subIn K (.ref CP) (.ref CP) = some true
  np : PySem.W.subIn K (.ref CN) (.ref CP) = some false
  nn : PySem.W.subIn K (.ref CN) (.ref CN) = some true
  d1 : DefHere K "is_number" sNum
  d2 : DflHere K "is_integer" sInt [.none, .none]
  d3 : DefHere K "is_prime" sPrime
  d4 : DefHere K "check_prime" sCheck
  d5 : DefHere K "inverse" sInv
  d6 : DefHere K "_law_cell" sCell
  d7 : DefHere K "_law_box" sBox
  d8 : DefHere K "_law_take" sTake
  d9 : DefHere K "_law_odd" sOdd
  d10 : DefHere K "_law_whole" sWhole
  d11 : DefHere K "_law_caught" sCaught
  d12 : DefHere K "_law_bounds_right" sBounds
  d13 : DefHere K "_law_inverse_right" sInvR
  d14 : DefHere K "law" sLaw
  z1 : PySem.W.nsIn K mainGlobals "isinstance" = some none
  z2 : PySem.W.nsIn K mainGlobals "int" = some none
  z3 : PySem.W.nsIn K mainGlobals "bool" = some none
  z4 : PySem.W.nsIn K mainGlobals "range" = some none
  z5 : PySem.W.nsIn K mainGlobals "len" = some none
  z6 : PySem.W.nsIn K mainGlobals "max" = some none
  z7 : PySem.W.nsIn K mainGlobals "min" = some none
  z8 : PySem.W.nsIn K mainGlobals "repr" = some none
  z9 : PySem.W.nsIn K mainGlobals "list" = some none
theorem all_mk {l : PySem.W.OpenLaw} {w : World} {K : PySem.W.Frag} {h : Heap} {mg : Str → Option Value} {fa CR CP CN aI a2 a3 a5 a7 a11 a13 : Addr} {u2 u3 u5 u7 u11 u13 : List Value} (X : K.In h) (G : h.Ns mainGlobals mg) (hfa : mg "law" = some (.ref fa)) (Z : Asked K CR CP CN aI a2 a3 a5 a7 a11 a13 u2 u3 u5 u7 u11 u13) :
    ∃ fd : FuncData, (∀ (s : Shared) (v : Value), BindsTo s fd ⟨[v], []⟩ [("_law_script", v)]) ∧ ∀ base : Heap, K.In base → base.Ns mainGlobals mg → FnG l.prog w K mg base CX0 10 fa fd ["_law_script"] (spLaw K) := by
  have T : Txt K w mg aI CP CN [(2, .ref a2), (3, .ref a3), (5, .ref a5), (7, .ref a7), (11, .ref a11), (13, .ref a13)] := by
    refine ⟨PySem.W.mg_none_of X G Z.z1, PySem.W.mg_none_of X G Z.z2, PySem.W.mg_none_of X G Z.z3, PySem.W.mg_none_of X G Z.z4, PySem.W.mg_of X G Z.iv.t.1, Z.iv.t.2, fun i => prime_tab (us := []) i, Z.iv.tab, ?_, ?_⟩
    · exact Z.eP.err X G scIniP isP fun _ _ _ _ _ _ us hl => match us, hl with | [_, _], _ => rfl
    · exact Z.eN.err X G scIniN isN fun _ _ _ _ _ _ us hl => match us, hl with | [_, _], _ => rfl
  have kP : PySem.W.subIn K (.ref CP) (.type "BaseException") = some true := T.eP.xf.exC
  have kN : PySem.W.subIn K (.ref CN) (.type "BaseException") = some true := T.eN.xf.exC
  have TC : TxC K mg CR CP CN := ⟨PySem.W.mg_of X G Z.root, exm_of kP Z.cP T.eP.ox.tyC Z.pp, exm_of kP Z.cP T.eP.ox.tyC Z.np, exm_of kN Z.cN T.eN.ox.tyC Z.nn⟩
  have D1 := Z.d1.df (ps := ["value"]) X G fun _ _ _ _ _ _ us hl => match us, hl with | [_], _ => rfl
  have D3 := Z.d3.df (ps := ["value"]) X G fun _ _ _ _ _ _ us hl => match us, hl with | [_], _ => rfl
  have D4 := Z.d4.df (ps := ["prime"]) X G fun _ _ _ _ _ _ us hl => match us, hl with | [_], _ => rfl
  have D5 := Z.d5.df (ps := ["number", "prime"]) X G fun _ _ _ _ _ _ us hl => match us, hl with | [_, _], _ => rfl
  have D6 := Z.d6.df (ps := ["_law_script", "_law_k"]) X G fun _ _ _ _ _ _ us hl => match us, hl with | [_, _], _ => rfl
  have D7 := Z.d7.df (ps := ["_law_cell_here"]) X G fun _ _ _ _ _ _ us hl => match us, hl with | [_], _ => rfl
  have D8 := Z.d8.df (ps := ["_law_box_here", "_law_many"]) X G fun _ _ _ _ _ _ us hl => match us, hl with | [_, _], _ => rfl
  have D9 := Z.d9.df (ps := ["_law_box_here"]) X G fun _ _ _ _ _ _ us hl => match us, hl with | [_], _ => rfl
  have D10 := Z.d10.df (ps := ["_law_thing"]) X G fun _ _ _ _ _ _ us hl => match us, hl with | [_], _ => rfl
  have D11 := Z.d11.df (ps := ["_law_p", "_law_number"]) X G fun _ _ _ _ _ _ us hl => match us, hl with | [_, _], _ => rfl
  have D12 := Z.d12.df (ps := ["_law_box_here", "_law_thing"]) X G fun _ _ _ _ _ _ us hl => match us, hl with | [_, _], _ => rfl
  have D13 := Z.d13.df (ps := ["_law_p", "_law_number"]) X G fun _ _ _ _ _ _ us hl => match us, hl with | [_, _], _ => rfl
  obtain ⟨f, g, oc, od, kV, dc, pm, an, cd, ct, sl, lk, hc, hk⟩ := Z.d14
  have e := hfa.symm.trans (PySem.W.mg_of X G g)
  cases e
  refine ⟨PySem.W.fnOf "law" "law" (defArgs sLaw) (defBody sLaw) (defScope sLaw) .none kV dc pm an cd ct, fun s v => .of_eq rfl, fun base KB _ => ?_⟩
  have G1 : Own l.prog w K mg base CX0 1 "is_number" ["value"] [] spNum := D1.own fun f fd F => okNum F T
  have G2 : ∀ j : Nat, j ≤ 2 → Own l.prog w K mg base CX0 2 "is_integer" ["value", "low", "high"] ([.non, .non].drop j) spInt := by
    intro j hj
    obtain ⟨f, T', oc, od, kV, dc, pm, an, cd, ct, sl, tc, td, n, ts, g, l', c', k', lT⟩ := Z.d2
    have F : FunD K "is_integer" "is_integer" (defArgs sInt) (defBody sInt) (defScope sInt) [.non, .non] [] f _ := ⟨⟨oc, od, _, kV, dc, pm, an, cd, ct, sl, rfl, l', c', .inr ⟨by simp, T', _, [.none, .none], n, rfl, lT, rfl, .cons rfl (.cons rfl .nil)⟩, .inl rfl⟩, k'⟩
    have ok := okInt (P := l.prog) (w := w) (mg := mg) (base := base) F G1
    rcases (by omega : j = 0 ∨ j = 1 ∨ j = 2) with e | e | e
    · subst e
      obtain ⟨ds, v, b⟩ := F.binds1 (ps := ["value", "low", "high"]) 1 0 (by simp) rfl fun T kV doc pm an cdv ct us its h1 h2 => match us, its, h1, h2 with | [_], [_, _], _, _ => ⟨_, rfl, rfl⟩
      exact ⟨f, _, ds, PySem.W.mg_of X G g, k', ok, b, v⟩
    · subst e
      obtain ⟨ds, v, b⟩ := F.binds1 (ps := ["value", "low", "high"]) 2 1 (by simp) rfl fun T kV doc pm an cdv ct us its h1 h2 => match us, its, h1, h2 with | [_, _], [_, _], _, _ => ⟨_, rfl, rfl⟩
      exact ⟨f, _, ds, PySem.W.mg_of X G g, k', ok, b, v⟩
    · subst e
      obtain ⟨ds, v, b⟩ := F.binds1 (ps := ["value", "low", "high"]) 3 2 (by simp) rfl fun T kV doc pm an cdv ct us its h1 h2 => match us, its, h1, h2 with | [_, _, _], [_, _], _, _ => ⟨_, rfl, rfl⟩
      exact ⟨f, _, ds, PySem.W.mg_of X G g, k', ok, b, v⟩
  have G3 : Own l.prog w K mg base CX0 2 "is_prime" ["value"] [] spPrime := D3.own fun f fd F => okPrime F T G1
  have G4 : Own l.prog w K mg base (L2.CX l.prog w) 4 "check_prime" ["prime"] [] (spCheck CP) := D4.own fun f fd F => okCheck F T G3
  have G5 : Own l.prog w K mg base (L2.CX l.prog w) 6 "inverse" ["number", "prime"] [] (spInv CP CN) := D5.own fun f fd F => okInv F T G1 G4
  have G6 : Own l.prog w K mg base CX0 1 "_law_cell" ["_law_script", "_law_k"] [] (spCellR K) := D6.own fun f fd F => okCell F (PySem.W.mg_none_of X G Z.z5)
  have G7 : Own l.prog w K mg base CX0 1 "_law_box" ["_law_cell_here"] [] spBoxR := D7.own fun f fd F => okBox F (PySem.W.mg_none_of X G Z.z6) T.int
  have G8 : Own l.prog w K mg base CX0 1 "_law_take" ["_law_box_here", "_law_many"] [] spTakeR := D8.own fun f fd F => okTake F T.int
  have G9 : Own l.prog w K mg base CX0 2 "_law_odd" ["_law_box_here"] [] spOddR := D9.own fun f fd F => okOdd F G8
  have G10 : Own l.prog w K mg base CX0 1 "_law_whole" ["_law_thing"] [] spWholeR := D10.own fun f fd F => okWhole F T
  have G11 : Own l.prog w K mg base CX0 7 "_law_caught" ["_law_p", "_law_number"] [] spCaught := D11.own fun f fd F => okCaught F T TC G5
  have G12 : Own l.prog w K mg base CX0 3 "_law_bounds_right" ["_law_box_here", "_law_thing"] [] spBounds := D12.own fun f fd F => okBounds F (PySem.W.mg_none_of X G Z.z8) G8 G10 (G2 0 (by decide)) (G2 1 (by decide)) (G2 2 (by decide))
  have G13 : OwnG l.prog w K mg base CX0 8 "_law_inverse_right" ["_law_p", "_law_number"] [] spInvR := D13.ownG fun f fd F => okInvR F (PySem.W.mg_none_of X G Z.z8) T.int G11 G10
  exact okLaw (fun_mk (st := sLaw) lk hc hk) ⟨PySem.W.mg_none_of X G Z.z9, T.range, PySem.W.mg_none_of X G Z.z8, PySem.W.mg_none_of X G Z.z6, PySem.W.mg_none_of X G Z.z7, PySem.W.mg_none_of X G Z.z5⟩ ⟨G6, G7, G8, G9, G10, G3, G11, G12, G13⟩
end K2

set_option Elab.async false
open PySem PySem.W PyProof.Rows
set_option maxRecDepth 100000
set_option maxHeartbeats 0
open_top k2head for PySem.Challenge.rw_maprows_k02_integers_primes_and_inverses

open PySem PySem.W PyProof.Rows in
set_option maxRecDepth 100000 in
set_option maxHeartbeats 0 in
set_option pp.maxSteps 200 in
theorem PySem.Challenge.cw_maprows_k02_integers_primes_and_inverses_holds : PySem.Challenge.rw_maprows_k02_integers_primes_and_inverses.Holds := by
  refine k2head ?walk
  k_fill
  refine Rw.walkG (l := PySem.Challenge.rw_maprows_k02_integers_primes_and_inverses) (n := 63) (k := 10) (x := "_law_script") (sp := K2.spLaw) rfl (by decide) rfl rfl ⟨rfl, by decide, by decide⟩ (fun w h Y => PySem.W.kIn_of Y) ?F (fun K H a ns hl _ hs => ⟨a, ns, rfl, hs, hl, fun _ => rfl⟩)
  intro w mg fa h KX G hmg
  refine' K2.all_mk KX G hmg ?Z
  case' Z => refine' ⟨?iv, ?root, ?eP, ?eN, ?cP, ?cN, ?pp, ?np, ?nn, ?d1, ?d2, ?d3, ?d4, ?d5, ?d6, ?d7, ?d8, ?d9, ?d10, ?d11, ?d12, ?d13, ?d14, ?z1, ?z2, ?z3, ?z4, ?z5, ?z6, ?z7, ?z8, ?z9⟩
  (case root => k_is)
  (case iv => refine' ⟨?t, ?k2, ?k3, ?k5, ?k7, ?k11, ?k13, ?v2, ?v3, ?v5, ?v7, ?v11, ?v13⟩; (case t => refine' Rw.TabIHere.of ?g ?k ?tt ?z; (case g => k_is); (case k => k_is); (case tt => exact .cons rfl rfl rfl (.cons rfl rfl rfl (.cons rfl rfl rfl (.cons rfl rfl rfl (.cons rfl rfl rfl (.cons rfl rfl rfl .nil)))))); (case z => first | rfl | k_is)); (case k2 => refine' Rw.TupHere.of ?l; (case l => k_is)); (case k3 => refine' Rw.TupHere.of ?l; (case l => k_is)); (case k5 => refine' Rw.TupHere.of ?l; (case l => k_is)); (case k7 => refine' Rw.TupHere.of ?l; (case l => k_is)); (case k11 => refine' Rw.TupHere.of ?l; (case l => k_is)); (case k13 => refine' Rw.TupHere.of ?l; (case l => k_is)); (case v2 => exact .cons ⟨_, rfl⟩ (.cons ⟨_, rfl⟩ (.nil))); (case v3 => exact .cons ⟨_, rfl⟩ (.cons ⟨_, rfl⟩ (.cons ⟨_, rfl⟩ (.nil)))); (case v5 => exact .cons ⟨_, rfl⟩ (.cons ⟨_, rfl⟩ (.cons ⟨_, rfl⟩ (.cons ⟨_, rfl⟩ (.cons ⟨_, rfl⟩ (.nil)))))); (case v7 => exact .cons ⟨_, rfl⟩ (.cons ⟨_, rfl⟩ (.cons ⟨_, rfl⟩ (.cons ⟨_, rfl⟩ (.cons ⟨_, rfl⟩ (.cons ⟨_, rfl⟩ (.cons ⟨_, rfl⟩ (.nil)))))))); (case v11 => exact .cons ⟨_, rfl⟩ (.cons ⟨_, rfl⟩ (.cons ⟨_, rfl⟩ (.cons ⟨_, rfl⟩ (.cons ⟨_, rfl⟩ (.cons ⟨_, rfl⟩ (.cons ⟨_, rfl⟩ (.cons ⟨_, rfl⟩ (.cons ⟨_, rfl⟩ (.cons ⟨_, rfl⟩ (.cons ⟨_, rfl⟩ (.nil)))))))))))); (case v13 => exact .cons ⟨_, rfl⟩ (.cons ⟨_, rfl⟩ (.cons ⟨_, rfl⟩ (.cons ⟨_, rfl⟩ (.cons ⟨_, rfl⟩ (.cons ⟨_, rfl⟩ (.cons ⟨_, rfl⟩ (.cons ⟨_, rfl⟩ (.cons ⟨_, rfl⟩ (.cons ⟨_, rfl⟩ (.cons ⟨_, rfl⟩ (.cons ⟨_, rfl⟩ (.cons ⟨_, rfl⟩ (.nil)))))))))))))))
  (case eP => refine' Rw.ErrHere.of ?g ?xl ?sa ?ga ?gg ?no ?ini ?ty ?l ?c ?k ?kc ?ex ?tc ?hd; (case g => k_is); (case xl => k_is); (case sa => k_is); (case ga => k_is); (case gg => k_is); (case no => k_is); (case ini => k_is); (case ty => k_is); (case l => k_is); (case c => k_is); (case k => k_is); (case kc => k_is); (case ex => k_is); (case tc => k_is); (case hd => k_is))
  (case eN => refine' Rw.ErrHere.of ?g ?xl ?sa ?ga ?gg ?no ?ini ?ty ?l ?c ?k ?kc ?ex ?tc ?hd; (case g => k_is); (case xl => k_is); (case sa => k_is); (case ga => k_is); (case gg => k_is); (case no => k_is); (case ini => k_is); (case ty => k_is); (case l => k_is); (case c => k_is); (case k => k_is); (case kc => k_is); (case ex => k_is); (case tc => k_is); (case hd => k_is))
  (case cP => first | rfl | k_is)
  (case cN => first | rfl | k_is)
  (case pp => first | rfl | k_is)
  (case np => first | rfl | k_is)
  (case nn => first | rfl | k_is)
  (case d1 => refine' Rw.DefHere.of ?g ?l ?c ?k; (case g => k_is); (case l => k_is); (case c => k_is); (case k => k_is))
  (case d2 => refine' Rw.DflHere.of ?g ?l ?c ?k ?t; (case g => k_is); (case l => k_is); (case c => k_is); (case k => k_is); (case t => k_is))
  (case d3 => refine' Rw.DefHere.of ?g ?l ?c ?k; (case g => k_is); (case l => k_is); (case c => k_is); (case k => k_is))
  (case d4 => refine' Rw.DefHere.of ?g ?l ?c ?k; (case g => k_is); (case l => k_is); (case c => k_is); (case k => k_is))
  (case d5 => refine' Rw.DefHere.of ?g ?l ?c ?k; (case g => k_is); (case l => k_is); (case c => k_is); (case k => k_is))
  (case d6 => refine' Rw.DefHere.of ?g ?l ?c ?k; (case g => k_is); (case l => k_is); (case c => k_is); (case k => k_is))
  (case d7 => refine' Rw.DefHere.of ?g ?l ?c ?k; (case g => k_is); (case l => k_is); (case c => k_is); (case k => k_is))
  (case d8 => refine' Rw.DefHere.of ?g ?l ?c ?k; (case g => k_is); (case l => k_is); (case c => k_is); (case k => k_is))
  (case d9 => refine' Rw.DefHere.of ?g ?l ?c ?k; (case g => k_is); (case l => k_is); (case c => k_is); (case k => k_is))
  (case d10 => refine' Rw.DefHere.of ?g ?l ?c ?k; (case g => k_is); (case l => k_is); (case c => k_is); (case k => k_is))
  (case d11 => refine' Rw.DefHere.of ?g ?l ?c ?k; (case g => k_is); (case l => k_is); (case c => k_is); (case k => k_is))
  (case d12 => refine' Rw.DefHere.of ?g ?l ?c ?k; (case g => k_is); (case l => k_is); (case c => k_is); (case k => k_is))
  (case d13 => refine' Rw.DefHere.of ?g ?l ?c ?k; (case g => k_is); (case l => k_is); (case c => k_is); (case k => k_is))
  (case d14 => refine' Rw.DefHere.of ?g ?l ?c ?k; (case g => k_is); (case l => k_is); (case c => k_is); (case k => k_is))
  (case z1 => k_is)
  (case z2 => k_is)
  (case z3 => k_is)
  (case z4 => k_is)
  (case z5 => k_is)
  (case z6 => k_is)
  (case z7 => k_is)
  (case z8 => k_is)
  (case z9 => k_is)
#print axioms PySem.Challenge.cw_maprows_k02_integers_primes_and_inverses_holds
