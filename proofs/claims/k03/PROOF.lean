import PyProof.Rows.All
import Wide.All
import OpenK.AllK
import Wide.FinOn
import PyProof.RowDictHeap
import PyProof.ReprRoads
import HandS.ForMost
import HandS.ForExc
import HandS.ExcInit
import HandS.ExcField
import HandS.IsInst
import HandS.Wide
import HandS.Defaults
import HandS.Conv
import KE.GoesMore
import KE.GoesZip
import HandS.Zip0
import HandS.Walk
import KE.GoesEnum
import HandS.Property
import PySem.Challenge.RW_maprows_k03_vectors_led_by_matrices
import PyProof.P3Eq
set_option Elab.async false
set_option linter.all false
set_option maxRecDepth 100000
set_option maxHeartbeats 4000000
/-! TkA: own rules that all laws of this program share: a def called where no repr runs (FnG), the end of a row from it, repr of data, try with several named clauses. -/
namespace Rw
open PySem PySem.Spec PyProof.Rows L2

/-! ### defs that are called where no repr is under way -/
theorem guards_deep (A : Around) (e : Env) : (A.deeper e).guards = A.guards := by rfl
/-- FnOk, but only where no repr is under way -/
structure FnG (P : Program) (w : World) (K : PySem.W.Frag) (mg : Str → Option Value) (base : Heap) (CX : CXT) (k : Nat) (f : Addr) (fd : FuncData) (ps : List Str) (sp : Sp) : Prop where
  many : ∀ vs H Q E, sp vs H Q E → vs.length = ps.length
  go : ∀ (A : Around) (fr : List Env) (s : Shared) (H : Hp) (ar : Args) (us : List Value) (vs : List V) (Q : VK) (E : XK), A.guards = some [] → Room k A → Env0 P w K mg base A fr s H →
    BindsTo s fd ar (ps.zip us) → Vals vs us → sp vs H Q E → codeAny (model P w) A (.call (.ref f) ar) (CR CX fr P w H s Q E) s

section
variable {P : Program} {w : World} {K : PySem.W.Frag} {mg : Str → Option Value} {base : Heap} {CX : CXT}
theorem fnG_of {k : Nat} {f : Addr} {name qual : Str} {pa : Arguments} {bd : List Stmt} {sc : Scope} {dV kV doc pm cdv ct oc : Value} {an od : Option Addr} {osl : Array (Option Value)} {N ps : List Str} {sp : Sp}
    (lk : K.lookup f = some ⟨oc, od, .func (PySem.W.fnOf name qual pa bd sc dV kV doc pm an cdv ct), osl⟩) (hcd : PySem.W.codeIn K cdv qual = true) (S : FnScope N ps sc)
    (many : ∀ vs H Q E, sp vs H Q E → vs.length = ps.length)
    (walk : ∀ (A : Around) (fr : List Env) (s : Shared) (H : Hp) (vs : List V) (Q : VK) (E : XK), A.guards = some [] → Room k (A.deeper (envOfC qual sc s.heap.objs.size f cdv)) → sp vs H Q E →
      ∃ t, PSs (cxOf CX P w K mg base N qual sc f cdv A fr s H E) bd t ∧ t { nx := fun _ H' => Q .non H', rt := Q } (start N vs) H) :
    FnG P w K mg base CX (k + 1) f (PySem.W.fnOf name qual pa bd sc dV kV doc pm an cdv ct) ps sp := by
  constructor
  · exact many
  intro A fr s H ar us vs Q E gu room ev bnd rel prom
  have cnt := many vs H Q E prom
  have kin : K.In s.heap := PySem.W.Frag.In.keeps ev.mod.kin (fun b o e => (ev.bs b o e).1)
  have lim : s.heap.NoLimit := Heap.NoLimit.keeps ev.mod.nolimit (fun b o e => (ev.bs b o e).1)
  refine codeAny_call_function (Room.depth room) (kin f _ lk) rfl S.co S.gen rfl (PySem.W.codeRec_of kin hcd) ?_
  refine bnd _ _ _ _ ?_
  refine wpAny_newFunctionEnv_cells S.kind ?_ ?_
  · intro y hy
    obtain ⟨n, v⟩ := y
    have hp := (List.of_mem_zip hy).1
    cases S.par n hp with
    | inl q => exact Or.inl q
    | inr q => exact Or.inr ⟨q, PySem.W.cellsFrom_some sc.names (s.heap.objs.size + 1) [] (Or.inl q)⟩
  intro env he s1 x
  subst he
  refine And.intro (lim.keeps (InCallC.toInCall x).keep) ?_
  refine codeAny_func ?_
  have start_ok := inv_start (CX := CX) (E := E) (f := f) (cd := cdv) S room.hd ev cnt rel x
  obtain ⟨t, ht, hq⟩ := walk A fr s H vs Q E gu (Room.deeper room _) prom
  refine wpAny_mono (PSs.run ht [] s1 (start N vs) H _ start_ok hq) ?_ (fun _ _ z => z)
  intro fl s2 hs
  cases fl with
  | ret u =>
    obtain ⟨v, σ2, H2, J, rv, q⟩ := hs
    exact Exists.intro v ⟨H2, J.os, J.bare, J.base, J.hok, rv, q⟩
  | next =>
    obtain ⟨σ2, H2, J, q⟩ := hs
    exact Exists.intro V.non ⟨H2, J.os, J.bare, J.base, J.hok, rfl, q⟩
  | brk => exact (hs.choose_spec.choose_spec.2).elim
  | cont => exact (hs.choose_spec.choose_spec.2).elim
/-- a def of the text: its body's term and reading, where no repr is under way -/
theorem funG {x qual : Str} {st : Stmt} {f : Addr} {fd : FuncData} {N ps : List Str} {k : Nat} {sp : Sp} (F : Fun K x qual st f fd) (S : FnScope N ps (defScope st)) (many : ∀ vs H Q E, sp vs H Q E → vs.length = ps.length)
    (walk : ∀ (cdv : Value) (A : Around) (fr : List Env) (s : Shared) (H : Hp) (vs : List V) (Q : VK) (E : XK), (cxOf CX0 P w K mg base N qual (defScope st) f cdv A fr s H E).A.guards = some [] →
      Room k (A.deeper (envOfC qual (defScope st) s.heap.objs.size f cdv)) → sp vs H Q E →
      ∃ t, PSs (cxOf CX0 P w K mg base N qual (defScope st) f cdv A fr s H E).nox (defBody st) t ∧ t { nx := fun _ H' => Q .non H', rt := Q } (start N vs) H) : FnG P w K mg base CX0 (k + 1) f fd ps sp := by
  obtain ⟨oc, od, kV, doc, pm, an, cdv, ct, osl, rfl, lk, hcd⟩ := F.ex
  refine fnG_of lk hcd S many ?_
  intro A fr s H vs Q E gu room prom
  obtain ⟨t, d, q⟩ := walk cdv A fr s H vs Q E gu room prom
  exact ⟨t, PSs.nox d, q⟩
end

section
variable {X : Cx} {CX : CXT} {k : Nat} {f : Addr} {fd : FuncData} {ps : List Str} {sp : Sp} {dvs : List V} {ds : List Value} {E : XK} {x : Str} {p pos : Pos} {e : Expr} {es : List Expr} {t : TA}
/-- f(e, ..) of such a def -/
theorem pe_callG (F : FnG X.prog X.w X.K X.mg X.base CX k f fd ps sp) (gu : X.A.guards = some []) (room : Room k X.A) (hg : Gl X x) (hm : X.mg x = some (.ref f)) (hk : PySem.W.keepIn X.K (.ref f) = true)
    (bnd : Binds X.K fd ps ds) (hd : Vals dvs ds) (hx : Passes CX X E) (ha : PA X (e :: es) t) (hdb : (x == ("__debug__" : Str)) = false := by decide)
    (he : starEach (e :: es) X.env = (false, eval e X.env) :: starEach es X.env := by rfl) (hpl : (backTo pos (starEach es X.env)).any (·.1) = false := by rfl) :
    PE X (.Call (.Name x p) (e :: es) [] pos) (tCall sp dvs E t) := by
  constructor
  intro pins s σ H Q I h
  refine wpAny_Call_Name_kw (ld_glob I hg hm ?_ hdb)
  refine PySem.W.callWith_K (h₀ := X.base) I.ok.mod.kin hk ?_ he hpl
  refine thn (PA.run ha pos pins s σ H _ I h) ?_
  intro us s1 hh
  obtain ⟨vs, H1, I1, r, q⟩ := hh
  refine ⟨I1.kIn, ?_⟩
  have r2 : Vals (vs ++ dvs) (us ++ ds) := Vals.append r hd
  have cnt : (us ++ ds).length = ps.length := (r2.length).symm.trans (F.many _ _ _ _ q)
  refine wpAny_call (codeAny_mono (F.go X.A X.stack s1 H1 ⟨us, []⟩ (us ++ ds) (vs ++ dvs) Q E gu room I1.env0 (bnd s1 us I1.kIn cnt) r2 q) ?_)
  intro res s2 hq
  cases res with
  | error er => exact hx pins σ H1 s1 er s2 I1 hq
  | ok fl =>
    cases fl with
    | ret u => exact Inv.after I1 hq
    | next => exact hq.elim
    | brk => exact hq.elim
    | cont => exact hq.elim
end
end Rw

set_option Elab.async false
set_option linter.all false
set_option maxRecDepth 100000
set_option maxHeartbeats 4000000
/-! TkB: the end of a law's row from a def that is called where no repr is under way. -/
namespace Rw
open PySem PySem.Spec PyProof.Rows L2

/-- nothing is tracked in H but perhaps a -/
def Lone (H : Hp) (a : Addr) : Prop := ∀ b, H b ≠ none → b = a

section
variable {P : Program} {w : World} {K : PySem.W.Frag} {mg mb : Str → Option Value} {s : Shared} {a : Addr} {H : Hp} {o : Obj}
theorem lone_base {b : Addr} {u : Obj} (e : s.heap.get? b = some u) (n : H b = none) : (hidT s.heap H).get? b = some u := hidT_get e n
theorem lone_free (A : Lone H a) {b : Addr} (n : b ≠ a) : H b = none := by
  cases q : H b with
  | none => rfl
  | some u => exact (n (A b (by rw [q]; exact fun z => nomatch z))).elim
theorem lone_dict (A : Lone H a) (ha : s.heap.get? a = some o) (hd : ∀ es n, o.data ≠ .dict es n) {b : Addr} {u : Obj} {es : Array DictEntry} {n : Nat} (e : s.heap.get? b = some u) (d : u.data = .dict es n) : H b = none :=
  lone_free A fun z => by
    rw [z, ha] at e
    cases e
    exact hd es n d
theorem lone_ns (A : Lone H a) (ha : s.heap.get? a = some o) (hd : ∀ es n, o.data ≠ .dict es n) {b : Addr} {m : Str → Option Value} (h : s.heap.Ns b m) : (hidT s.heap H).Ns b m := by
  obtain ⟨u, es, n, e, d, r⟩ := h
  exact ⟨u, es, n, lone_base e (lone_dict A ha hd e d), d, r⟩
theorem lone_mod (A : Lone H a) (ha : s.heap.get? a = some o) (hd : ∀ es n, o.data ≠ .dict es n) (KX : K.In s.heap) (hK : H a ≠ none → K.lookup a = none) (g : s.heap.Ns mainGlobals mg) (b : s.heap.Ns builtinsNs mb)
    (bb : ∀ x : Str, x ≠ "__name__" → mb x = bootBuiltins x) (lim : s.heap.NoLimit) : Mod K mg (hidT s.heap H) := by
  have kin : K.In (hidT s.heap H) := fun c u e => by
    refine lone_base (KX c u e) ?_
    by_cases z : c = a
    · cases q : H a with
      | none => rw [z]; exact q
      | some y =>
        rw [z, hK (by rw [q]; exact fun z => nomatch z)] at e
        cases e
    · exact lone_free A z
  refine ⟨kin, lone_ns A ha hd g, ⟨mb, lone_ns A ha hd b, bb⟩, ?_⟩
  obtain ⟨mc, h1, h2⟩ := lim
  exact ⟨mc, lone_ns A ha hd h1, h2⟩

/-- what a law's run leaves, from its promise -/
theorem lone_run {CX : CXT} {k : Nat} {fa : Addr} {fd : FuncData} {x : Str} {sp : Sp} (A : Lone H a) (ha : s.heap.get? a = some o) (hd : ∀ es n, o.data ≠ .dict es n) (KX : K.In s.heap) (hK : H a ≠ none → K.lookup a = none)
    (g : s.heap.Ns mainGlobals mg) (b : s.heap.Ns builtinsNs mb) (bb : ∀ x : Str, x ≠ "__name__" → mb x = bootBuiltins x) (lim : s.heap.NoLimit) (hg : s.gens = #[]) (only : Only H) (hok : HOk P w H s.heap) (gu : callerA.guards = some []) (hr : Room k callerA)
    (F : ∀ base : Heap, K.In base → base.Ns mainGlobals mg → FnG P w K mg base CX k fa fd [x] sp) (bnd : ∀ (s : Shared) (u : Value), BindsTo s fd ⟨[u], []⟩ [(x, u)])
    (hs : sp [.ref a] H (fun v _ => v = .bl true) fun _ _ _ => False) (hCX : ∀ e s', CX [] H s (fun _ _ _ => False) e s' → False) :
    codeAny (model P w) callerA (.call (.ref fa) ⟨[.ref a], []⟩) (fun r s' => r = .ok (.ret (.bool true)) ∧ OldK s.heap s'.heap ∧ s'.os = s.os ∧ AllBare s'.gens) s := by
  have M := lone_mod A ha hd KX hK g b bb lim
  have ev : Env0 P w K mg (hidT s.heap H) callerA [] s H := by
    refine ⟨rfl, M, fun c u e => of_hidT e, Nat.le_of_eq (hidT_size _ _), True.intro, ?_, hok, .of_eq hg⟩
    intro c hc
    cases hc
  refine codeAny_mono ((F _ M.kin M.glob).go callerA [] s H ⟨[.ref a], []⟩ [.ref a] [.ref a] _ _ gu hr ev (bnd s (.ref a)) (.cons rfl .nil) hs) ?_
  intro r s' h
  cases r with
  | error e => exact False.elim (hCX e s' h)
  | ok fl =>
    cases fl with
    | next => exact h.elim
    | brk => exact h.elim
    | cont => exact h.elim
    | ret u =>
      obtain ⟨v, H', os, bare, un, hok', r', q⟩ := h
      have ev : v = V.bl true := q
      rw [ev] at r'
      cases (show u = Value.bool true from r')
      refine ⟨rfl, OldK.of_keep ?_, os, bare⟩
      intro c u e
      cases q : H c with
      | none => exact un.keep c u e q (fun z => nomatch z) (fun z => nomatch z)
      | some y =>
        cases only c with
        | inl z =>
          rw [q] at z
          cases z
        | inr z =>
          obtain ⟨ob, xs, z⟩ := z
          have e1 := (hok c _ z).1
          have e2 := (hok' c _ (un.frzs c ob _ z)).1
          rw [e] at e1
          cases e1
          exact e2

theorem lawG {CX : CXT} {k : Nat} {fa : Addr} {fd : FuncData} {x : Str} {sp : Sp} {vs : List Value} {ns : List Int} (KX : K.In s.heap) (g : s.heap.Ns mainGlobals mg) (b : s.heap.Ns builtinsNs mb)
    (bb : ∀ x : Str, x ≠ "__name__" → mb x = bootBuiltins x) (lim : s.heap.NoLimit) (hg : s.gens = #[]) (ha : s.heap.get? a = some { cls := .type "list", data := .seq vs.toArray }) (hi : IntsAre vs ns) (hl : ns.length ≤ sizeLine)
    (gu : callerA.guards = some []) (hr : Room k callerA) (F : ∀ base : Heap, K.In base → base.Ns mainGlobals mg → FnG P w K mg base CX k fa fd [x] sp) (bnd : ∀ (s : Shared) (u : Value), BindsTo s fd ⟨[u], []⟩ [(x, u)])
    (hs : ∀ H : Hp, Only H → SqL K H a (ns.map V.int) → sp [.ref a] H (fun v _ => v = .bl true) fun _ _ _ => False) (hCX : ∀ H e s', CX [] H s (fun _ _ _ => False) e s' → False) :
    codeAny (model P w) callerA (.call (.ref fa) ⟨[.ref a], []⟩) (fun r s' => r = .ok (.ret (.bool true)) ∧ OldK s.heap s'.heap ∧ s'.os = s.os ∧ AllBare s'.gens) s := by
  have rv := vals_ints hi
  have nd : ∀ es n, ({ cls := .type "list", data := .seq vs.toArray } : Obj).data ≠ .dict es n := fun es n z => nomatch z
  cases hk : K.lookup a with
  | some o =>
    have e := KX a o hk
    rw [ha] at e
    cases e
    have sq : SqL K (fun _ => none) a (ns.map V.int) := Or.inr ⟨_, vs.toArray, _, hk, rfl, rfl, rfl, (by rw [List.size_toArray, hi.length]; exact hl), (by simpa using rv)⟩
    have on : Only (fun _ => none) := fun _ => Or.inl rfl
    exact lone_run (H := fun _ => none) (fun b z => absurd rfl z) ha nd KX (fun z => absurd rfl z) g b bb lim hg on (fun c u z => nomatch z) gu hr F bnd (hs _ on sq) (hCX _)
  | none =>
    have on : Only (upd (fun _ => none) a (.frz { cls := .type "list", data := .seq vs.toArray } (.lst (ns.map V.int)))) := fun c => by
      by_cases z : c = a
      · rw [z]
        exact Or.inr ⟨_, _, upd_same⟩
      · exact Or.inl (upd_ne z)
    refine lone_run (a := a) (fun c z => ?_) ha nd KX (fun _ => hk) g b bb lim hg on (fun c u z => ?_) gu hr F bnd (hs _ on (.inl (.inr ⟨_, upd_same⟩))) (hCX _)
    · by_cases y : c = a
      · exact y
      · exact (z (upd_ne y)).elim
    · by_cases y : c = a
      · rw [y, upd_same] at z
        cases z
        rw [y]
        exact ⟨ha, by rw [List.length_map]; exact hl, vs, _, rv, ha⟩
      · rw [upd_ne y] at z
        cases z
end

/-- the row's walk -/
theorem walkG {l : PySem.W.OpenLaw} {n k : Nat} {q : Program} {loose : List Str} {XP : (Str → Option Value) → Heap → Prop} {YP : World → Heap → Prop} {d : DefRec} {K : Params → PySem.W.Frag} {sp : PySem.W.Frag → Sp} {x : Str}
    (hn : l.most = some n) (hn2 : n ≤ sizeLine) (hdf : d.params.defaults = []) (gu : callerA.guards = some []) (hr : Room k callerA) (hY : ∀ (w : World) (h : Heap), YP w h → (K w.params).In h)
    (F : ∀ (w : World) (mg : Str → Option Value) (fa : Addr) (h : Heap), (K w.params).In h → h.Ns mainGlobals mg → mg d.name = some (.ref fa) →
      ∃ fd : FuncData, (∀ (s : Shared) (u : Value), BindsTo s fd ⟨[u], []⟩ [(x, u)]) ∧ ∀ base : Heap, (K w.params).In base → base.Ns mainGlobals mg → FnG l.prog w (K w.params) mg base CX0 k fa fd [x] (sp (K w.params)))
    (hs : ∀ (K : PySem.W.Frag) (H : Hp) (a : Addr) (ns : List Int), ns.length ≤ n → Only H → SqL K H a (ns.map V.int) → sp K [.ref a] H (fun v _ => v = .bl true) fun _ _ _ => False) :
    PySem.W.WalkO q loose XP YP l.row.toRowW d [] (fun f vs => PySem.call f vs) := by
  refine Att.attach_call hn hdf ?_
  intro w s0 s1 mg mb fa o pm cd doc a vs ns G Y ho hd hcd hmg hobj hints hlen hg
  have KX := hY w s1.heap Y
  obtain ⟨fd, bnd, FF⟩ := F w mg fa s1.heap KX G.T.g hmg
  exact lawG KX G.T.g G.T.b G.T.builtins G.T.nolimit hg hobj hints (Nat.le_trans hlen hn2) gu hr FF bnd (fun H on sq => hs (K w.params) H a ns hlen on sq) (fun _ _ _ z => z)
end Rw

set_option Elab.async false
set_option linter.all false
set_option maxRecDepth 100000
set_option maxHeartbeats 4000000
/-! TkC: data with dicts among them; repr of data. -/
namespace Rw
open PySem PySem.Spec PyProof.Rows L2

/-- how a dict's key reads -/
def keyD : Key → PyData
  | .inl i => .int i
  | .inr x => .str x
mutual
/-- what v is, as data: lists and tuples that are tracked, dicts with keys that are ints or texts -/
inductive Any (H : Hp) : V → PyData → Prop
  | non : Any H .non .none
  | bl (b : Bool) : Any H (.bl b) (.bool b)
  | int (i : Int) : Any H (.int i) (.int i)
  | str (x : Str) : Any H (.str x) (.str x)
  | lst {a : Addr} {xs : List V} {ds : List PyData} : H a = some (.lst xs) → AnyL H xs ds → Any H (.ref a) (.list ds)
  | tup {a : Addr} {xs : List V} {ds : List PyData} : H a = some (.tup xs) → AnyL H xs ds → Any H (.ref a) (.tuple ds)
  | dct {a : Addr} {kvs : List (Key × V)} {ds : List (PyData × PyData)} : H a = some (.dK kvs) → AnyK H kvs ds → Any H (.ref a) (.dict ds)
inductive AnyL (H : Hp) : List V → List PyData → Prop
  | nil : AnyL H [] []
  | cons {v : V} {vs : List V} {d : PyData} {ds : List PyData} : Any H v d → AnyL H vs ds → AnyL H (v :: vs) (d :: ds)
inductive AnyK (H : Hp) : List (Key × V) → List (PyData × PyData) → Prop
  | nil : AnyK H [] []
  | cons {k : Key} {v : V} {vs : List (Key × V)} {d : PyData} {ds : List (PyData × PyData)} : Any H v d → AnyK H vs ds → AnyK H ((k, v) :: vs) ((keyD k, d) :: ds)
end

/-! ### how such data is shown -/
section
variable {prog : Program} {w : World} {h : Heap}
/-- u lies as the data d in h, and is shown by repr -/
def Shows (prog : Program) (w : World) (h : Heap) (u : Value) (d : PyData) : Prop := ∃ as, Reads h u d as ∧ ∃ bs, ReadAtMost h d.depth bs ∧ ReprK prog w bs h d.depth u d.shown
def ShowsL (prog : Program) (w : World) (h : Heap) (us : List Value) (ds : List PyData) : Prop := ∃ as, ReadsAll h us ds as ∧ ∃ bs, ReadAtMost h (PyData.depthAll ds) bs ∧ ReprAllK prog w bs h (PyData.depthAll ds) us (PyData.shownAll ds)
theorem shows_flat {u : Value} {d : PyData} (r : Reads h u d []) (k : ReprIs prog w u d.shown) : Shows prog w h u d := ⟨[], r, [], fun _ z => (nomatch z), ReprK.of_is k [] h d.depth⟩
theorem showsL_nil : ShowsL prog w h [] [] := ⟨[], .nil, [], fun _ z => (nomatch z), by simp only [PyData.shownAll]; exact .nil⟩
theorem showsL_cons {u : Value} {d : PyData} {us : List Value} {ds : List PyData} (x : Shows prog w h u d) (y : ShowsL prog w h us ds) : ShowsL prog w h (u :: us) (d :: ds) := by
  obtain ⟨a1, r1, b1, m1, k1⟩ := x
  obtain ⟨a2, r2, b2, m2, k2⟩ := y
  have e : PyData.depthAll (d :: ds) = max d.depth (PyData.depthAll ds) := by simp only [PyData.depthAll]
  have l1 : d.depth ≤ max d.depth (PyData.depthAll ds) := Nat.le_max_left _ _
  have l2 : PyData.depthAll ds ≤ max d.depth (PyData.depthAll ds) := Nat.le_max_right _ _
  refine ⟨a1 ++ a2, .cons r1 r2, b1 ++ b2, ?_, ?_⟩
  · rw [e]
    exact ReadAtMost.append (m1.mono l1) (m2.mono l2)
  · rw [e]
    simp only [PyData.shownAll]
    exact .cons (ReprK.level_le (ReprK.more k1 fun b z => List.mem_append_left b2 z) l1) (ReprAllK.more_le (fun b z => List.mem_append_right b1 z) l2 k2)
theorem shown_le {ds : List PyData} {n : Nat} (z : ∀ t ∈ PyData.shownAll ds, t.length ≤ n) : ∀ d ∈ ds, d.shown.length ≤ n := by
  induction ds with
  | nil => intro d hd; cases hd
  | cons c cs ih =>
    intro d hd
    simp only [PyData.shownAll] at z
    rcases List.mem_cons.mp hd with e | e
    · rw [e]
      exact z _ List.mem_cons_self
    · exact ih (fun t ht => z t (List.mem_cons_of_mem _ ht)) d e
/-- the parts of a list -/
structure ListAt (h : Heap) (a : Addr) (us : List Value) (o : Obj) (n : Nat) : Prop where
  get : h.get? a = some o
  cls : o.cls = .type "list"
  dat : o.data = .seq us.toArray n
structure TupleAt (h : Heap) (a : Addr) (us : List Value) (o : Obj) (n : Nat) : Prop where
  get : h.get? a = some o
  cls : o.cls = .type "tuple"
  dat : o.data = .seq us.toArray n
structure DictAt' (h : Heap) (a : Addr) (es : Array DictEntry) (o : Obj) (n : Nat) : Prop where
  get : h.get? a = some o
  cls : o.cls = .type "dict"
  dat : o.data = .dict es n
  off : (a == sysModules) = false
theorem list_reads {a : Addr} {us : List Value} {o : Obj} {n : Nat} {ds : List PyData} {as : List Addr} (L : ListAt h a us o n) (r : ReadsAll h us ds as) : Reads h (.ref a) (.list ds) (a :: as) := .list L.get L.cls L.dat r
theorem tuple_reads {a : Addr} {us : List Value} {o : Obj} {n : Nat} {ds : List PyData} {as : List Addr} (L : TupleAt h a us o n) (r : ReadsAll h us ds as) : Reads h (.ref a) (.tuple ds) as := .tuple L.get L.cls L.dat r
theorem off_of {a : Addr} {d : PyData} {as bs : List Addr} {m : Nat} (r : Reads h (.ref a) d as) (e : d.depth = m + 1) (k : ReadAtMost h m bs) : a ∉ bs := not_mem_of_deeper r (by omega) k
theorem shows_list {a : Addr} {us : List Value} {o : Obj} {n : Nat} {ds : List PyData} (L : ListAt h a us o n) (x : ShowsL prog w h us ds) : Shows prog w h (.ref a) (.list ds) := by
  obtain ⟨as, r, bs, m, k⟩ := x
  have R := list_reads L r
  have dp : (PyData.list ds).depth = PyData.depthAll ds + 1 := by simp only [PyData.depth]
  refine ⟨_, R, a :: bs, ReadAtMost.cons R (by omega) m, ?_⟩
  rw [dp]
  simp only [PyData.shown]
  cases us with
  | nil =>
    cases r
    simp only [PyData.shownAll, listText_nil]
    exact ReprK.listEmpty L.get L.cls L.dat
  | cons u us => exact ReprK.list L.get L.cls L.dat (off_of R dp m) (by simpa using k.length_eq) (fun i y e => k.item i y (by simpa using e))
theorem shows_tuple {a : Addr} {us : List Value} {o : Obj} {n : Nat} {ds : List PyData} (L : TupleAt h a us o n) (x : ShowsL prog w h us ds) : Shows prog w h (.ref a) (.tuple ds) := by
  obtain ⟨as, r, bs, m, k⟩ := x
  have R := tuple_reads L r
  have dp : (PyData.tuple ds).depth = PyData.depthAll ds + 1 := by simp only [PyData.depth]
  refine ⟨_, R, a :: bs, ReadAtMost.cons R (by omega) m, ?_⟩
  rw [dp]
  simp only [PyData.shown]
  exact ReprK.tuple L.get L.cls L.dat (off_of R dp m) k
theorem shows_dict {a : Addr} {es : Array DictEntry} {o : Obj} {n : Nat} {kvs : List (PyData × PyData)} (L : DictAt' h a es o n) (x : ShowsL prog w h (es.toList.map (·.key)) (kvs.map (·.1))) (y : ShowsL prog w h (es.toList.map (·.val)) (kvs.map (·.2))) :
    (∃ as, Reads h (.ref a) (.dict kvs) as) ∧ (∃ bs, ReadAtMost h (PyData.depthKv kvs) bs ∧ a ∉ bs ∧ ReprEntriesK prog w bs h (PyData.depthKv kvs) es.toList (PyData.shownKv kvs)) := by
  obtain ⟨a1, r1, b1, m1, k1⟩ := x
  obtain ⟨a2, r2, b2, m2, k2⟩ := y
  have R : Reads h (.ref a) (.dict kvs) (a :: a1 ++ a2) := .dict L.get L.cls L.dat r1 r2
  have dp : (PyData.dict kvs).depth = PyData.depthKv kvs + 1 := by simp only [PyData.depth]
  have m : ReadAtMost h (PyData.depthKv kvs) (b1 ++ b2) := ReadAtMost.append (m1.mono (PyData.depthAll_keys_le kvs)) (m2.mono (PyData.depthAll_vals_le kvs))
  refine ⟨⟨_, R⟩, b1 ++ b2, m, off_of R dp m, ?_⟩
  rw [PyData.shownKv_eq]
  have j1 := ReprAllK.more_le (fun b z => List.mem_append_left b2 z) (PyData.depthAll_keys_le kvs) k1
  have j2 := ReprAllK.more_le (fun b z => List.mem_append_right b1 z) (PyData.depthAll_vals_le kvs) k2
  exact ReprEntriesK.of_two es.toList _ _ j1 j2
theorem shows_dict' {a : Addr} {es : Array DictEntry} {o : Obj} {n : Nat} {kvs : List (PyData × PyData)} (L : DictAt' h a es o n) (x : ShowsL prog w h (es.toList.map (·.key)) (kvs.map (·.1))) (y : ShowsL prog w h (es.toList.map (·.val)) (kvs.map (·.2))) :
    Shows prog w h (.ref a) (.dict kvs) := by
  obtain ⟨⟨as, R⟩, bs, m, na, k⟩ := shows_dict L x y
  have dp : (PyData.dict kvs).depth = PyData.depthKv kvs + 1 := by simp only [PyData.depth]
  refine ⟨as, R, a :: bs, ReadAtMost.cons R (by omega) m, ?_⟩
  rw [dp]
  simp only [PyData.shown]
  exact ReprK.dict L.get L.cls L.dat L.off na k
end

section
variable {X : Cx} {pins : List (Addr × Obj)} {σ : L2.St} {H : Hp} {s : Shared}
theorem key_shows {P : Program} {w : World} {h : Heap} (k : Key) (v : Value) (hk : (mixKind P w).is k v = true) (hs : (keyD k).showable = true) (hz : (keyD k).shown.length ≤ sizeLine) : Shows P w h v (keyD k) := by
  rcases keyIs_shape hk with ⟨i, t, e1, e2⟩ | ⟨x, t, e1, e2⟩
  · subst e1 e2
    refine shows_flat (.int i t) ?_
    simp only [keyD, PyData.shown]
    exact ReprIs.int t (by simpa [keyD, PyData.showable] using hs)
  · subst e1 e2
    refine shows_flat (.str x t) ?_
    simp only [keyD, PyData.shown]
    exact ReprIs.str x t (by simpa only [keyD, PyData.shown] using hz)
theorem lst_at (I : Inv X pins σ H s) {a : Addr} {xs : List V} (e : H a = some (.lst xs)) : ∃ us o n, ListAt s.heap a us o n ∧ Vals xs us := by
  obtain ⟨_, its, n, rv, g⟩ := (show ObjOk X.prog X.w H s.heap a (.lst xs) from I.hok a _ e)
  exact ⟨its, _, n, ⟨g, rfl, rfl⟩, rv⟩
theorem tup_at (I : Inv X pins σ H s) {a : Addr} {xs : List V} (e : H a = some (.tup xs)) : ∃ us o n, TupleAt s.heap a us o n ∧ Vals xs us := by
  obtain ⟨_, its, rv, o, g, c, n, dt⟩ := (show ObjOk X.prog X.w H s.heap a (.tup xs) from I.hok a _ e)
  exact ⟨its, o, n, ⟨g, c, dt⟩, rv⟩
theorem dct_at (I : Inv X pins σ H s) {a : Addr} {kvs : List (Key × V)} (e : H a = some (.dK kvs)) : ∃ vs es o n, DictAt' s.heap a es o n ∧ KV kvs vs ∧ Pairs (mixKind X.prog X.w) es.toList vs := by
  obtain ⟨_, off, vs, rel, o, es, n, g, c, dt, _, p, _⟩ := (show ObjOk X.prog X.w H s.heap a (.dK kvs) from I.hok a _ e)
  exact ⟨vs, es, o, n, ⟨g, c.1, dt, off⟩, rel, p⟩
mutual
theorem any_shows (I : Inv X pins σ H s) : ∀ (d : PyData) (v : V) (u : Value), Any H v d → RelV v u → d.showable = true → d.shown.length ≤ sizeLine → Shows X.prog X.w s.heap u d
  | .none, v, u, h, r, _, _ => by
    cases h
    cases (show u = Value.none from r)
    exact shows_flat .none (by simp only [PyData.shown]; exact ReprIs.none)
  | .bool b, v, u, h, r, _, _ => by
    cases h
    cases (show u = Value.bool b from r)
    exact shows_flat (.bool b) (by simp only [PyData.shown]; exact ReprIs.bool b)
  | .int i, v, u, h, r, sh, _ => by
    cases h
    obtain ⟨t, e⟩ := (show ∃ t, u = Value.int i t from r)
    rw [e]
    exact shows_flat (.int i t) (by simp only [PyData.shown]; exact ReprIs.int t (by simpa [PyData.showable] using sh))
  | .str x, v, u, h, r, _, sz => by
    cases h
    obtain ⟨t, e⟩ := (show ∃ t, u = Value.str x t from r)
    rw [e]
    exact shows_flat (.str x t) (by simp only [PyData.shown]; exact ReprIs.str x t (by simpa only [PyData.shown] using sz))
  | .list ds, v, u, h, r, sh, sz => by
    cases h with
    | lst ea ha =>
      rename_i a xs
      cases (show u = Value.ref a from r)
      obtain ⟨us, o, n, L, rv⟩ := lst_at I ea
      have z : (listText (PyData.shownAll ds)).length ≤ sizeLine := by simpa only [PyData.shown] using sz
      exact shows_list L (any_showsL I ds xs us ha rv (by simpa [PyData.showable] using sh) fun t ht => Nat.le_trans (listText_mem_le ht) z)
  | .tuple ds, v, u, h, r, sh, sz => by
    cases h with
    | tup ea ha =>
      rename_i a xs
      cases (show u = Value.ref a from r)
      obtain ⟨us, o, n, L, rv⟩ := tup_at I ea
      have z : (tupleText (PyData.shownAll ds)).length ≤ sizeLine := by simpa only [PyData.shown] using sz
      exact shows_tuple L (any_showsL I ds xs us ha rv (by simpa [PyData.showable] using sh) fun t ht => Nat.le_trans (tupleText_mem_le ht) z)
  | .dict ds, v, u, h, r, sh, sz => by
    cases h with
    | dct ea ha =>
      rename_i a kvs
      cases (show u = Value.ref a from r)
      obtain ⟨vs, es, o, n, L, rel, p⟩ := dct_at I ea
      have z : (dictText (PyData.shownKv ds)).length ≤ sizeLine := by simpa only [PyData.shown] using sz
      obtain ⟨x, y⟩ := any_showsK I ds kvs vs es.toList ha rel p (by simpa [PyData.showable] using sh) fun t ht => Nat.le_trans (dictText_mem_le ht) z
      exact shows_dict' L x y
theorem any_showsL (I : Inv X pins σ H s) : ∀ (ds : List PyData) (vs : List V) (us : List Value), AnyL H vs ds → Vals vs us → PyData.showableAll ds = true → (∀ t ∈ PyData.shownAll ds, t.length ≤ sizeLine) → ShowsL X.prog X.w s.heap us ds
  | [], vs, us, h, r, _, _ => by
    cases h
    cases r
    exact showsL_nil
  | d :: ds, vs, us, h, r, sh, sz => by
    have sh' : d.showable = true ∧ PyData.showableAll ds = true := by simpa [PyData.showableAll] using sh
    simp only [PyData.shownAll] at sz
    cases h with
    | cons h1 h2 =>
      cases r with
      | cons r1 r2 => exact showsL_cons (any_shows I d _ _ h1 r1 sh'.1 (sz _ List.mem_cons_self)) (any_showsL I ds _ _ h2 r2 sh'.2 fun t ht => sz t (List.mem_cons_of_mem _ ht))
theorem any_showsK (I : Inv X pins σ H s) : ∀ (ds : List (PyData × PyData)) (kvs : List (Key × V)) (us : List (Key × Value)) (es : List DictEntry), AnyK H kvs ds → KV kvs us → Pairs (mixKind X.prog X.w) es us → PyData.showableKv ds = true →
    (∀ t ∈ PyData.shownKv ds, t.length ≤ sizeLine) → ShowsL X.prog X.w s.heap (es.map (·.key)) (ds.map (·.1)) ∧ ShowsL X.prog X.w s.heap (es.map (·.val)) (ds.map (·.2))
  | [], vs, us, es, h, r, p, _, _ => by
    cases h
    cases r
    cases p
    exact ⟨showsL_nil, showsL_nil⟩
  | (kd, d) :: ds, vs, us, es, h, r, p, sh, sz => by
    have sh' : (kd.showable = true ∧ d.showable = true) ∧ PyData.showableKv ds = true := by simpa [PyData.showableKv] using sh
    simp only [PyData.shownKv] at sz
    have top := sz _ List.mem_cons_self
    rw [strLen_append, strLen_append] at top
    cases h with
    | cons h1 h2 =>
      cases r with
      | cons r1 r2 =>
        rename_i k v vs' q us'
        obtain ⟨kq, uq⟩ := q
        obtain ⟨ek, r1⟩ := r1
        cases (show k = kq from ek)
        cases p with
        | cons hk hv hp =>
          obtain ⟨x, y⟩ := any_showsK I ds _ _ _ h2 r2 hp sh'.2 fun t ht => sz t (List.mem_cons_of_mem _ ht)
          refine ⟨showsL_cons (key_shows k _ hk sh'.1.1 (by omega)) x, ?_⟩
          have e := any_shows I d _ _ h1 r1 sh'.1.2 (by omega)
          rw [← hv] at e
          exact showsL_cons e y
end
/-- repr of data that lies at an address -/
def rRepr : List V → Hp → VK → Prop := fun xs H Q => ∃ (a : Addr) (d : PyData), xs = [.ref a] ∧ Any H (.ref a) d ∧ d.showable = true ∧ d.depth ≤ 60 ∧ d.shown.length ≤ sizeLine ∧ Q (.str d.shown) H
theorem call_repr (gu : X.A.guards = some []) (hu : X.A.units + 64 < cLine) : CallR X (.builtin "repr") rRepr := by
  intro pins s σ H xs us Q I r h
  obtain ⟨a, d, e, an, sh, dp, sz, q⟩ := h
  subst e
  obtain ⟨u, e, ru⟩ := vals1 r
  subst e
  cases (show u = Value.ref a from ru)
  have fin : ∀ h' u tk, (∀ b o, s.heap.get? b = some o → h'.get? b = some o) → EP X pins σ Q (.str d.shown u) { s with heap := h', toks := tk } := fun h' t tk keep => ⟨V.str d.shown, H, Inv.kept I keep, ⟨t, rfl⟩, q⟩
  have gu1 : X.A.in1.guards = some [] := gu
  have un1 : X.A.in1.units = X.A.units + 1 := rfl
  cases an with
  | lst ea ha =>
    rename_i xs ds
    obtain ⟨us, o, n, L, rv⟩ := lst_at I ea
    have z : (listText (PyData.shownAll ds)).length ≤ sizeLine := by simpa only [PyData.shown] using sz
    have D : (PyData.list ds).depth = PyData.depthAll ds + 1 := by simp only [PyData.depth]
    obtain ⟨as, rd, bs, m, k⟩ := any_showsL I ds xs us ha rv (by simpa [PyData.showable] using sh) fun t ht => Nat.le_trans (listText_mem_le ht) z
    have ty : s.TypeIs (.ref a) "list" := ⟨o, L.get, L.cls⟩
    refine call_repr_slot (by omega) ty F.slot_list_repr.toG ?_
    simp only [PyData.shown] at fin
    cases us with
    | nil =>
      cases rd
      simp only [PyData.shownAll, listText_nil] at fin
      exact call_list_repr_empty ty L.get L.dat ⟨_, _, rfl, fin s.heap _ _ fun _ _ z => z⟩
    | cons u us => exact call_list_reprK L.get L.cls L.dat (off_of (list_reads L rd) D m) (by simpa using k.length_eq) (fun i y e => k.item i y (by simpa using e)) gu1 (fun b _ => Clear.nil b) (by omega) (fun _ _ z => z) (fun h' t tk keep => ⟨_, _, rfl, fin h' t tk keep⟩) z
  | tup ea ha =>
    rename_i xs ds
    obtain ⟨us, o, n, L, rv⟩ := tup_at I ea
    have z : (tupleText (PyData.shownAll ds)).length ≤ sizeLine := by simpa only [PyData.shown] using sz
    have D : (PyData.tuple ds).depth = PyData.depthAll ds + 1 := by simp only [PyData.depth]
    obtain ⟨as, rd, bs, m, k⟩ := any_showsL I ds xs us ha rv (by simpa [PyData.showable] using sh) fun t ht => Nat.le_trans (tupleText_mem_le ht) z
    refine call_repr_slot (by omega) ⟨o, L.get, L.cls⟩ F.slot_tuple_repr ?_
    simp only [PyData.shown] at fin
    exact call_tuple_reprK L.get L.cls L.dat (off_of (tuple_reads L rd) D m) k gu1 (fun b _ => Clear.nil b) (by omega) (fun _ _ z => z) (fun h' t tk keep => ⟨_, _, rfl, fin h' t tk keep⟩) z
  | dct ea ha =>
    rename_i kvs ds
    obtain ⟨vs, es, o, n, L, rel, p⟩ := dct_at I ea
    have z : (dictText (PyData.shownKv ds)).length ≤ sizeLine := by simpa only [PyData.shown] using sz
    have D : (PyData.dict ds).depth = PyData.depthKv ds + 1 := by simp only [PyData.depth]
    obtain ⟨x, y⟩ := any_showsK I ds kvs vs es.toList ha rel p (by simpa [PyData.showable] using sh) fun t ht => Nat.le_trans (dictText_mem_le ht) z
    obtain ⟨_, bs, m, na, k⟩ := shows_dict L x y
    refine call_repr_slot (by omega) ⟨o, L.get, L.cls⟩ F.slot_dict_repr ?_
    simp only [PyData.shown] at fin
    exact call_dict_reprK L.get L.cls L.dat L.off na k gu1 (fun b _ => Clear.nil b) (by omega) (fun _ _ z => z) (fun h' t tk keep => ⟨_, _, rfl, fin h' t tk keep⟩) z
/-- repr of a truth value -/
def boolS (b : Bool) : Str := if b then "True" else "False"
theorem call_reprB : CallR X (.builtin "repr") (fun xs H Q => ∃ b, xs = [.bl b] ∧ Q (.str (boolS b)) H) := by
  intro pins s σ H xs us Q I r h
  obtain ⟨b, e, q⟩ := h
  subst e
  obtain ⟨u, e, ru⟩ := vals1 r
  subst e
  cases (show u = Value.bool b from ru)
  exact PySem.P.repr_of_bool ⟨V.str (boolS b), H, I.tok _, ⟨_, rfl⟩, q⟩
end
end Rw

set_option Elab.async false
set_option linter.all false
set_option maxRecDepth 100000
set_option maxHeartbeats 4000000
/-! TkD: try with several except clauses, each with a name or without. -/
namespace Rw
open PySem PySem.Spec PyProof.Rows L2

/-- a clause: its class, the slot of its name, its suite -/
structure Cl where
  c : Value
  slot : Option Nat
  ts : Addr → Value → Option Addr → TS
/-- the suite with the error at a, its name bound ahead of it and gone behind it -/
def Cl.run (q : Cl) (a : Addr) (cls : Value) (d : Option Addr) : TS := fun D σ H => match q.slot with
  | none => q.ts a cls d D σ H
  | some i => q.ts a cls d { nx := fun τ J => D.nx (τ.set i none) J, rt := D.rt, bk := fun τ J => D.bk (τ.set i none) J, ct := fun τ J => D.ct (τ.set i none) J } (σ.set i (some (.ref a))) H
/-- what the clauses wish of an error -/
def wCls (K : PySem.W.Frag) (Wo : WX) (D : Ends) : List Cl → WX
  | [] => Wo
  | q :: r => fun cls d σ H => ∃ b, PySem.W.exmOne K cls q.c = some b ∧ (b = true → ∀ a, H a = none → q.run a cls d D σ H) ∧ (b = false → wCls K Wo D r cls d σ H)
def SuiteOk (X : Cx) (sts : List Stmt) (ts : Addr → Value → Option Addr → TS) : Prop :=
  ∀ (a : Addr) (oe : Obj) (cls : Value) (d : Option Addr) (pn : List (Addr × Obj)), Zc cls d oe → (∃ vs, oe.data = .fields vs) → PSs (X.suite a ((a, oe) :: pn)) sts (ts a cls d)
inductive ClsOk (X : Cx) : List ExceptHandler → List Cl → Prop
  | nil : ClsOk X [] []
  | anon {x : Str} {c : Value} {ts : Addr → Value → Option Addr → TS} {st : Stmt} {sts : List Stmt} {np hp : Pos} {hs : List ExceptHandler} {l : List Cl} (hc : Names X x c) (ok : SuiteOk X (st :: sts) ts) (r : ClsOk X hs l) :
      ClsOk X (.ExceptHandler (some (.Name x np)) none (st :: sts) hp :: hs) (⟨c, none, ts⟩ :: l)
  | as {x n : Str} {i : Nat} {c : Value} {ts : Addr → Value → Option Addr → TS} {st : Stmt} {sts : List Stmt} {np hp : Pos} {hs : List ExceptHandler} {l : List Cl} (hi : X.N[i]? = some n) (hl : X.env.kindOf n = some .local) (hc : Names X x c)
      (ok : SuiteOk X (st :: sts) ts) (r : ClsOk X hs l) : ClsOk X (.ExceptHandler (some (.Name x np)) (some n) (st :: sts) hp :: hs) (⟨c, some i, ts⟩ :: l)

section
variable {X : Cx}
/-- what stands when an error has landed in this frame -/
structure Down (X : Cx) (B : Heap) (pins : List (Addr × Obj)) (σ : L2.St) (H : Hp) (a : Addr) (cls : Value) (d : Option Addr) (sI s : Shared) : Prop where
  inv : Inv X pins σ H sI
  nb : ∀ b o, sI.heap.get? b = some o → b ∉ frs X.stack → B.get? b = some o
  os : s.os = sI.os
  ag : AllBare s.gens
  free : H a = none
  up : sI.heap.UpToSlots s.heap
  fly : HandSPX.FlyingZ B (X.env :: X.outer) a (Zc cls d) s.heap
theorem Down.goes {B : Heap} {pins : List (Addr × Obj)} {σ : L2.St} {H : Hp} {a : Addr} {cls : Value} {d : Option Addr} {sI s : Shared} (W : Down X B pins σ H a cls d sI s) : Inv X pins σ H s :=
  Inv.landed W.inv W.nb W.fly.1 W.up W.os W.ag
theorem Down.more {B : Heap} {pins : List (Addr × Obj)} {σ : L2.St} {H : Hp} {a : Addr} {cls : Value} {d : Option Addr} {sI s : Shared} {h : Heap} (W : Down X B pins σ H a cls d sI s)
    (fl : HandSPX.FlyingZ B (X.env :: X.outer) a (Zc cls d) h) (u : s.heap.UpToSlots h) : Down X B pins σ H a cls d sI { s with heap := h } :=
  ⟨W.inv, W.nb, W.os, W.ag, W.free, Heap.UpToSlots.trans W.up u, fl⟩
/-- the error's own object: none of the frames -/
theorem Down.off {B : Heap} {pins : List (Addr × Obj)} {σ : L2.St} {H : Hp} {a : Addr} {cls : Value} {d : Option Addr} {sI s : Shared} (W : Down X B pins σ H a cls d sI s) (hf : X.env.frame = some X.env.locals) :
    a ≠ X.env.locals ∧ a ∉ X.fs := by
  obtain ⟨oe, vs, he, _, hd⟩ := W.fly.there
  have no : a ∉ frs (X.env :: X.outer) := fun hm => by
    obtain ⟨_, o, e, nf⟩ := Heap.FunFrames.mem W.fly.2.2.1 hm
    rw [he] at e
    cases e
    exact nf vs hd
  constructor
  · intro z
    exact no (List.mem_filterMap.mpr ⟨X.env, List.mem_cons_self, hf.trans (congrArg some z.symm)⟩)
  · intro hm
    obtain ⟨e, he, q⟩ := List.mem_filterMap.mp hm
    exact no (List.mem_filterMap.mpr ⟨e, List.mem_cons_of_mem X.env he, q⟩)
/-- in the suite -/
theorem Down.suite {B : Heap} {pins : List (Addr × Obj)} {σ : L2.St} {H : Hp} {a : Addr} {cls : Value} {d : Option Addr} {sI s : Shared} (W : Down X B pins σ H a cls d sI s) (hf : X.env.frame = some X.env.locals) :
    ∃ oe : Obj, s.heap.get? a = some oe ∧ Zc cls d oe ∧ (∃ vs, oe.data = .fields vs) ∧ Inv (X.suite a ((a, oe) :: (X.pn ++ pins))) [] σ H s := by
  obtain ⟨oe, vs, he, hz, hd⟩ := W.fly.there
  obtain ⟨n1, n2⟩ := W.off hf
  exact ⟨oe, he, hz, ⟨vs, hd⟩, Inv.suite W.goes he hd W.free n1 n2⟩

/-- the class of a clause is looked up, and asked -/
theorem Down.asks {B : Heap} {pins : List (Addr × Obj)} {σ : L2.St} {H : Hp} {a : Addr} {cls c : Value} {d : Option Addr} {sI s : Shared} {x : Str} {np : Pos} {b : Bool} {E : Value → Shared → Prop} {Q : Bool → Shared → Prop}
    (W : Down X B pins σ H a cls d sI s) (hf : X.env.frame = some X.env.locals) (hc : Names X x c) (hb : PySem.W.exmOne X.K cls c = some b) (q : Q b s) :
    wpAny (model X.prog X.w) (X.A.mark (some (.ref a))) (eval (.Name x np) X.env) (fun v s' => v = c ∧ s' = s) E s := by
  obtain ⟨oe, he, hz, _, S⟩ := W.suite hf
  obtain ⟨hg, hdbg, hm⟩ := hc
  rcases hm with hm | ⟨hm, hv, hn⟩
  · exact ld_glob (X := X.suite a ((a, oe) :: (X.pn ++ pins))) S hg hm ⟨rfl, rfl⟩ hdbg
  · exact ld_blt (X := X.suite a ((a, oe) :: (X.pn ++ pins))) S hg hm hv ⟨rfl, rfl⟩ hn hdbg

/-- the clauses, one after the other -/
theorem Down.clauses {B : Heap} {pins : List (Addr × Obj)} {σ : L2.St} {H : Hp} {a : Addr} {cls : Value} {d : Option Addr} {sI : Shared} {Wo : WX} {D : Ends} (hs : X.stack = X.env :: X.outer) (hf : X.env.frame = some X.env.locals) (hN : X.N.Nodup) (tk : Takes X Wo) :
    ∀ {hds : List ExceptHandler} {l : List Cl}, ClsOk X hds l → ∀ {s : Shared}, Down X B pins σ H a cls d sI s → wCls X.K Wo D l cls d σ H → wpAny (model X.prog X.w) X.A (handleBy (.ref a) X.env hds) (SP X pins D) X.xe s := by
  intro hds l hk
  induction hk with
  | nil =>
    intro s W wish
    refine wpAny_handleBy_nil ?_
    obtain ⟨_, _, _, oe, vs, T, oT, ts, he, hz, hd, h1, hr⟩ := id W.fly
    have nT : ¬ ((Value.ref T == Value.none) = true) := by simp
    unfold PySem.passOn
    refine wpAny_bind (wpAny_field he hd h1 ?_)
    rw [if_neg nT]
    have out : wpAny (model X.prog X.w) X.A (setFlight (.ref a) X.env.frame) (fun _ s4 => wpAny (model X.prog X.w) X.A (throw (.ref a) : Sem Flow) (SP X pins D) X.xe s4) X.xe s := by
      rw [hf]
      refine HandSPX.setFlight_upZ W.fly ?_
      intro h4 hh4 up4
      refine wpAny_throw (tk (.ref a) _ ⟨a, B, sI, pins, σ, H, cls, d, rfl, W.inv, W.nb, W.up.trans up4, ?_, W.free, W.os, W.ag, wish⟩)
      rw [hs]
      exact Or.inr (Or.inr hh4)
    first
      | exact wpAny_bind (wpAny_pure (wpAny_bind out))
      | exact wpAny_bind out
  | @anon x c ts st sts np hp hs' l' hc ok r ih =>
    intro s W wish
    obtain ⟨b, hb, yes, no⟩ := wish
    refine wpAny_handleBy_cons (codeAny_handlers_test ?_) (fun q => nomatch q)
    refine wpAny_mono (W.asks (E := fun _ _ => False) (Q := fun _ _ => True) hf hc hb True.intro) ?_ (fun _ _ z => z.elim)
    rintro v s' ⟨rfl, rfl⟩
    obtain ⟨oe, he, hz, hd, S⟩ := W.suite hf
    have LT : PySem.W.Looks (model X.prog X.w) s'.heap (typeOf (.ref a)) cls := fun A Q E s2 k q => wpAny_typeOf_ref (k a oe he) (by rw [hz.1]; exact q)
    refine (PySem.W.exm_one (M := model X.prog X.w) S.kIn LT hb).here ?_
    cases b with
    | false => exact ih W (no rfl)
    | true =>
      refine codeAny_handlers_suite (HandSPX.lands_againZ W.fly ?_)
      intro h4 fl4 up4
      obtain ⟨oe4, he4, hz4, hd4, S4⟩ := (W.more fl4 up4).suite hf
      refine wpAny_mono (PSs.run (ok a oe4 cls d (X.pn ++ pins) hz4 hd4) [] _ σ H D S4 (yes rfl a W.free)) ?_ (fun _ _ z => z.elim)
      intro fl s6 hsp
      have ok0 := W.inv.ok
      cases fl with
      | ret u =>
        obtain ⟨v6, σ6, H6, S6, r6, q6⟩ := hsp
        exact ⟨v6, σ6, H6, Inv.unsuite S6 ok0, r6, q6⟩
      | next =>
        obtain ⟨σ6, H6, S6, q6⟩ := hsp
        exact ⟨σ6, H6, Inv.unsuite S6 ok0, q6⟩
      | brk =>
        obtain ⟨σ6, H6, S6, q6⟩ := hsp
        exact ⟨σ6, H6, Inv.unsuite S6 ok0, q6⟩
      | cont =>
        obtain ⟨σ6, H6, S6, q6⟩ := hsp
        exact ⟨σ6, H6, Inv.unsuite S6 ok0, q6⟩
  | @as x n i c ts st sts np hp hs' l' hi hl hc ok r ih =>
    intro s W wish
    obtain ⟨b, hb, yes, no⟩ := wish
    refine wpAny_handleBy_cons (codeAny_handlers_test ?_) (fun q => nomatch q)
    refine wpAny_mono (W.asks (E := fun _ _ => False) (Q := fun _ _ => True) hf hc hb True.intro) ?_ (fun _ _ z => z.elim)
    rintro v s' ⟨rfl, rfl⟩
    obtain ⟨oe, he, hz, hd, S⟩ := W.suite hf
    have LT : PySem.W.Looks (model X.prog X.w) s'.heap (typeOf (.ref a)) cls := fun A Q E s2 k q => wpAny_typeOf_ref (k a oe he) (by rw [hz.1]; exact q)
    refine (PySem.W.exm_one (M := model X.prog X.w) S.kIn LT hb).here ?_
    cases b with
    | false => exact ih W (no rfl)
    | true =>
      refine codeAny_handlers_suite_as (HandSPX.lands_againZ W.fly ?_)
      intro h4 fl4 up4
      obtain ⟨oe4, he4, hz4, hd4, S4⟩ := (W.more fl4 up4).suite hf
      have ok0 := W.inv.ok
      refine store_ok (X := X.suite a ((a, oe4) :: (X.pn ++ pins))) (v := .ref a) S4 hN hi (Or.inl hl) rfl ?_ (Or.inr hl)
      intro s5 S5
      refine wpAny_mono (PSs.run (ok a oe4 cls d (X.pn ++ pins) hz4 hd4) [] s5 _ H _ S5 (yes rfl a W.free)) ?_ (fun _ _ z => z.elim)
      intro fl s6 hsp
      have gone : ∀ {τ : L2.St} {J : Hp} {Q : Shared → Prop}, Inv (X.suite a ((a, oe4) :: (X.pn ++ pins))) [] τ J s6 → (∀ s7, Inv X pins (τ.set i none) J s7 → Q s7) →
          wpAny (model X.prog X.w) X.A (do bindName X.env n .none; unbindBehindTheSuite X.env n hp) (fun _ s7 => Q s7) X.xe s6 := by
        intro τ J Q S6 hq
        exact gone_ok (Inv.unsuite S6 ok0) hN hi hl hq
      cases fl with
      | ret u =>
        obtain ⟨v6, σ6, H6, S6, r6, q6⟩ := hsp
        exact gone S6 (fun s7 J7 => ⟨v6, _, H6, J7, r6, q6⟩)
      | next =>
        obtain ⟨σ6, H6, S6, q6⟩ := hsp
        exact gone S6 (fun s7 J7 => ⟨_, H6, J7, q6⟩)
      | brk =>
        obtain ⟨σ6, H6, S6, q6⟩ := hsp
        exact gone S6 (fun s7 J7 => ⟨_, H6, J7, q6⟩)
      | cont =>
        obtain ⟨σ6, H6, S6, q6⟩ := hsp
        exact gone S6 (fun s7 J7 => ⟨_, H6, J7, q6⟩)

/-- try: body / except ..: .. / except ..: .. -/
theorem ps_tries {body : List Stmt} {h0 : ExceptHandler} {hds : List ExceptHandler} {l : List Cl} {pos : Pos} {tb : WX → TS} {Wo : WX} (hs : X.stack = X.env :: X.outer) (hf : X.env.frame = some X.env.locals) (hN : X.N.Nodup) (tk : Takes X Wo)
    (hb : ∀ (W : WX) (pn : List (Addr × Obj)) (xe : Value → Shared → Prop), Takes (X.tr pn xe) W → PassesOwn (model X.prog X.w) X.A X.env xe → PSs (X.tr pn xe) body (tb W)) (hh : ClsOk X (h0 :: hds) l) :
    PS X (.Try body (h0 :: hds) [] [] pos) (fun D σ H => tb (wCls X.K Wo D l) D σ H) := by
  constructor
  intro pins s σ H D I h
  have ok0 := I.ok
  have fr : X.A.frames = some (X.env :: X.outer) := (Cx.Ok.frames ok0).trans (congrArg some hs)
  refine wpAny_Try_except ?_
  have land : ∀ (u : Value) (s' : Shared), XE (X.tr (X.pn ++ pins) (fun e s₁ => wpAny (model X.prog X.w) X.A (noteFrame e X.env) (fun _ s₂ => wpAny (model X.prog X.w) X.A (setFlight e none) (fun _ s₃ =>
      wpAny (model X.prog X.w) X.A (handleBy e X.env (h0 :: hds)) (SP X pins D) X.xe s₃) X.xe s₂) X.xe s₁)) (wCls X.K Wo D l) u s' →
      wpAny (model X.prog X.w) X.A (noteFrame u X.env) (fun _ s₂ => wpAny (model X.prog X.w) X.A (setFlight u none) (fun _ s₃ => wpAny (model X.prog X.w) X.A (handleBy u X.env (h0 :: hds)) (SP X pins D) X.xe s₃) X.xe s₂) X.xe s' := by
    intro u s' xx
    obtain ⟨a, B, sI, pins', τ, J, cls, d, eu, I', nb, up, sky, na, os, ag, wish⟩ := xx
    subst eu
    have sky2 : Sky B (X.env :: X.outer) a (Zc cls d) X.env.locals s'.heap := hs ▸ sky
    refine Sky.land Zc.steady fr hf sky2 ?_
    intro h3 fl3 up3
    exact Down.clauses hs hf hN tk hh ⟨Inv.ofTry I' ok0, nb, os, ag, na, up.trans up3, fl3⟩ wish
  refine wpAny_mono (PSs.run (hb (wCls X.K Wo D l) (X.pn ++ pins) _ land PassesOwn.looking) [] s σ H D (Inv.toTry I _) h) ?_ (fun e s1 he => he)
  intro fl s1 hsp
  cases fl with
  | ret u =>
    obtain ⟨v, τ, J, I', r, q⟩ := hsp
    exact ⟨v, τ, J, Inv.ofTry I' ok0, r, q⟩
  | next =>
    obtain ⟨τ, J, I', q⟩ := hsp
    exact wpAny_execs_nil ⟨τ, J, Inv.ofTry I' ok0, q⟩
  | brk =>
    obtain ⟨τ, J, I', q⟩ := hsp
    exact ⟨τ, J, Inv.ofTry I' ok0, q⟩
  | cont =>
    obtain ⟨τ, J, I', q⟩ := hsp
    exact ⟨τ, J, Inv.ofTry I' ok0, q⟩
end
end Rw

set_option Elab.async false
set_option linter.all false
set_option maxRecDepth 100000
set_option maxHeartbeats 4000000
/-! TkE: own defs by name (Own, OwnG), own errors with one value (Err), data kept over heaps, the kinds of things. -/
namespace Rw
open PySem PySem.Spec PyProof.Rows L2

/-! ### a def by its name -/
/-- x names a def that keeps sp when it is called with all but the values dvs -/
structure Own (P : Program) (w : World) (K : PySem.W.Frag) (mg : Str → Option Value) (base : Heap) (CX : CXT) (k : Nat) (x : Str) (ps : List Str) (dvs : List V) (sp : Sp) : Prop where
  has : ∃ (f : Addr) (fd : FuncData) (ds : List Value), mg x = some (.ref f) ∧ PySem.W.keepIn K (.ref f) = true ∧ FnOk P w K mg base CX k f fd ps sp ∧ Binds K fd ps ds ∧ Vals dvs ds
structure OwnG (P : Program) (w : World) (K : PySem.W.Frag) (mg : Str → Option Value) (base : Heap) (CX : CXT) (k : Nat) (x : Str) (ps : List Str) (dvs : List V) (sp : Sp) : Prop where
  has : ∃ (f : Addr) (fd : FuncData) (ds : List Value), mg x = some (.ref f) ∧ PySem.W.keepIn K (.ref f) = true ∧ FnG P w K mg base CX k f fd ps sp ∧ Binds K fd ps ds ∧ Vals dvs ds
/-- where a def of the text stands behind the top -/
structure Df (K : PySem.W.Frag) (mg : Str → Option Value) (x : Str) (st : Stmt) (ps : List Str) : Prop where
  has : ∃ (f : Addr) (fd : FuncData), mg x = some (.ref f) ∧ Fun K x x st f fd ∧ Binds K fd ps []
section
variable {P : Program} {w : World} {K : PySem.W.Frag} {mg : Str → Option Value} {base : Heap} {CX : CXT} {k : Nat} {x : Str} {ps : List Str} {dvs : List V} {sp : Sp} {st : Stmt}
theorem Df.own (D : Df K mg x st ps) (h : ∀ (f : Addr) (fd : FuncData), Fun K x x st f fd → FnOk P w K mg base CX k f fd ps sp) : Own P w K mg base CX k x ps [] sp := by
  obtain ⟨f, fd, g, F, b⟩ := D.has
  exact ⟨f, fd, [], g, F.kp, h f fd F, b, .nil⟩
theorem Df.ownG (D : Df K mg x st ps) (h : ∀ (f : Addr) (fd : FuncData), Fun K x x st f fd → FnG P w K mg base CX k f fd ps sp) : OwnG P w K mg base CX k x ps [] sp := by
  obtain ⟨f, fd, g, F, b⟩ := D.has
  exact ⟨f, fd, [], g, F.kp, h f fd F, b, .nil⟩
end
section
variable {X : Cx} {CX : CXT} {k : Nat} {ps : List Str} {sp : Sp} {dvs : List V} {E : XK} {x : Str} {p pos : Pos} {e : Expr} {es : List Expr} {t : TA}
theorem pe_own (F : Own X.prog X.w X.K X.mg X.base CX k x ps dvs sp) (hr : Room k X.A) (hx : Passes CX X E) (ha : PA X (e :: es) t) (hg : Gl X x := by rfl) (hdb : (x == ("__debug__" : Str)) = false := by decide)
    (he : starEach (e :: es) X.env = (false, eval e X.env) :: starEach es X.env := by rfl) (hpl : (backTo pos (starEach es X.env)).any (·.1) = false := by rfl) : PE X (.Call (.Name x p) (e :: es) [] pos) (tCall sp dvs E t) := by
  obtain ⟨f, fd, ds, hm, hk, G, b, v⟩ := F.has
  exact pe_call G hr hg hm hk b v hx ha hdb he hpl
theorem pe_ownG (F : OwnG X.prog X.w X.K X.mg X.base CX k x ps dvs sp) (gu : X.A.guards = some []) (hr : Room k X.A) (hx : Passes CX X E) (ha : PA X (e :: es) t) (hg : Gl X x := by rfl) (hdb : (x == ("__debug__" : Str)) = false := by decide)
    (he : starEach (e :: es) X.env = (false, eval e X.env) :: starEach es X.env := by rfl) (hpl : (backTo pos (starEach es X.env)).any (·.1) = false := by rfl) : PE X (.Call (.Name x p) (e :: es) [] pos) (tCall sp dvs E t) := by
  obtain ⟨f, fd, ds, hm, hk, G, b, v⟩ := F.has
  exact pe_callG G gu hr hg hm hk b v hx ha hdb he hpl
/-- such a call in a try's body: what is raised is wished for at the slots -/
def tOwnS (sp : Sp) (dvs : List V) (W : WX) (t : TA) : TE := fun σ H Q => t σ H fun vs H1 => sp (vs ++ dvs) H1 Q (fun cls d H' => W cls d σ H')
theorem pe_ownS {W : WX} (F : Own X.prog X.w X.K X.mg X.base CX k x ps dvs sp) (hr : Room k X.A) (hx : ∀ σ, PassesAt CX X σ (fun cls d H' => W cls d σ H')) (ha : PA X (e :: es) t) (hg : Gl X x := by rfl) (hdb : (x == ("__debug__" : Str)) = false := by decide)
    (he : starEach (e :: es) X.env = (false, eval e X.env) :: starEach es X.env := by rfl) (hpl : (backTo pos (starEach es X.env)).any (·.1) = false := by rfl) : PE X (.Call (.Name x p) (e :: es) [] pos) (tOwnS sp dvs W t) := by
  obtain ⟨f, fd, ds, hm, hk, G, b, v⟩ := F.has
  constructor
  intro pins s σ H Q I h
  refine wpAny_Call_Name_kw (ld_glob I hg hm ?_ hdb)
  refine PySem.W.callWith_K (h₀ := X.base) I.ok.mod.kin hk ?_ he hpl
  refine thn (PA.run ha pos pins s σ H _ I h) ?_
  intro us s1 hh
  obtain ⟨vs, H1, I1, r, q⟩ := hh
  refine ⟨I1.kIn, ?_⟩
  have r2 : Vals (vs ++ dvs) (us ++ ds) := Vals.append r v
  have cnt : (us ++ ds).length = ps.length := (r2.length).symm.trans (G.len _ _ _ _ q)
  refine wpAny_call (codeAny_mono (G.run X.A X.stack s1 H1 ⟨us, []⟩ (us ++ ds) (vs ++ dvs) Q _ hr I1.env0 (b s1 us I1.kIn cnt) r2 q) ?_)
  intro res s2 hq
  cases res with
  | error er => exact hx σ pins H1 s1 er s2 I1 hq
  | ok fl =>
    cases fl with
    | ret u => exact Inv.after I1 hq
    | next => exact hq.elim
    | brk => exact hq.elim
    | cont => exact hq.elim
end

/-! ### own errors: a class with __init__(self, value): self.value = value -/
/-- x names such a class, at C -/
structure Err (K : PySem.W.Frag) (mg : Str → Option Value) (x : Str) (C : Addr) : Prop where
  g : mg x = some (.ref C)
  ox : OexC K C
  xf : XfC K C
  no : PySem.W.findIn K (.ref C) "value" = some none
  ini : ∃ (f : Addr) (q : Str) (st : Stmt) (fd : FuncData), PySem.W.findIn K (.ref C) "__init__" = some (some (.ref f)) ∧ PySem.W.typeIn K (.ref f) = some (.type "function") ∧ Fun K "__init__" q st f fd ∧ Binds K fd ["self", "value"] [] ∧
    FnScope ["self", "value"] ["self", "value"] (defScope st) ∧
    (∀ X : Cx, X.N = (["self", "value"] : List Str) → X.env.scope = defScope st → ∃ t : TS, PSs X (defBody st) t ∧ (∀ D σ H, tOst X.K "value" (tVar 0) (tVar 1) D σ H → t D σ H))
/-- an error of the class at C with the value v is let out, all else as it was -/
def Thrown (C : Addr) (v : V) (H : Hp) (E : XK) : Prop := ∀ (d : Addr) (H' : Hp), Same H H' → H d = none → H' d = some (.xd [(("value" : Str), v)]) → E (.ref C) (some d) H'
def spIni (K : PySem.W.Frag) (C : Addr) : Sp := fun vs H Q _ => ∃ (a : Addr) (v : V), vs = [.ref a, v] ∧ H a = some (exo a C none) ∧ ∀ dx, H dx = none → dx ≠ a → Q .non (upd (upd H dx (exd dx [(("value" : Str), v)])) a (exo a C (some dx)))
section
variable {P : Program} {w : World} {K : PySem.W.Frag} {mg : Str → Option Value} {base : Heap}
theorem Err.init {x : Str} {C : Addr} (T : Err K mg x C) : ∃ (f : Addr) (fd : FuncData), PySem.W.findIn K (.ref C) "__init__" = some (some (.ref f)) ∧ PySem.W.typeIn K (.ref f) = some (.type "function") ∧ Binds K fd ["self", "value"] [] ∧
    FnOk P w K mg base CX0 1 f fd ["self", "value"] (spIni K C) := by
  obtain ⟨f, q, st, fd, h1, h2, F, b, S, dv⟩ := T.ini
  refine ⟨f, fd, h1, h2, b, F.ok S (fun vs H Q E h => ?_) (fun cdv A outer s H vs Q E hr h => ?_)⟩
  · obtain ⟨a, v, e, _⟩ := h
    rw [e]
    rfl
  · obtain ⟨a, v, e, ea, k⟩ := h
    subst e
    obtain ⟨t, d, go⟩ := dv (cxOf CX0 P w K mg base ["self", "value"] q (defScope st) f cdv A outer s H E).nox rfl rfl
    refine ⟨t, d, go _ _ _ ?_⟩
    exact ⟨v, rfl, .ref a, rfl, a, C, rfl, T.ox, T.no, Or.inl ⟨ea, k⟩⟩
end
section
variable {X : Cx} {x : Str} {C : Addr} {e : Expr} {te : TE} {p pos pos2 : Pos} {W : WX}
/-- raise x(e) -/
def tThrow (K : PySem.W.Frag) (C : Addr) (W : WX) (te : TE) : TS := fun _ σ H => tMkO C (spIni K C) [] (tCons te tNil) σ H fun cls d H' => W cls d σ H'
theorem ps_throw (T : Err X.K X.mg x C) (hc : X.calm = true) (hr : Room 2 X.A) (tk : Takes X W) (he : PE X e te) (hg : Gl X x := by rfl) (hdb : (x == ("__debug__" : Str)) = false := by decide)
    (hs : starEach (e :: []) X.env = (false, eval e X.env) :: starEach [] X.env := by rfl) (hpl : (backTo pos (starEach [] X.env)).any (·.1) = false := by rfl) :
    PS X (.Raise (some (.Call (.Name x p) [e] [] pos)) none pos2) (tThrow X.K C W te) := by
  obtain ⟨f, fd, h1, h2, b, F⟩ := T.init (P := X.prog) (w := X.w) (base := X.base)
  exact ps_raise (pos := pos2) hc tk (pmk_oex (x := x) (p := p) (pos := pos) (dvs := []) (ds := []) T.ox h1 h2 F hr b .nil pass0 hg T.g (pa_cons he pa_nil hs) hdb hs hpl)
/-- what the reading of a raise asks, from Thrown -/
theorem thrown_go {K : PySem.W.Frag} {H : Hp} {E : XK} {v : V} (h : Thrown C v H E) : [v].length ≤ 1000 ∧ ∀ a, H a = none → spIni K C (.ref a :: ([v] ++ [])) (upd H a (exo a C none))
    (fun u H2 => u = .non ∧ ∃ (d : Addr) (fs : List (Str × V)), H2 a = some (exo a C (some d)) ∧ H2 d = some (exd d fs) ∧ H d = none ∧ E (.ref C) (some d) (upd (del H2 a) d (.xd fs))) (fun _ _ _ => False) := by
  refine ⟨by show 1 ≤ 1000; decide, fun a ha => ⟨a, v, rfl, upd_same, fun dx hd ne => ⟨rfl, dx, _, upd_same, by rw [upd_ne ne, upd_same], ?_, ?_⟩⟩⟩
  · rw [upd_ne ne] at hd
    exact hd
  · rw [upd_ne ne] at hd
    refine h dx _ (fun b o e => ?_) hd upd_same
    rw [upd_ne (ne_of_none e hd), del_ne (ne_of_none e ha), upd_ne (ne_of_none e ha), upd_ne (ne_of_none e hd), upd_ne (ne_of_none e ha)]
    exact e
end
end Rw

set_option Elab.async false
set_option linter.all false
set_option maxRecDepth 100000
set_option maxHeartbeats 4000000
/-! TkF: the kinds of data, what data is kept over heaps, numbers among the primes. -/
namespace Rw
open PySem PySem.Spec PyProof.Rows L2

/-! ### kinds -/
def kindS : PyData → String
  | .none => "NoneType" | .bool _ => "bool" | .int _ => "int" | .str _ => "str" | .list _ => "list" | .tuple _ => "tuple" | .dict _ => "dict"
def intish : PyData → Bool
  | .int _ => true | .bool _ => true | _ => false
def boolish : PyData → Bool
  | .bool _ => true | _ => false
def isIntD : PyData → Bool
  | .int _ => true | _ => false
section
variable {K : PySem.W.Frag} {H H' : Hp} {v : V} {d : PyData}
theorem any_ty (h : Any H v d) : TyX K H v (.type (kindS d)) := by
  cases h with
  | non => exact .base .non
  | bl b => exact .base (.bl b)
  | int i => exact .base (.int i)
  | str x => exact .base (.str x)
  | lst e _ => exact .base (.lst e)
  | tup e _ => exact .base (.tup e)
  | dct e _ => exact .base (.dK e)
theorem kit_int (d : PyData) : PySem.W.kitOne K (.type (kindS d)) (.type "int") = some (intish d) := by
  cases d with
  | none => exact kit_ty (show kitB "NoneType" "int" = some false by decide +kernel)
  | bool b => exact kit_ty (show kitB "bool" "int" = some true by decide +kernel)
  | int i => exact kit_ty (show kitB "int" "int" = some true by decide +kernel)
  | str x => exact kit_ty (show kitB "str" "int" = some false by decide +kernel)
  | list xs => exact kit_ty (show kitB "list" "int" = some false by decide +kernel)
  | tuple xs => exact kit_ty (show kitB "tuple" "int" = some false by decide +kernel)
  | dict kvs => exact kit_ty (show kitB "dict" "int" = some false by decide +kernel)
theorem kit_bool (d : PyData) : PySem.W.kitOne K (.type (kindS d)) (.type "bool") = some (boolish d) := by
  cases d with
  | none => exact kit_ty (show kitB "NoneType" "bool" = some false by decide +kernel)
  | bool b => exact kit_ty (show kitB "bool" "bool" = some true by decide +kernel)
  | int i => exact kit_ty (show kitB "int" "bool" = some false by decide +kernel)
  | str x => exact kit_ty (show kitB "str" "bool" = some false by decide +kernel)
  | list xs => exact kit_ty (show kitB "list" "bool" = some false by decide +kernel)
  | tuple xs => exact kit_ty (show kitB "tuple" "bool" = some false by decide +kernel)
  | dict kvs => exact kit_ty (show kitB "dict" "bool" = some false by decide +kernel)
theorem int_of (h : Any H v d) (e : isIntD d = true) : ∃ n, d = .int n ∧ v = .int n := by
  cases h with
  | int i => exact ⟨i, rfl, rfl⟩
  | _ => cases e
mutual
theorem any_keep (k : Same H H') : ∀ (d : PyData) (v : V), Any H v d → Any H' v d
  | .none, _, h => by
    cases h
    exact .non
  | .bool b, _, h => by
    cases h
    exact .bl b
  | .int i, _, h => by
    cases h
    exact .int i
  | .str x, _, h => by
    cases h
    exact .str x
  | .list ds, _, h => by
    cases h with
    | lst e a => exact .lst (k _ _ e) (any_keepL k ds _ a)
  | .tuple ds, _, h => by
    cases h with
    | tup e a => exact .tup (k _ _ e) (any_keepL k ds _ a)
  | .dict ds, _, h => by
    cases h with
    | dct e a => exact .dct (k _ _ e) (any_keepK k ds _ a)
theorem any_keepL (k : Same H H') : ∀ (ds : List PyData) (vs : List V), AnyL H vs ds → AnyL H' vs ds
  | [], _, h => by
    cases h
    exact .nil
  | d :: ds, _, h => by
    cases h with
    | cons a b => exact .cons (any_keep k d _ a) (any_keepL k ds _ b)
theorem any_keepK (k : Same H H') : ∀ (ds : List (PyData × PyData)) (vs : List (Key × V)), AnyK H vs ds → AnyK H' vs ds
  | [], _, h => by
    cases h
    exact .nil
  | (_, d) :: ds, _, h => by
    cases h with
    | cons a b => exact .cons (any_keep k d _ a) (any_keepK k ds _ b)
end
theorem Any.keep (h : Any H v d) (k : Same H H') : Any H' v d := any_keep k d v h
end

/-! ### all but one object -/
/-- what was tracked but at p is as it was -/
def Grow (p : Addr) (H H' : Hp) : Prop := ∀ b o, b ≠ p → H b = some o → H' b = some o
theorem Grow.refl {p : Addr} {H : Hp} : Grow p H H := fun _ _ _ e => e
theorem Grow.trans {p : Addr} {H H1 H2 : Hp} (a : Grow p H H1) (b : Grow p H1 H2) : Grow p H H2 := fun c o n e => b c o n (a c o n e)
theorem Grow.of {p : Addr} {H H' : Hp} (a : Same H H') : Grow p H H' := fun c o _ e => a c o e
theorem Grow.put {p : Addr} {H : Hp} {o : HO} : Grow p H (upd H p o) := fun c u n e => by
  rw [upd_ne n]
  exact e
theorem Grow.del {p : Addr} {H H' : Hp} (a : Grow p H H') : Same (del H p) (del H' p) := fun c o e => by
  by_cases z : c = p
  · rw [z, del_same] at e
    cases e
  · rw [del_ne z] at e
    rw [del_ne z]
    exact a c o z e
theorem same_del {p : Addr} {H : Hp} : Same (del H p) H := fun c o e => by
  by_cases z : c = p
  · rw [z, del_same] at e
    cases e
  · rw [del_ne z] at e
    exact e
theorem same_new {p : Addr} {H : Hp} {o : HO} (h : H p = none) : Same H (upd H p o) := fun c u e => by
  rw [upd_ne (ne_of_none e h)]
  exact e
theorem del_new {p q : Addr} {H : Hp} {o : HO} (h : H q = none) : Same (del H p) (del (upd H q o) p) := Grow.del (Grow.of (same_new h))
theorem ne_new {H : Hp} {p q : Addr} {o : HO} (hp : H p = some o) (h : H q = none) : q ≠ p := (ne_of_none hp h).symm

/-! ### the primes -/
def primesL : List Int := [2, 3, 5, 7, 11, 13]
def isPr : PyData → Bool
  | .int n => decide (n ∈ primesL)
  | _ => false
theorem inV_ints (n : Int) : ∀ l : List Int, inV (.int n) (l.map V.int) = decide (n ∈ l)
  | [] => rfl
  | a :: l => by
    show (eqV (.int a) (.int n) || inV (.int n) (l.map V.int)) = _
    rw [inV_ints n l]
    show ((a == n) || decide (n ∈ l)) = _
    by_cases h : a = n
    · subst h
      simp
    · have h2 : ¬ n = a := fun z => h z.symm
      simp [h, h2]
theorem flat_ints : ∀ l : List Int, (l.map V.int).all flatV = true
  | [] => rfl
  | a :: l => by
    show (true && (l.map V.int).all flatV) = true
    rw [flat_ints l] <;> rfl
theorem prime_cases {p : Int} (h : p ∈ primesL) : p = 2 ∨ p = 3 ∨ p = 5 ∨ p = 7 ∨ p = 11 ∨ p = 13 := by
  simpa [primesL] using h
theorem prime_pos {p : Int} (h : p ∈ primesL) : 2 ≤ p ∧ p ≤ 13 := by
  rcases prime_cases h with e | e | e | e | e | e <;> omega
/-- a number that is no multiple of the prime has an inverse -/
theorem has_inverse {p n : Int} (h : p ∈ primesL) (hn : n % p ≠ 0) : ∃ j : Nat, ((j : Int) + 1) < p ∧ ((1 + (j : Int)) * n) % p = 1 := by
  have key : ∀ (p : Int) (r : Int), p ∈ primesL → 0 ≤ r → r < p → r ≠ 0 → ∃ j : Nat, ((j : Int) + 1) < p ∧ ((1 + (j : Int)) * r) % p = 1 := by
    intro p r hp h0 h1 h2
    have c : ∀ p ∈ [2, 3, 5, 7, 11, 13], ∀ r ∈ List.range p, r ≠ 0 → ∃ j ∈ List.range 12, j + 1 < p ∧ ((1 + j) * r) % p = 1 := by decide +kernel
    obtain ⟨j, _, a, b⟩ := c p.toNat (by rcases prime_cases hp with e | e | e | e | e | e <;> subst e <;> decide) r.toNat (List.mem_range.mpr (by omega)) (by omega)
    refine ⟨j, by omega, ?_⟩
    have e1 : ((p.toNat : Nat) : Int) = p := Int.toNat_of_nonneg (by omega)
    have e2 : ((r.toNat : Nat) : Int) = r := Int.toNat_of_nonneg h0
    have b2 : ((((1 + j) * r.toNat % p.toNat : Nat)) : Int) = ((1 : Nat) : Int) := by rw [b]
    rw [Int.natCast_emod, Int.natCast_mul, e1, e2, Int.natCast_add] at b2
    exact b2
  have hp := prime_pos h
  obtain ⟨j, a, b⟩ := key p (n % p) h (Int.emod_nonneg n (by omega)) (Int.emod_lt_of_pos n (by omega)) hn
  refine ⟨j, a, ?_⟩
  rw [Int.mul_emod, Int.emod_emod_of_dvd n (Int.dvd_refl p), ← Int.mul_emod] at b
  exact b
theorem fmod_pos {a b : Int} (h : 0 < b) : a.fmod b = a % b := Int.fmod_eq_emod_of_nonneg a (by omega)
end Rw

set_option Elab.async false
set_option linter.all false
set_option maxRecDepth 100000
set_option maxHeartbeats 4000000
/-! TkG: what stands behind the top, as facts that the kernel is asked. -/
namespace Rw
open PySem PySem.Spec PyProof.Rows L2
/-- a def of the text stands at f under the name x -/
def DefAt (K : PySem.W.Frag) (x qual : Str) (st : Stmt) (f : Addr) : Prop :=
  ∃ (oc : Value) (od : Option Addr) (kV dc pm : Value) (an : Option Addr) (cd ct : Value) (sl : Array (Option Value)), K.lookup f = some ⟨oc, od, .func (PySem.W.fnOf x qual (defArgs st) (defBody st) (defScope st) .none kV dc pm an cd ct), sl⟩ ∧
    PySem.W.codeIn K cd qual = true ∧ PySem.W.keepIn K (.ref f) = true
def DefHere (K : PySem.W.Frag) (x : Str) (st : Stmt) : Prop := ∃ f : Addr, PySem.W.nsIn K mainGlobals x = some (some (.ref f)) ∧ DefAt K x x st f
/-- a def with defaults -/
def DflHere (K : PySem.W.Frag) (x : Str) (st : Stmt) (ds : List Value) : Prop :=
  ∃ (f T : Addr) (oc : Value) (od : Option Addr) (kV dc pm : Value) (an : Option Addr) (cd ct : Value) (sl : Array (Option Value)) (tc : Value) (td : Option Addr) (n : Nat) (ts : Array (Option Value)), PySem.W.nsIn K mainGlobals x = some (some (.ref f)) ∧
    K.lookup f = some ⟨oc, od, .func (PySem.W.fnOf x x (defArgs st) (defBody st) (defScope st) (.ref T) kV dc pm an cd ct), sl⟩ ∧ PySem.W.codeIn K cd x = true ∧ PySem.W.keepIn K (.ref f) = true ∧
    K.lookup T = some ⟨tc, td, .seq ds.toArray n, ts⟩
/-- an own error class x below the class at R, its __init__ is st -/
def ErrHere (K : PySem.W.Frag) (x q : Str) (st : Stmt) (R C : Addr) : Prop :=
  ∃ (f N : Addr) (nm qn : Str) (bs : List Value) (sn : List Str) (sub : List Value) (ab : Bool) (col : Option Bool) (dd : Option Addr) (m0 m1 m2 m3 m5 : Option Value), PySem.W.nsIn K mainGlobals x = some (some (.ref C)) ∧
    K.lookup C = some (excClassObj nm qn C N bs [.ref R, .type "ValueError", .type "Exception", .type "BaseException", .type "object"] true sn sub ab col dd m0 m1 m2 m3 m5 "ValueError.__new__") ∧
    PySem.W.findIn K (.ref C) "__setattr__" = some (some (.builtin "object.__setattr__")) ∧ PySem.W.findIn K (.ref C) "__getattribute__" = some (some (.builtin "BaseException.__getattribute__")) ∧ PySem.W.findIn K (.ref C) "__getattr__" = some none ∧
    PySem.W.findIn K (.ref C) "value" = some none ∧ PySem.W.findIn K (.ref C) "__init__" = some (some (.ref f)) ∧ PySem.W.typeIn K (.ref f) = some (.type "function") ∧ DefAt K "__init__" q st f ∧
    PySem.W.keepIn K (.ref C) = true ∧ PySem.W.subIn K (.ref C) (.type "BaseException") = some true ∧ PySem.W.typeIn K (.ref C) = some (.type "type") ∧ PySem.W.hasDictIn K C = true
section
variable {K : PySem.W.Frag} {mg : Str → Option Value} {h : Heap}
theorem DefHere.df {x : Str} {st : Stmt} {ps : List Str} (D : DefHere K x st) (X : K.In h) (G : h.Ns mainGlobals mg)
    (b : ∀ (kV doc pm : Value) (an : Option Addr) (cdv ct : Value) (us : List Value), us.length = ps.length → bindArgs (PySem.W.fnOf x x (defArgs st) (defBody st) (defScope st) .none kV doc pm an cdv ct) ⟨us, []⟩ = pure (ps.zip us)) : Df K mg x st ps := by
  obtain ⟨f, g, oc, od, kV, dc, pm, an, cd, ct, sl, l, c, k⟩ := D
  have F := fun_mk (st := st) l c k
  exact ⟨f, _, PySem.W.mg_of X G g, F, F.binds b⟩
theorem exm_of {A C : Addr} {b : Bool} (h1 : PySem.W.subIn K (.ref C) (.type "BaseException") = some true) (h2 : PySem.W.isClsIn K C = true) (h3 : PySem.W.typeIn K (.ref C) = some (.type "type")) (h4 : PySem.W.subIn K (.ref A) (.ref C) = some b) :
    PySem.W.exmOne K (.ref A) (.ref C) = some b := by
  have e1 : (PySem.W.subIn K (.ref C) (.type "BaseException") == some true) = true := by
    rw [h1] <;> rfl
  have h2' : (PySem.W.clsIn K C).isSome = true := h2
  have e2 : ((PySem.W.clsIn K C).isSome && PySem.W.typeIn K (.ref C) == some (.type "type")) = true := by
    rw [h2', h3] <;> rfl
  unfold PySem.W.exmOne
  rw [if_pos e1]
  show (if ((PySem.W.clsIn K C).isSome && PySem.W.typeIn K (.ref C) == some (.type "type")) = true then PySem.W.subIn K (.ref A) (.ref C) else none) = some b
  rw [if_pos e2]
  exact h4
/-- the body of __init__(self, value): self.value = value -/
def IsIni (st : Stmt) : Prop := ∃ p1 p2 p3 p4 : Pos, defBody st = [.Assign [.Attribute (.Name "self" p1) "value" p2] (.Name "value" p3) p4] ∧ (defScope st).names.lookup ("self" : Str) = some NameKind.local ∧ (defScope st).names.lookup ("value" : Str) = some NameKind.local
theorem ini_walk {st : Stmt} (I : IsIni st) (X : Cx) (hN : X.N = (["self", "value"] : List Str)) (hS : X.env.scope = defScope st) : ∃ t : TS, PSs X (defBody st) t ∧ (∀ D σ H, tOst X.K "value" (tVar 0) (tVar 1) D σ H → t D σ H) := by
  obtain ⟨p1, p2, p3, p4, e, l1, l2⟩ := I
  rw [e]
  refine ⟨_, pss_one (ps_ost (pe_var (i := 0) (by rw [hN]; rfl) (.inl (by rw [hS]; exact l1))) (pe_var (i := 1) (by rw [hN]; rfl) (.inl (by rw [hS]; exact l2)))), fun D σ H z => z⟩
theorem ErrHere.err {x q : Str} {st : Stmt} {R C : Addr} (E : ErrHere K x q st R C) (X : K.In h) (G : h.Ns mainGlobals mg) (S : FnScope ["self", "value"] ["self", "value"] (defScope st)) (I : IsIni st)
    (b : ∀ (kV doc pm : Value) (an : Option Addr) (cdv ct : Value) (us : List Value), us.length = 2 → bindArgs (PySem.W.fnOf "__init__" q (defArgs st) (defBody st) (defScope st) .none kV doc pm an cdv ct) ⟨us, []⟩ = pure ((["self", "value"] : List Str).zip us)) : Err K mg x C := by
  obtain ⟨f, N, nm, qn, bs, sn, sub, ab, col, dd, m0, m1, m2, m3, m5, g, l, sa, ga, gg, no, ini, ty, ⟨oc, od, kV, dc, pm, an, cd, ct, sl, lf, cf, kf⟩, kc, ex, tc, hd⟩ := E
  have F := fun_mk (x := "__init__") (qual := q) (st := st) lf cf kf
  exact {
    g := PySem.W.mg_of X G g
    ox := ⟨⟨nm, qn, N, bs, _, sn, sub, ab, col, dd, m0, m1, m2, m3, m5, l, rfl⟩, sa, ex, tc, kc⟩
    xf := ⟨ga, gg, ex, hd⟩
    no := no
    ini := ⟨f, q, st, _, ini, ty, F, F.binds b, S, ini_walk I⟩ }
/-- a tuple of ints of the text -/
def IntsHere (K : PySem.W.Frag) (x : Str) (a : Addr) (us : List Value) : Prop := ∃ (dd : Option Addr) (n : Nat) (sl : Array (Option Value)), PySem.W.nsIn K mainGlobals x = some (some (.ref a)) ∧ K.lookup a = some ⟨.type "tuple", dd, .seq us.toArray n, sl⟩
theorem IntsHere.sq {x : Str} {a : Addr} {us : List Value} {xs : List V} (E : IntsHere K x a us) (r : Vals xs us) (z : us.length ≤ sizeLine) (H : Hp) : SqT K H a xs := by
  obtain ⟨dd, n, sl, _, l⟩ := E
  exact Or.inr ⟨_, us.toArray, n, l, rfl, rfl, by simpa using z, by simpa using r⟩
/-! the same from its facts, the rest found by the kernel -/
theorem DefHere.of {x : Str} {st : Stmt} {f : Addr} {oc : Value} {od : Option Addr} {kV dc pm : Value} {an : Option Addr} {cd ct : Value} {sl : Array (Option Value)} (g : PySem.W.nsIn K mainGlobals x = some (some (.ref f)))
    (l : K.lookup f = some ⟨oc, od, .func (PySem.W.fnOf x x (defArgs st) (defBody st) (defScope st) .none kV dc pm an cd ct), sl⟩) (c : PySem.W.codeIn K cd x = true) (k : PySem.W.keepIn K (.ref f) = true) : DefHere K x st :=
  ⟨f, g, oc, od, kV, dc, pm, an, cd, ct, sl, l, c, k⟩
theorem DflHere.of {x : Str} {st : Stmt} {ds : List Value} {f T : Addr} {oc : Value} {od : Option Addr} {kV dc pm : Value} {an : Option Addr} {cd ct : Value} {sl : Array (Option Value)} {tc : Value} {td : Option Addr} {n : Nat} {ts : Array (Option Value)}
    (g : PySem.W.nsIn K mainGlobals x = some (some (.ref f))) (l : K.lookup f = some ⟨oc, od, .func (PySem.W.fnOf x x (defArgs st) (defBody st) (defScope st) (.ref T) kV dc pm an cd ct), sl⟩) (c : PySem.W.codeIn K cd x = true) (k : PySem.W.keepIn K (.ref f) = true)
    (t : K.lookup T = some ⟨tc, td, .seq ds.toArray n, ts⟩) : DflHere K x st ds := ⟨f, T, oc, od, kV, dc, pm, an, cd, ct, sl, tc, td, n, ts, g, l, c, k, t⟩
theorem ErrHere.of {x q : Str} {st : Stmt} {R C f N : Addr} {nm qn : Str} {bs : List Value} {sn : List Str} {sub : List Value} {ab : Bool} {col : Option Bool} {dd : Option Addr} {m0 m1 m2 m3 m5 : Option Value}
    {oc : Value} {od : Option Addr} {kV dc pm : Value} {an : Option Addr} {cd ct : Value} {sl : Array (Option Value)} (g : PySem.W.nsIn K mainGlobals x = some (some (.ref C)))
    (xl : K.lookup C = some (excClassObj nm qn C N bs [.ref R, .type "ValueError", .type "Exception", .type "BaseException", .type "object"] true sn sub ab col dd m0 m1 m2 m3 m5 "ValueError.__new__"))
    (sa : PySem.W.findIn K (.ref C) "__setattr__" = some (some (.builtin "object.__setattr__"))) (ga : PySem.W.findIn K (.ref C) "__getattribute__" = some (some (.builtin "BaseException.__getattribute__"))) (gg : PySem.W.findIn K (.ref C) "__getattr__" = some none)
    (no : PySem.W.findIn K (.ref C) "value" = some none) (ini : PySem.W.findIn K (.ref C) "__init__" = some (some (.ref f))) (ty : PySem.W.typeIn K (.ref f) = some (.type "function"))
    (l : K.lookup f = some ⟨oc, od, .func (PySem.W.fnOf "__init__" q (defArgs st) (defBody st) (defScope st) .none kV dc pm an cd ct), sl⟩) (c : PySem.W.codeIn K cd q = true) (k : PySem.W.keepIn K (.ref f) = true)
    (kc : PySem.W.keepIn K (.ref C) = true) (ex : PySem.W.subIn K (.ref C) (.type "BaseException") = some true) (tc : PySem.W.typeIn K (.ref C) = some (.type "type")) (hd : PySem.W.hasDictIn K C = true) : ErrHere K x q st R C :=
  ⟨f, N, nm, qn, bs, sn, sub, ab, col, dd, m0, m1, m2, m3, m5, g, xl, sa, ga, gg, no, ini, ty, ⟨oc, od, kV, dc, pm, an, cd, ct, sl, l, c, k⟩, kc, ex, tc, hd⟩
theorem IntsHere.of {x : Str} {a : Addr} {us : List Value} {dd : Option Addr} {n : Nat} {sl : Array (Option Value)} (g : PySem.W.nsIn K mainGlobals x = some (some (.ref a))) (l : K.lookup a = some ⟨.type "tuple", dd, .seq us.toArray n, sl⟩) : IntsHere K x a us := ⟨dd, n, sl, g, l⟩
end
end Rw

set_option Elab.async false
set_option linter.all false
set_option maxRecDepth 100000
set_option maxHeartbeats 4000000
/-! TkZ: zip of lists and tuples, in any order. -/
namespace Rw
open PySem PySem.Spec PyProof.Rows L2

/-- a list (true) or a tuple (false) -/
def SqB (K : PySem.W.Frag) (H : Hp) : Bool → Addr → List V → Prop
  | true, a, xs => SqL K H a xs
  | false, a, xs => SqT K H a xs
def itB (h : Heap) : Bool → Addr → Addr → Nat → Prop
  | true, it, l, i => h.IsListIter it l i
  | false, it, l, i => h.IsTupleIter it l i
def sqB (h : Heap) : Bool → Addr → Array Value → Prop
  | true, l, xs => h.IsList l xs
  | false, l, xs => h.IsTuple l xs
def nmB : Bool → String
  | true => "list_iterator"
  | false => "tuple_iterator"
section
variable {X : Cx} {pins : List (Addr × Obj)} {σ : L2.St} {H : Hp} {s : Shared} {h h' : Heap} {k : Bool} {a it : Addr} {i : Nat} {xs ys : List V}
theorem sqB_inv (I : Inv X pins σ H s) (q : SqB X.K H k a xs) : ∃ its : List Value, Vals xs its ∧ sqB s.heap k a its.toArray ∧ a < s.heap.objs.size := by
  cases k with
  | true =>
    obtain ⟨its, r, p, _⟩ := I.list q
    exact ⟨its, r, p.isList, p.lt⟩
  | false =>
    obtain ⟨its, r, p, _⟩ := I.tuple q
    obtain ⟨o, ho, _⟩ := id p
    exact ⟨its, r, p, Heap.lt_size ho⟩
theorem sqB_inj (I : Inv X pins σ H s) (q : SqB X.K H k a xs) (q' : SqB X.K H k a ys) : xs = ys := by
  cases k with
  | true => exact I.list_inj q q'
  | false => exact I.tuple_inj q q'
theorem itB_obj (t : itB h k it a i) : ∃ o, h.get? it = some o ∧ ∀ v, o.data ≠ .cell v := by
  cases k with
  | true =>
    obtain ⟨o, e, _, d⟩ := t
    exact ⟨o, e, fun v q => by rw [d] at q; cases q⟩
  | false =>
    obtain ⟨o, e, _, d⟩ := t
    exact ⟨o, e, fun v q => by rw [d] at q; cases q⟩
theorem itB_at (t : itB h k it a i) (e : ∀ o, h.get? it = some o → h'.get? it = some o) : itB h' k it a i := by
  cases k with
  | true => exact Heap.IsListIter.at t e
  | false => exact Heap.IsTupleIter.at t e
theorem drawsB {prog : Program} {w : World} {A : Around} (hh : A.handled = none) (k : Bool) (it l : Addr) (hne : l ≠ it) (items : Array Value) :
    Draws prog w A it [it, l] items.size (fun i v => items[i]? = some v) (fun i h => itB h k it l i ∧ sqB h k l items) := by
  cases k with
  | true => exact Draws.list hh it l hne items
  | false => exact Draws.tuple hh it l hne items
theorem sepB {z TI TO i1 i2 a b : Addr} (D : ZipApart z TI TO i1 i2 a b) : ZipSep2 z TI TO i1 i2 [i1, a] [i2, b] where
  TIz := D.TIz
  TOz := D.TOz
  TITO := D.TITO
  TIi1 := D.TIi1
  mem1 := List.mem_cons_self
  zf1 := by simp; exact ⟨D.i1z.symm, D.l1z.symm⟩
  Tf1 := by simp; exact ⟨D.TOi1, D.l1TO.symm⟩
  TIi2 := D.TIi2
  mem2 := List.mem_cons_self
  zf2 := by simp; exact ⟨D.i2z.symm, D.l2z.symm⟩
  Tf2 := by simp; exact ⟨D.TOi2, D.l2TO.symm⟩
  sep1_2 := by simp; exact ⟨D.i12, D.l2i1.symm⟩
  sep2_1 := by simp; exact ⟨D.i12.symm, D.l1i2.symm⟩
end

/-- the lists or tuples at a and b as they stand at each turn, the items in new pairs -/
def ItB (K : PySem.W.Frag) (k1 k2 : Bool) (a b : Addr) : It :=
  ⟨fun i H => ∃ (xs ys : List V) (x y : V), SqB K H k1 a xs ∧ SqB K H k2 b ys ∧ xs[i]? = some x ∧ ys[i]? = some y,
    fun i H v H' => ∃ T x y, v = .ref T ∧ H T = none ∧ H' = upd H T (.tup [x, y]) ∧ (∀ xs, SqB K H k1 a xs → xs[i]? = some x) ∧ ∀ ys, SqB K H k2 b ys → ys[i]? = some y,
    fun i H => ∃ xs ys : List V, SqB K H k1 a xs ∧ SqB K H k2 b ys ∧ i ≤ xs.length ∧ i ≤ ys.length ∧ (xs.length = i ∨ ys.length = i)⟩
theorem turn_zipB {P : Program} {w : World} {K : PySem.W.Frag} {k1 k2 : Bool} {elts : List Expr} {kk : Nat} {tpos : Pos} {a b z TI TO i1 i2 : Addr} (D : ZipApart z TI TO i1 i2 a b) :
    Turn P w K (.Tuple elts kk tpos) (ItB K k1 k2 a b) [z, TI, TO, i1, i2] z (fun i h => IsZip h z TI TO .none ∧ IsPair h TI (.ref i1) (.ref i2) ∧ (∃ x y, IsPair h TO x y) ∧ itB h k1 i1 a i ∧ itB h k2 i2 b i) where
  mem := by simp
  obj := fun i h st c hc => by
    obtain ⟨hz, hTI, ⟨x, y, hTO⟩, h1, h2⟩ := st
    have e' : c = z ∨ c = TI ∨ c = TO ∨ c = i1 ∨ c = i2 := by simpa using hc
    rcases e' with q | q | q | q | q
    · rw [q]; exact ⟨_, hz, fun v q => nomatch q⟩
    · rw [q]; exact ⟨_, hTI, fun v q => nomatch q⟩
    · rw [q]; exact ⟨_, hTO, fun v q => nomatch q⟩
    · rw [q]; exact itB_obj h1
    · rw [q]; exact itB_obj h2
  keep := fun i h h' st k => by
    obtain ⟨hz, hTI, ⟨x, y, hTO⟩, h1, h2⟩ := st
    exact ⟨k z (by simp) _ hz, k TI (by simp) _ hTI, ⟨x, y, k TO (by simp) _ hTO⟩, itB_at h1 fun o q => k i1 (by simp) o q, itB_at h2 fun o q => k i2 (by simp) o q⟩
  item := by
    intro X hP hw hK hc i pins s σ H E I hf st hg
    subst hP hw hK
    obtain ⟨hz, hTI, ⟨x0, y0, hTO⟩, h1, h2⟩ := st
    obtain ⟨xs, ys, x, y, hqx, hqy, hx, hy⟩ := hg
    obtain ⟨its, rv, p, _⟩ := sqB_inv I hqx
    obtain ⟨its2, rv2, p2, _⟩ := sqB_inv I hqy
    obtain ⟨u, hu, ru⟩ := rv.get hx
    obtain ⟨u2, hu2, ru2⟩ := rv2.get hy
    have hzl : z < s.heap.objs.size := Heap.lt_size hz
    have hd : X.A.in1.handled = none := I.ok.hd hc
    have g1 : i < its.toArray.size := by
      have := (List.getElem?_eq_some_iff.mp hu).1
      simpa using this
    have g2 : i < its2.toArray.size := by
      have := (List.getElem?_eq_some_iff.mp hu2).1
      simpa using this
    refine wpAny_pyNext_zipD2_item (sepB D) (drawsB hd k1 i1 a D.l1i1 its.toArray) (drawsB hd k2 i2 b D.l2i2 its2.toArray) hz hTI hTO ⟨h1, p⟩ ⟨h2, p2⟩ g1 g2 fun x1 x2 h' tk e1 e2 z' TO' t1 t2 hT hsz hk => ?_
    have hx1 : x1 = u := by
      have q : its[i]? = some x1 := by simpa using e1
      rw [hu] at q
      exact (Option.some.inj q).symm
    have hx2 : x2 = u2 := by
      have q : its2[i]? = some x2 := by simpa using e2
      rw [hu2] at q
      exact (Option.some.inj q).symm
    subst hx1 hx2
    refine ⟨_, rfl, wpAny_letOwnedTupleGo_zip (s := { s with heap := h', toks := tk }) z' fun h'' z'' sb => ?_⟩
    have hT2 : h''.get? s.heap.objs.size = some { cls := .type "tuple", data := .seq #[x1, x2] } := (sb.2 _ (Nat.ne_of_gt hzl)).trans hT
    have new : ObjOk X.prog X.w (upd H s.heap.objs.size (.tup [x, y])) h'' s.heap.objs.size (.tup [x, y]) :=
      ⟨by show 2 ≤ sizeLine; decide, [x1, x2], .cons ru (.cons ru2 .nil), ⟨_, hT2, rfl, _, rfl⟩⟩
    have I1 : Inv X pins σ (upd H s.heap.objs.size (.tup [x, y])) { s with heap := h'', toks := tk } :=
      I.turnedNew (t' := tk) (ch := [z, TI, TO, i1, i2]) (fun c o hb q => (sb.2 c (fun q' => hb (by simp [q']))).trans (hk c o (fun q' => hb (by simp [q'])) (fun q' => hb (by simp [q'])) (fun q' => hb (by simp [q'])) (fun q' => hb (by simp [q'])) q)) hf (Nat.le_refl _) new
    refine ⟨.ref s.heap.objs.size, _, I1, rfl, ⟨_, x, y, rfl, I.hok.fresh (Nat.le_refl _), rfl, fun l hl => by rw [sqB_inj I hl hqx]; exact hx, fun l hl => by rw [sqB_inj I hl hqy]; exact hy⟩, ⟨z'', ?_, ⟨x1, x2, ?_⟩, ?_, ?_⟩, fun c hcm => ?_⟩
    · exact (sb.2 _ D.TIz).trans (hk _ _ D.TIz D.TITO D.TIi1 D.TIi2 hTI)
    · exact (sb.2 _ D.TOz).trans TO'
    · exact itB_at t1.1 fun o q => (sb.2 _ D.i1z).trans q
    · exact itB_at t2.1 fun o q => (sb.2 _ D.i2z).trans q
    · have hlt : c < s.heap.objs.size := by
        have e' : c = z ∨ c = TI ∨ c = TO ∨ c = i1 ∨ c = i2 := by simpa using hcm
        rcases e' with q | q | q | q | q
        · rw [q]; exact hzl
        · rw [q]; exact Heap.lt_size hTI
        · rw [q]; exact Heap.lt_size hTO
        · rw [q]; obtain ⟨_, e1, _⟩ := itB_obj h1; exact Heap.lt_size e1
        · rw [q]; obtain ⟨_, e2, _⟩ := itB_obj h2; exact Heap.lt_size e2
      rw [upd_ne (Nat.ne_of_lt hlt)]
      exact (hf c hcm).1
  done := by
    intro X hP hw hK hc i pins s σ H E I hf st hg
    subst hP hw hK
    obtain ⟨hz, hTI, ⟨x0, y0, hTO⟩, h1, h2⟩ := st
    obtain ⟨xs, ys, hqx, hqy, l1, l2, hend⟩ := hg
    obtain ⟨its, rv, p, _⟩ := sqB_inv I hqx
    obtain ⟨its2, rv2, p2, _⟩ := sqB_inv I hqy
    have m1 := rv.length
    have m2 := rv2.length
    have hd : X.A.in1.handled = none := I.ok.hd hc
    have z1 : its.toArray.size = its.length := by simp
    have z2 : its2.toArray.size = its2.length := by simp
    exact wpAny_pyNext_zipD2_end (sepB D) (drawsB hd k1 i1 a D.l1i1 its.toArray) (drawsB hd k2 i2 b D.l2i2 its2.toArray) hz hTI hTO ⟨h1, p⟩ ⟨h2, p2⟩ (by omega) (by omega) (by omega) fun h' tk hk => ⟨rfl, I.turnedL (t' := tk) (ch := [z, TI, TO, i1, i2]) (fun c o hb q =>
      hk c o (fun q' => hb (by simp [q'])) (fun q' => hb (by simp [q'])) (fun q' => hb (by simp [q'])) (fun q' => hb (by simp [q'])) q) hf⟩
  self := fun A i s Q E st h => wpAny_pyIter_zip st.1 h

abbrev zipBH1 (k1 : Bool) (h : Heap) (l1 : Addr) : Heap := h.push { cls := .type (nmB k1), data := .fields #[.ref l1, .int 0 0] }
abbrev zipBH2 (k1 k2 : Bool) (h : Heap) (l1 l2 : Addr) : Heap := (zipBH1 k1 h l1).push { cls := .type (nmB k2), data := .fields #[.ref l2, .int 0 0] }
abbrev zipBH3 (k1 k2 : Bool) (h : Heap) (l1 l2 : Addr) : Heap := (zipBH2 k1 k2 h l1 l2).push { cls := .type "tuple", data := .seq #[.ref h.objs.size, .ref (zipBH1 k1 h l1).objs.size] }
abbrev zipBH4 (k1 k2 : Bool) (h : Heap) (l1 l2 : Addr) : Heap := (zipBH3 k1 k2 h l1 l2).push { cls := .type "tuple", data := .seq #[.none, .none] }
abbrev zipBH5 (k1 k2 : Bool) (h : Heap) (l1 l2 : Addr) : Heap := (zipBH4 k1 k2 h l1 l2).push { cls := .type "zip", data := .fields #[.none, .bool false, .bool false, .ref (zipBH2 k1 k2 h l1 l2).objs.size, .ref (zipBH3 k1 k2 h l1 l2).objs.size] }
theorem meets_zipB_lt (l1 l2 : Addr) (xs ys : Array Value) :
    Meets (Builtin.«zip.__new__» ⟨[.type "zip", .ref l1, .ref l2], []⟩) (fun _ R s => s.heap.IsList l1 xs ∧ s.heap.IsTuple l2 ys ∧
      R (.ok (.ret (.ref (zipBH4 true false s.heap l1 l2).objs.size))) { s with heap := zipBH5 true false s.heap l1 l2 }) :=
  .of_wp fun prog w A R s h => by
    obtain ⟨hp, g, d, tk, os⟩ := s; obtain ⟨hl1, hl2, h⟩ := h
    have hsub := sub_zip
    have hL1 : Heap.IsList (Shared.heap ⟨hp, g, d, tk, os⟩) l1 xs := hl1
    have hL2 : Heap.IsTuple (Shared.heap ⟨hp.push { cls := .type "list_iterator", data := .fields #[.ref l1, .int 0 0] }, g, d, tk, os⟩) l2 ys := Heap.IsTuple.push hl2 _
    wp_walk using wpAny_pyIter_list hL1, wpAny_pyIter_tuple hL2
    exact ⟨_, rfl, h⟩
theorem meets_zipB_tl (l1 l2 : Addr) (xs ys : Array Value) :
    Meets (Builtin.«zip.__new__» ⟨[.type "zip", .ref l1, .ref l2], []⟩) (fun _ R s => s.heap.IsTuple l1 xs ∧ s.heap.IsList l2 ys ∧
      R (.ok (.ret (.ref (zipBH4 false true s.heap l1 l2).objs.size))) { s with heap := zipBH5 false true s.heap l1 l2 }) :=
  .of_wp fun prog w A R s h => by
    obtain ⟨hp, g, d, tk, os⟩ := s; obtain ⟨hl1, hl2, h⟩ := h
    have hsub := sub_zip
    have hL1 : Heap.IsTuple (Shared.heap ⟨hp, g, d, tk, os⟩) l1 xs := hl1
    have hL2 : Heap.IsList (Shared.heap ⟨hp.push { cls := .type "tuple_iterator", data := .fields #[.ref l1, .int 0 0] }, g, d, tk, os⟩) l2 ys := Heap.IsList.push hl2 _
    wp_walk using wpAny_pyIter_tuple hL1, wpAny_pyIter_list hL2
    exact ⟨_, rfl, h⟩
theorem meets_zipB (k1 k2 : Bool) (l1 l2 : Addr) (xs ys : Array Value) :
    Meets (Builtin.«zip.__new__» ⟨[.type "zip", .ref l1, .ref l2], []⟩) (fun _ R s => sqB s.heap k1 l1 xs ∧ sqB s.heap k2 l2 ys ∧
      R (.ok (.ret (.ref (zipBH4 k1 k2 s.heap l1 l2).objs.size))) { s with heap := zipBH5 k1 k2 s.heap l1 l2 }) := by
  cases k1 <;> cases k2
  · exact RZ.meets_zipT_new l1 l2 xs ys
  · exact meets_zipB_tl l1 l2 xs ys
  · exact meets_zipB_lt l1 l2 xs ys
  · exact meets_zip_new l1 l2 xs ys
theorem itB_new {h : Heap} {k : Bool} {it l : Addr} (e : h.get? it = some { cls := .type (nmB k), data := .fields #[.ref l, .int 0 0] }) : itB h k it l 0 := by
  cases k with
  | true => exact ⟨_, e, rfl, rfl⟩
  | false => exact ⟨_, e, rfl, rfl⟩
section
variable {prog : Program} {w : World} {A : Around} {E : Value → Shared → Prop} {s : Shared}
theorem call_zipB {k1 k2 : Bool} {l1 l2 : Addr} {xs ys : Array Value} {Q : Value → Shared → Prop} (hl1 : sqB s.heap k1 l1 xs) (hl2 : sqB s.heap k2 l2 ys)
    (h : ∀ h', IsZip h' (s.heap.objs.size + 4) (s.heap.objs.size + 2) (s.heap.objs.size + 3) .none → IsPair h' (s.heap.objs.size + 2) (.ref s.heap.objs.size) (.ref (s.heap.objs.size + 1)) →
      IsPair h' (s.heap.objs.size + 3) .none .none → itB h' k1 s.heap.objs.size l1 0 → itB h' k2 (s.heap.objs.size + 1) l2 0 → h'.objs.size = s.heap.objs.size + 5 →
      (∀ c o, s.heap.get? c = some o → h'.get? c = some o) → Q (.ref (s.heap.objs.size + 4)) { s with heap := h' }) :
    wpAny (model prog w) A (call (.type "zip") [.ref l1, .ref l2]) Q E s := by
  refine callType_new F.called_zip (by decide) (F.typeCall_zip_2 _ _) (F.newCall_zip_2 _ _) (fun obj => F.args_object_init_3 obj _ _) F.entry_zip_new
    (meets_zipB k1 k2 l1 l2 xs ys) ⟨hl1, hl2, ?_⟩
  have z1 : (zipBH1 k1 s.heap l1).objs.size = s.heap.objs.size + 1 := Heap.size_push ..
  have z2 : (zipBH2 k1 k2 s.heap l1 l2).objs.size = s.heap.objs.size + 2 := by rw [Heap.size_push, z1]
  have z3 : (zipBH3 k1 k2 s.heap l1 l2).objs.size = s.heap.objs.size + 3 := by rw [Heap.size_push, z2]
  have z4 : (zipBH4 k1 k2 s.heap l1 l2).objs.size = s.heap.objs.size + 4 := by rw [Heap.size_push, z3]
  have z5 : (zipBH5 k1 k2 s.heap l1 l2).objs.size = s.heap.objs.size + 5 := by rw [Heap.size_push, z4]
  have g5 : (zipBH5 k1 k2 s.heap l1 l2).get? (zipBH4 k1 k2 s.heap l1 l2).objs.size = some _ := Heap.get?_push_size _ rfl
  have g4 : (zipBH5 k1 k2 s.heap l1 l2).get? (zipBH3 k1 k2 s.heap l1 l2).objs.size = some _ := Heap.get?_push_of_some _ (Heap.get?_push_size _ rfl)
  have g3 : (zipBH5 k1 k2 s.heap l1 l2).get? (zipBH2 k1 k2 s.heap l1 l2).objs.size = some _ := Heap.get?_push_of_some _ (Heap.get?_push_of_some _ (Heap.get?_push_size _ rfl))
  have g2 : (zipBH5 k1 k2 s.heap l1 l2).get? (zipBH1 k1 s.heap l1).objs.size = some _ := Heap.get?_push_of_some _ (Heap.get?_push_of_some _ (Heap.get?_push_of_some _ (Heap.get?_push_size _ rfl)))
  have g1 : (zipBH5 k1 k2 s.heap l1 l2).get? s.heap.objs.size = some _ := Heap.get?_push_of_some _ (Heap.get?_push_of_some _ (Heap.get?_push_of_some _ (Heap.get?_push_of_some _ (Heap.get?_push_size _ rfl))))
  show _ ∧ _
  rw [z2, z3, z4] at g5
  rw [z1, z2] at g3
  rw [z3] at g4
  rw [z1] at g2
  rw [z4]
  exact ⟨⟨_, g5, rfl⟩, h _ g5 g3 g4 (itB_new g1) (itB_new g2) z5 fun c o x =>
    Heap.get?_push_of_some _ (Heap.get?_push_of_some _ (Heap.get?_push_of_some _ (Heap.get?_push_of_some _ (Heap.get?_push_of_some _ x))))⟩
end
def iZipB (K : PySem.W.Frag) (ta : TA) : TI := fun σ H R => ta σ H fun vs H1 => ∃ a b k1 k2 xs ys, vs = [.ref a, .ref b] ∧ SqB K H1 k1 a xs ∧ SqB K H1 k2 b ys ∧ R (ItB K k1 k2 a b) H1
theorem pi_zipB {X : Cx} {e e2 : Expr} {ta : TA} {p pos tpos : Pos} {elts : List Expr} {kk : Nat} (hg : Gl X "zip") (hm : X.mg "zip" = none) (ha : PA X [e, e2] ta)
    (hs : starEach [e, e2] X.env = (false, eval e X.env) :: starEach [e2] X.env := by rfl) (hpl : (backTo pos (starEach [e2] X.env)).any (·.1) = false := by rfl) :
    PI X (.Tuple elts kk tpos) (.Call (.Name "zip" p) [e, e2] [] pos) (iZipB X.K ta) := by
  refine ⟨fun pins s σ H R I h => ?_⟩
  refine Call_ (ld_blt I hg hm PyProof.Rows.boot_zip (PyProof.Rows.callWith_type1 (thn (ha.run pos pins s σ H _ I h) fun us s1 ⟨vs, H1, I1, r1, q1⟩ => ?_) hs hpl))
  obtain ⟨a, b, k1, k2, xs, ys, ex, hqx, hqy, q⟩ := q1
  subst ex
  cases r1 with
  | cons r rr =>
    cases rr with
    | cons r' rr =>
      cases rr
      cases r
      cases r'
      obtain ⟨its, rv, p1, la⟩ := sqB_inv I1 hqx
      obtain ⟨its2, rv2, p2, lb⟩ := sqB_inv I1 hqy
      refine call_zipB p1 p2 fun h' hz hTI hTO h1 h2 hsz hk => wpAny_pyIter_zip hz ?_
      have I2 : Inv X pins σ H1 { s1 with heap := h' } := I1.kept (t' := s1.toks) hk
      refine ⟨s1.heap.objs.size + 4, [s1.heap.objs.size + 4, s1.heap.objs.size + 2, s1.heap.objs.size + 3, s1.heap.objs.size, s1.heap.objs.size + 1], _, _, H1, rfl, I2, turn_zipB (PySem.W.ktu_apart s1.heap.objs.size a b la lb), ⟨hz, hTI, ⟨_, _, hTO⟩, h1, h2⟩, fun c hcm => ?_, q⟩
      have e' : c = s1.heap.objs.size + 4 ∨ c = s1.heap.objs.size + 2 ∨ c = s1.heap.objs.size + 3 ∨ c = s1.heap.objs.size ∨ c = s1.heap.objs.size + 1 := by simpa using hcm
      have hle : s1.heap.objs.size ≤ c := by
        rcases e' with z | z | z | z | z
        · rw [z]; exact Nat.le_add_right _ _
        · rw [z]; exact Nat.le_add_right _ _
        · rw [z]; exact Nat.le_add_right _ _
        · rw [z]; exact Nat.le_refl _
        · rw [z]; exact Nat.le_add_right _ _
      exact I1.fpOk hle (I1.hok.fresh hle)
end Rw

set_option Elab.async false
set_option linter.all false
set_option maxRecDepth 100000
set_option maxHeartbeats 4000000
/-! TkL: lists and tuples as data, comprehensions that make data of data. -/
namespace Rw
open PySem PySem.Spec PyProof.Rows L2

/-! ### lists and tuples as data -/
def isSeqD : PyData → Bool
  | .list _ => true | .tuple _ => true | _ => false
def itemsD : PyData → List PyData
  | .list ds => ds | .tuple ds => ds | _ => []
def isVecD (n : Int) (d : PyData) : Bool := isSeqD d && (decide (((itemsD d).length : Int) = n) && (itemsD d).all isIntD)
def isMatD (h w : Int) (d : PyData) : Bool := isSeqD d && (decide (((itemsD d).length : Int) = h) && (itemsD d).all (isVecD w))
/-- not too long, the ints not too great -/
structure Fit1 (d : PyData) : Prop where
  len : (itemsD d).length ≤ 1000
  sm : ∀ n, PyData.int n ∈ itemsD d → n.natAbs.log2 < 400
structure Fit (d : PyData) : Prop where
  top : Fit1 d
  sub : ∀ e, e ∈ itemsD d → Fit1 e
section
variable {K : PySem.W.Frag} {H H' : Hp} {v : V} {d : PyData} {xs : List V} {ds : List PyData}
theorem kit_seq (d : PyData) : PySem.W.kitAny K (.type (kindS d)) [.type "list", .type "tuple"] = some (isSeqD d) := by
  have z : PySem.W.kitAny K (.type (kindS d)) [] = some false := rfl
  have l0 : ∀ a, kitB a "list" = some false → kitB a "tuple" = some false → PySem.W.kitAny K (.type a) [.type "list", .type "tuple"] = some false := fun a p q =>
    kitAny_cons (b := false) (kit_ty p) (fun _ => kitAny_cons (b := false) (kit_ty q) (fun _ => z) (fun e => by cases e)) (fun e => by cases e)
  cases d with
  | none => exact l0 "NoneType" (by decide +kernel) (by decide +kernel)
  | bool b => exact l0 "bool" (by decide +kernel) (by decide +kernel)
  | int b => exact l0 "int" (by decide +kernel) (by decide +kernel)
  | str b => exact l0 "str" (by decide +kernel) (by decide +kernel)
  | dict b => exact l0 "dict" (by decide +kernel) (by decide +kernel)
  | list b => exact kitAny_cons (b := true) (kit_ty (show kitB "list" "list" = some true by decide +kernel)) (fun e => by cases e) (fun _ => rfl)
  | tuple b => exact kitAny_cons (b := false) (kit_ty (show kitB "tuple" "list" = some false by decide +kernel)) (fun _ => kitAny_cons (b := true) (kit_ty (show kitB "tuple" "tuple" = some true by decide +kernel)) (fun e => by cases e) (fun _ => rfl)) (fun e => by cases e)
theorem anyL_len : ∀ {xs : List V} {ds : List PyData}, AnyL H xs ds → xs.length = ds.length
  | _, _, .nil => rfl
  | _, _, .cons _ b => congrArg (· + 1) (anyL_len b)
theorem anyL_at : ∀ {xs : List V} {ds : List PyData} {i : Nat} {x : V}, AnyL H xs ds → xs[i]? = some x → ∃ d, ds[i]? = some d ∧ Any H x d
  | _, _, i, x, .nil, h => by simp at h
  | _, _, 0, x, .cons a _, h => by
    cases h
    exact ⟨_, rfl, a⟩
  | _, _, i + 1, x, .cons _ b, h => by
    obtain ⟨d, h1, h2⟩ := anyL_at (i := i) b (by simpa using h)
    exact ⟨d, by simpa using h1, h2⟩
theorem anyL_of : ∀ {xs : List V} {ds : List PyData} {i : Nat} {d : PyData}, AnyL H xs ds → ds[i]? = some d → ∃ x, xs[i]? = some x ∧ Any H x d
  | _, _, i, x, .nil, h => by simp at h
  | _, _, 0, x, .cons a _, h => by
    cases h
    exact ⟨_, rfl, a⟩
  | _, _, i + 1, x, .cons _ b, h => by
    obtain ⟨d, h1, h2⟩ := anyL_of (i := i) b (by simpa using h)
    exact ⟨d, by simpa using h1, h2⟩
theorem anyL_keep (k : Same H H') (h : AnyL H xs ds) : AnyL H' xs ds := any_keepL k ds xs h
theorem anyL_snoc : ∀ {xs : List V} {ds : List PyData} {x : V} {d : PyData}, AnyL H xs ds → Any H x d → AnyL H (xs ++ [x]) (ds ++ [d])
  | _, _, _, _, .nil, b => .cons b .nil
  | _, _, _, _, .cons a r, b => .cons a (anyL_snoc r b)
theorem anyL_ints : ∀ {ns : List Int} {xs : List V}, AnyL H xs (ns.map .int) → xs = ns.map V.int
  | [], _, h => by
    cases h
    rfl
  | n :: ns, _, h => by
    cases h with
    | cons a b =>
      cases a
      rw [anyL_ints b] <;> rfl
theorem anyL_bools : ∀ {ns : List Bool} {xs : List V}, AnyL H xs (ns.map .bool) → xs = ns.map V.bl
  | [], _, h => by
    cases h
    rfl
  | n :: ns, _, h => by
    cases h with
    | cons a b =>
      cases a
      rw [anyL_bools b] <;> rfl
theorem anyL_flags {g : PyData → Bool} {ds : List PyData} {xs : List V} (h : AnyL H xs (ds.map fun d => PyData.bool (g d))) : xs = (ds.map g).map V.bl := by
  refine anyL_bools (H := H) ?_
  rw [List.map_map]
  exact h
theorem ints_anyL : ∀ (ns : List Int), AnyL H (ns.map V.int) (ns.map .int)
  | [] => .nil
  | n :: ns => .cons (.int n) (ints_anyL ns)
/-- data that is a list or a tuple, with its items -/
theorem seq_of (h : Any H v d) (e : isSeqD d = true) : ∃ (k : Bool) (a : Addr) (xs : List V), v = .ref a ∧ (∀ {H' : Hp}, Same H H' → ∀ K, SqB K H' k a xs) ∧ AnyL H xs (itemsD d) := by
  cases h with
  | lst ea ha => exact ⟨true, _, _, rfl, fun k K => SqL.of (k _ _ ea), ha⟩
  | tup ea ha => exact ⟨false, _, _, rfl, fun k K => SqT.of (k _ _ ea), ha⟩
  | _ => cases e
theorem SqB.or {k : Bool} {a : Addr} (h : SqB K H k a xs) : SqL K H a xs ∨ SqT K H a xs := by
  cases k with
  | true => exact .inl h
  | false => exact .inr h
theorem vec_ints : ∀ {ds : List PyData}, ds.all isIntD = true → ∃ ns : List Int, ds = ns.map .int
  | [], _ => ⟨[], rfl⟩
  | d :: ds, h => by
    simp only [List.all_cons, Bool.and_eq_true] at h
    obtain ⟨ns, e⟩ := vec_ints h.2
    cases d with
    | int n => exact ⟨n :: ns, by rw [e] <;> rfl⟩
    | _ => cases h.1
end

/-! ### walks -/
def ItS (K : PySem.W.Frag) : Bool → Addr → It
  | true, a => Itl K a
  | false, a => Itt K a
def iSeq (K : PySem.W.Frag) (tl : TE) : TI := fun σ H R => tl σ H fun x H1 => ∃ a k xs, x = .ref a ∧ SqB K H1 k a xs ∧ R (ItS K k a) H1
theorem pi_seq {X : Cx} {tg l : Expr} {tl : TE} (hl : PE X l tl) : PI X tg l (iSeq X.K tl) := by
  refine ⟨fun pins s σ H R I h => ?_⟩
  refine thn (hl.run pins s σ H _ I h) fun v s1 ⟨x, H1, I1, r1, q1⟩ => ?_
  obtain ⟨a, k, xs, e, hq, q⟩ := q1
  subst e
  cases r1
  cases k with
  | true =>
    obtain ⟨its, rv, p, hz⟩ := I1.list hq
    refine wpAny_pyIter_list p.isList ?_
    refine ⟨s1.heap.objs.size, [s1.heap.objs.size], _, _, H1, rfl, I1.kept (t' := s1.toks) fun b o e => Heap.get?_push_of_some _ e, turn_list a _, ⟨_, Heap.get?_push_size _ rfl, rfl, rfl⟩, fun b hb => ?_, q⟩
    have e : b = s1.heap.objs.size := by simpa using hb
    subst e
    exact I1.fpOk (Nat.le_refl _) (I1.hok.fresh (Nat.le_refl _))
  | false =>
    obtain ⟨its, rv, p, hz⟩ := I1.tuple hq
    refine wpAny_pyIter_tuple (show s1.heap.IsTuple a its.toArray from p) ?_
    refine ⟨s1.heap.objs.size, [s1.heap.objs.size], _, _, H1, rfl, I1.kept (t' := s1.toks) fun b o e => Heap.get?_push_of_some _ e, turn_tuple a _, ⟨_, Heap.get?_push_size _ rfl, rfl, rfl⟩, fun b hb => ?_, q⟩
    have e : b = s1.heap.objs.size := by simpa using hb
    subst e
    exact I1.fpOk (Nat.le_refl _) (I1.hok.fresh (Nat.le_refl _))
section
variable {K : PySem.W.Frag} {k : Bool} {a : Addr} {xs : List V}
theorem walk_seq : Walk (ItS K k a) xs.length (fun H => SqB K H k a xs) (fun i H x H' => H' = H ∧ xs[i]? = some x) := by
  cases k with
  | true => exact walk_list
  | false => exact walk_tup
theorem walk_rng {n : Nat} : Walk (Itr 0 n) n (fun _ => True) (fun i H x H' => H' = H ∧ x = .int (i : Int)) :=
  walk_range.mono (fun _ z => z) fun i H x H' _ _ y => ⟨y.1, by
    have e := y.2
    simpa using e⟩
theorem walk_zipB {k1 k2 : Bool} {a b : Addr} {xs ys : List V} {n : Nat} (h1 : xs.length = n) (h2 : ys.length = n) : Walk (ItB K k1 k2 a b) n (fun H => SqB K H k1 a xs ∧ SqB K H k2 b ys) (YPair (fun i => xs[i]?) (fun i => ys[i]?)) := by
  refine ⟨fun i H hi q => ?_, fun H q => ⟨xs, ys, q.1, q.2, by omega, by omega, .inl h1⟩, fun i H v H' _ q y => ?_⟩
  · have g1 : i < xs.length := by omega
    have g2 : i < ys.length := by omega
    exact ⟨xs, ys, xs[i], ys[i], q.1, q.2, by simp [g1], by simp [g2]⟩
  · obtain ⟨T, x, z, h1, h2, h3, h4, h5⟩ := y
    exact ⟨T, x, z, h1, h2, h3, h4 xs q.1, h5 ys q.2⟩
end
theorem del_upd {H : Hp} {D : Addr} {o : HO} : del (upd H D o) D = del H D := by
  funext c
  by_cases e : c = D
  · rw [e, del_same, del_same]
  · rw [del_ne e, del_ne e, upd_ne e]
/-- new data of each turn, nothing else changed -/
theorem lc_same {J : It} {n : Nat} {G : Hp → Prop} {P : Nat → V → Prop} (w : Walk J n G (fun i H x H' => H' = H ∧ P i x)) {j : Nat} {σ : L2.St} {vs : List Nat} {te : TE} {H1 : Hp} {D : Addr} {Q : Hp → Prop} (hn : n ≤ 1000) (hD : H1 D = none) (hG : ∀ H, Same H1 H → G H) (f : Nat → PyData)
    (hs : ∀ i x H, i < n → P i x → Same H1 H → (∃ o, H D = some o) → wipe ((wipe σ vs).set j (some x)) vs = wipe σ vs ∧ ∀ k : VK, (∀ y H', Same H H' → Any (del H' D) y (f i) → k y H') → te ((wipe σ vs).set j (some x)) H k)
    (hq : ∀ H acc, Same H1 H → H D = some (.lst acc) → AnyL (del H D) acc ((List.range n).map f) → Q H) :
    ∃ W : Nat → Nat → Hp → Prop, (∃ m, W 0 m (upd H1 D (.lst []))) ∧ ∀ i m H, W i m H →
      (J.stop i H ∧ Q H) ∨ (J.go i H ∧ ∃ Nx : Hp → Prop, (∀ H', Nx H' → ∃ m', m' < m ∧ W (i + 1) m' H') ∧ ∀ x H', J.yld i H x H' → gName j x (wipe σ vs) H' fun σ2 H2 => wipe σ2 vs = wipe σ vs ∧ tYes σ2 H2 fun b H3 =>
        if b = true then te σ2 H3 fun y H4 => ∃ acc, H4 D = some (.lst acc) ∧ acc.length < sizeLine ∧ Nx (upd H4 D (.lst (acc ++ [y]))) else Nx H3) := by
  refine lc_it w (Qd := Q) (Pv := fun i H => Same H1 H ∧ ∃ acc, H D = some (.lst acc) ∧ acc.length = i ∧ AnyL (del H D) acc ((List.range i).map f)) ⟨same_new hD, [], upd_same, rfl, .nil⟩ (fun i H _ h => hG H h.1) ?_ ?_
  · rintro i x H H' hi ⟨s1, acc, ha, hl, an⟩ ⟨rfl, hp⟩
    obtain ⟨e1, e2⟩ := hs i x H' hi hp s1 ⟨_, ha⟩
    refine ⟨e1, ?_⟩
    show te _ _ _
    refine e2 _ fun y H4 s2 hy => ?_
    refine ⟨acc, s2 _ _ ha, Nat.lt_of_lt_of_le (by omega : acc.length < 1000) (by decide), ?_, acc ++ [y], upd_same, by rw [List.length_append, hl] <;> rfl, ?_⟩
    · intro b o e
      have ne : b ≠ D := ne_of_none e hD
      rw [upd_ne ne]
      exact s2 _ _ (s1 _ _ e)
    · rw [del_upd, List.range_succ, List.map_append]
      exact anyL_snoc (anyL_keep (Grow.del (Grow.of s2)) an) hy
  · rintro H ⟨s1, acc, ha, hl, an⟩
    exact hq H acc s1 ha an
theorem map_get {α β : Type} (g : α → β) (dd : α) : ∀ l : List α, (List.range l.length).map (fun i => g (l[i]?.getD dd)) = l.map g := by
  intro l
  apply List.ext_getElem
  · simp
  · intro i h1 h2
    simp at h1 h2
    simp [h1]
end Rw

set_option Elab.async false
set_option linter.all false
set_option maxRecDepth 100000
set_option maxHeartbeats 4000000
/-! TkQ: enumerate of a list or a tuple. -/
namespace Rw
open PySem PySem.Spec PyProof.Rows L2

set_option maxHeartbeats 1000000 in
theorem meets_enum_new1 {v : Value} {o : Obj} {H : Heap → Prop} (B : Begins v o H) :
    Meets (Builtin.«enumerate.__new__» ⟨[.type "enumerate", v], []⟩) (fun _ R s => H s.heap ∧
      R (.ok (.ret (.ref (s.heap.push o).objs.size))) { s with heap := (s.heap.push o).push { cls := .type "enumerate", data := .fields #[.none, .bool false, .ref s.heap.objs.size, rawInt 0, .none, .none] } }) :=
  .of_wp fun prog w A R s h => by
    obtain ⟨hp, g, d, tk, os⟩ := s; obtain ⟨h1, h⟩ := h
    have hsub := sub_enumerate
    have q1 : ∀ {A' : Around} {E : Value → Shared → Prop} {Q : Value → Shared → Prop}, Q (.ref hp.objs.size) ⟨hp.push o, g, d, tk, os⟩ → wpAny (model prog w) A' (pyIter v) Q E ⟨hp, g, d, tk, os⟩ :=
      fun q => B.iter prog w _ _ ⟨hp, g, d, tk, os⟩ _ h1 q
    wp_walk using q1
    refine wpAny_stack_any fun st => wpAny_pure ?_
    split
    · rename_i c _ _ _ _ _
      cases (c == Value.type "enumerate")
      · wp_walk using q1
        exact ⟨_, rfl, h⟩
      · wp_walk using q1
        exact ⟨_, rfl, h⟩
    · wp_walk using q1
      exact ⟨_, rfl, h⟩
section
variable {prog : Program} {w : World} {A : Around} {E : Value → Shared → Prop} {s : Shared}
theorem call_enum1 {v : Value} {o : Obj} {H : Heap → Prop} {Q : Value → Shared → Prop} (B : Begins v o H) (h1 : H s.heap)
    (h : ∀ h', IsEnum h' (s.heap.objs.size + 1) s.heap.objs.size 0 .none → h'.get? s.heap.objs.size = some o → h'.objs.size = s.heap.objs.size + 2 →
      (∀ b o, s.heap.get? b = some o → h'.get? b = some o) → Q (.ref (s.heap.objs.size + 1)) { s with heap := h' }) :
    wpAny (model prog w) A (call (.type "enumerate") [v]) Q E s := by
  refine callType_new F.called_enumerate (by decide) (F.typeCall_enumerate_1 _) (F.newCall_enumerate_1 _) (fun obj => F.args_object_init_2 obj _) F.entry_enumerate_new
    (meets_enum_new1 B) ⟨h1, ?_⟩
  have hz : (s.heap.push o).objs.size = s.heap.objs.size + 1 := Heap.size_push ..
  show _ ∧ _
  rw [hz]
  have he : IsEnum ((s.heap.push o).push { cls := .type "enumerate", data := .fields #[.none, .bool false, .ref s.heap.objs.size, rawInt 0, .none, .none] }) (s.heap.objs.size + 1) s.heap.objs.size 0 .none := by
    have := Heap.get?_push_size (s.heap.push o) (o := { cls := .type "enumerate", data := .fields #[.none, .bool false, .ref s.heap.objs.size, rawInt 0, .none, .none] }) rfl
    rw [hz] at this; exact this
  refine ⟨⟨_, he, rfl⟩, h _ he (Heap.get?_push_of_some _ (Heap.get?_push_size _ B.free)) (by rw [Heap.size_push, hz]) fun b o x => Heap.get?_push_of_some _ (Heap.get?_push_of_some _ x)⟩
end
def itObjB (k : Bool) (a : Addr) : Obj := { cls := .type (nmB k), data := .fields #[.ref a, .int 0 0] }
theorem begins_B (k : Bool) (a : Addr) (items : Array Value) : Begins (.ref a) (itObjB k a) fun h => sqB h k a items := by
  cases k with
  | true => exact begins_list a items
  | false => exact begins_tuple a items

/-- the list or tuple at a as it stands at each turn, each item in a new pair -/
def ItEB (K : PySem.W.Frag) (k : Bool) (a : Addr) : It :=
  ⟨fun i H => ∃ (xs : List V) (x : V), SqB K H k a xs ∧ xs[i]? = some x, fun i H v H' => ∃ T x, v = .ref T ∧ H T = none ∧ H' = upd H T (.tup [.int (i : Nat), x]) ∧ ∀ xs, SqB K H k a xs → xs[i]? = some x, fun i H => ∃ xs : List V, SqB K H k a xs ∧ xs.length = i⟩
theorem turn_enumB {P : Program} {w : World} {K : PySem.W.Frag} {k : Bool} {elts : List Expr} {kk : Nat} {tpos : Pos} (a e it : Addr) :
    Turn P w K (.Tuple elts kk tpos) (ItEB K k a) [e, it] e (fun i h => (∃ old, IsEnum h e it ((i : Nat) : Int) old) ∧ itB h k it a i ∧ e ≠ it ∧ a ≠ it ∧ e ≠ a) where
  mem := by simp
  obj := fun i h st b hb => by
    obtain ⟨⟨old, he⟩, hi, _⟩ := st
    have e' : b = e ∨ b = it := by simpa using hb
    rcases e' with z | z
    · rw [z]; exact ⟨_, he, fun v q => nomatch q⟩
    · rw [z]; exact itB_obj hi
  keep := fun i h h' st k => let ⟨⟨old, he⟩, hi, hne⟩ := st; ⟨⟨old, k e (by simp) _ he⟩, itB_at hi fun o q => k it (by simp) o q, hne⟩
  item := by
    intro X hP hw hK hc i pins s σ H E I hf st hg
    subst hP hw hK
    obtain ⟨⟨old, he⟩, hit, hne, hna, hea⟩ := st
    obtain ⟨xs, x, hq, hx⟩ := hg
    obtain ⟨its, rv, p, _⟩ := sqB_inv I hq
    obtain ⟨u, hu, ru⟩ := rv.get hx
    have hel : e < s.heap.objs.size := Heap.lt_size he
    have hil : it < s.heap.objs.size := by obtain ⟨_, q, _⟩ := itB_obj hit; exact Heap.lt_size q
    have hd : X.A.in1.handled = none := I.ok.hd hc
    have g1 : i < its.toArray.size := by
      have := (List.getElem?_eq_some_iff.mp hu).1
      simpa using this
    have hef : e ∉ [it, a] := by simp; exact ⟨hne, hea⟩
    refine wpAny_pyNext_enum_itemD (drawsB hd k it a hna its.toArray) he ⟨hit, p⟩ g1 hne hef fun x1 h' tk e1 ho hs' hT hsz hk => ?_
    have hx1 : x1 = u := by
      have q : its[i]? = some x1 := by simpa using e1
      rw [hu] at q
      exact (Option.some.inj q).symm
    subst hx1
    refine ⟨_, rfl, wpAny_letOwnedTupleGo_enum (s := { s with heap := h', toks := tk + 1 }) ho fun h'' he' sb => ?_⟩
    have hT2 : h''.get? s.heap.objs.size = some { cls := .type "tuple", data := .seq #[.int i tk, x1] } := (sb.2 _ (Nat.ne_of_gt hel)).trans hT
    have new : ObjOk X.prog X.w (upd H s.heap.objs.size (.tup [.int (i : Nat), x])) h'' s.heap.objs.size (.tup [.int (i : Nat), x]) :=
      ⟨by show 2 ≤ sizeLine; decide, [.int i tk, x1], .cons ⟨_, rfl⟩ (.cons ru .nil), ⟨_, hT2, rfl, _, rfl⟩⟩
    have I1 : Inv X pins σ (upd H s.heap.objs.size (.tup [.int (i : Nat), x])) { s with heap := h'', toks := tk + 1 } :=
      I.turnedNew (t' := tk + 1) (ch := [e, it]) (fun b ob hb q => (sb.2 b (fun z => hb (by simp [z]))).trans (hk b ob (fun z => hb (by simp [z])) (fun z => hb (by simp [z])) q)) hf (Nat.le_refl _) new
    refine ⟨.ref s.heap.objs.size, _, I1, rfl, ⟨_, x, rfl, I.hok.fresh (Nat.le_refl _), rfl, fun ys hy => by rw [sqB_inj I hy hq]; exact hx⟩, ⟨⟨x1, ?_⟩, itB_at hs'.1 fun o q => (sb.2 it (Ne.symm hne)).trans q, hne, hna, hea⟩, fun b hb => ?_⟩
    · have e1 : ((i + 1 : Nat) : Int) = (i : Int) + 1 := by omega
      rw [e1]; exact he'
    · have hb' : b < s.heap.objs.size := by
        have e' : b = e ∨ b = it := by simpa using hb
        rcases e' with z | z
        · rw [z]; exact hel
        · rw [z]; exact hil
      rw [upd_ne (Nat.ne_of_lt hb')]
      exact (hf b hb).1
  done := by
    intro X hP hw hK hc i pins s σ H E I hf st hg
    subst hP hw hK
    obtain ⟨⟨old, he⟩, hit, hne, hna, hea⟩ := st
    obtain ⟨xs, hq, hx⟩ := hg
    obtain ⟨its, rv, p, _⟩ := sqB_inv I hq
    obtain ⟨f0, f1, f2, f3, f4, f5⟩ := hf it (by simp)
    have hl := rv.length
    have hd : X.A.in1.handled = none := I.ok.hd hc
    have z1 : its.toArray.size = its.length := by simp
    have e1 : its.toArray.size = i := by omega
    refine wpAny_pyNext_enum_endD (drawsB hd k it a hna its.toArray) he (by rw [e1]; exact ⟨hit, p⟩) fun h' eb => ⟨rfl, I.turned (t' := s.toks) (fun b o hb q => eb b o hb q) f0 f1 f3 f4 f5⟩
  self := fun A i s Q E st h => let ⟨⟨_, he⟩, _⟩ := st; wpAny_pyIter_enum he h
def iEnumB (K : PySem.W.Frag) (ta : TA) : TI := fun σ H R => ta σ H fun vs H1 => ∃ a k xs, vs = [.ref a] ∧ SqB K H1 k a xs ∧ R (ItEB K k a) H1
theorem pi_enumB {X : Cx} {e : Expr} {ta : TA} {p pos tpos : Pos} {elts : List Expr} {kk : Nat} (hg : Gl X "enumerate") (hm : X.mg "enumerate" = none) (ha : PA X [e] ta) (hs : starEach [e] X.env = [(false, eval e X.env)] := by rfl) :
    PI X (.Tuple elts kk tpos) (.Call (.Name "enumerate" p) [e] [] pos) (iEnumB X.K ta) := by
  refine ⟨fun pins s σ H R I h => ?_⟩
  refine Call_ (ld_blt I hg hm boot_enumerate (PyProof.Rows.callWith_type1 (thn (ha.run pos pins s σ H _ I h) fun us s1 ⟨vs, H1, I1, r1, q1⟩ => ?_) hs rfl))
  obtain ⟨a, k, xs, ex, hq, q⟩ := q1
  subst ex
  cases r1 with
  | cons r rr =>
    cases rr
    cases r
    obtain ⟨its, rv, p', la⟩ := sqB_inv I1 hq
    refine call_enum1 (begins_B k a its.toArray) p' fun h' he hit hsz hk => wpAny_pyIter_enum he ?_
    have I2 : Inv X pins σ H1 { s1 with heap := h' } := I1.kept (t' := s1.toks) hk
    refine ⟨s1.heap.objs.size + 1, [s1.heap.objs.size + 1, s1.heap.objs.size], _, _, H1, rfl, I2, turn_enumB a (s1.heap.objs.size + 1) s1.heap.objs.size, ⟨⟨.none, he⟩, itB_new hit, Nat.succ_ne_self _, Nat.ne_of_lt la, fun z => Nat.lt_irrefl a (Nat.lt_of_lt_of_le la (Nat.le_trans (Nat.le_succ _) (Nat.le_of_eq z)))⟩, fun b hb => ?_, q⟩
    have e' : b = s1.heap.objs.size + 1 ∨ b = s1.heap.objs.size := by simpa using hb
    have hle : s1.heap.objs.size ≤ b := by
      rcases e' with z | z
      · rw [z]; exact Nat.le_add_right _ _
      · rw [z]; exact Nat.le_refl _
    exact I1.fpOk hle (I1.hok.fresh hle)
theorem walk_enumB {K : PySem.W.Frag} {k : Bool} {a : Addr} {xs : List V} : Walk (ItEB K k a) xs.length (fun H => SqB K H k a xs) (YPair (fun i => some (.int (i : Nat))) (fun i => xs[i]?)) := by
  refine ⟨fun i _ hi q => ⟨xs, xs[i], q, by simp [hi]⟩, fun _ q => ⟨xs, q, rfl⟩, fun i H v H' _ q y => ?_⟩
  obtain ⟨T, x, h1, h2, h3, h4⟩ := y
  exact ⟨T, .int (i : Nat), x, h1, h2, h3, rfl, h4 xs q⟩
end Rw

set_option Elab.async false
set_option linter.all false
set_option maxRecDepth 100000
set_option maxHeartbeats 4000000
/-! TkS: written dicts with int keys and with text keys: `in`, `d[k]`. -/
namespace Rw
open PySem PySem.Spec PyProof.Rows L2

inductive IntTab : List DictEntry → List (Int × Value) → Prop
  | nil : IntTab [] []
  | cons {e : DictEntry} {es : List DictEntry} {i : Int} {t : Tok} {v : Value} {kvs : List (Int × Value)} : e.key = .int i t → e.hash = hashInt i → e.val = v → IntTab es kvs → IntTab (e :: es) ((i, v) :: kvs)
inductive TxtTab (P : Params) : List DictEntry → List (Str × Value) → Prop
  | nil : TxtTab P [] []
  | cons {e : DictEntry} {es : List DictEntry} {x : Str} {t : Tok} {v : Value} {kvs : List (Str × Value)} : e.key = .str x t → e.hash = PyData.keyHash P x → e.val = v → TxtTab P es kvs → TxtTab P (e :: es) ((x, v) :: kvs)
def lookI (kvs : List (Int × Value)) (i : Int) : Option Value := (kvs.find? fun q => q.1 == i).map (·.2)
def lookS (kvs : List (Str × Value)) (x : Str) : Option Value := (kvs.find? fun q => q.1 == x).map (·.2)
theorem IntTab.find {es : List DictEntry} {kvs : List (Int × Value)} (T : IntTab es kvs) (i : Int) : findBy Value.isInt es.toArray i = lookI kvs i := by
  unfold findBy lookI
  rw [List.find?_toArray]
  induction T with
  | nil => rfl
  | cons k h v r ih =>
    rename_i e es j t u kvs
    rw [List.find?_cons, List.find?_cons]
    have e1 : Value.isInt i e.key = (j == i) := by rw [k] <;> rfl
    rw [e1]
    cases j == i with
    | true => simp [v]
    | false => exact ih
theorem TxtTab.find {P : Params} {es : List DictEntry} {kvs : List (Str × Value)} (T : TxtTab P es kvs) (x : Str) : findBy Value.isStrOf es.toArray x = lookS kvs x := by
  unfold findBy lookS
  rw [List.find?_toArray]
  induction T with
  | nil => rfl
  | cons k h v r ih =>
    rename_i e es y t u kvs
    rw [List.find?_cons, List.find?_cons]
    have e1 : Value.isStrOf x e.key = (y == x) := by rw [k] <;> rfl
    rw [e1]
    cases y == x with
    | true => simp [v]
    | false => exact ih
theorem IntTab.keys {es : List DictEntry} {kvs : List (Int × Value)} (T : IntTab es kvs) : ∀ e ∈ es, ∃ i t, e.key = .int i t ∧ e.hash = hashInt i := by
  induction T with
  | nil => intro e h; cases h
  | cons k h v r ih =>
    intro e he
    rcases List.mem_cons.mp he with z | z
    · rw [z]; exact ⟨_, _, k, h⟩
    · exact ih e z
theorem TxtTab.keys {P : Params} {es : List DictEntry} {kvs : List (Str × Value)} (T : TxtTab P es kvs) : ∀ e ∈ es, ∃ x t, e.key = .str x t ∧ e.hash = PyData.keyHash P x := by
  induction T with
  | nil => intro e h; cases h
  | cons k h v r ih =>
    intro e he
    rcases List.mem_cons.mp he with z | z
    · rw [z]; exact ⟨_, _, k, h⟩
    · exact ih e z
/-- at d: a written dict with int keys -/
structure TabI (K : PySem.W.Frag) (d : Addr) (kvs : List (Int × Value)) : Prop where
  at_ : ∃ (l : List DictEntry) (n : Nat), K.lookup d = some ⟨.type "dict", none, .dict l.toArray n, #[]⟩ ∧ IntTab l kvs
  low : (d == sysModules) = false
structure TabS (K : PySem.W.Frag) (w : World) (d : Addr) (kvs : List (Str × Value)) : Prop where
  at_ : ∃ (l : List DictEntry) (n : Nat), K.lookup d = some ⟨.type "dict", none, .dict l.toArray n, #[]⟩ ∧ TxtTab w.params l kvs
  low : (d == sysModules) = false
section
variable {X : Cx} {d : Addr} {pins : List (Addr × Obj)} {σ : L2.St} {H : Hp} {s : Shared}
theorem tabI_map {kvs : List (Int × Value)} (T : TabI X.K d kvs) (I : Inv X pins σ H s) : s.heap.MapOf (PySem.intKind X.prog X.w) d (lookI kvs) := by
  obtain ⟨l, n, hl, t⟩ := T.at_
  refine ⟨_, l.toArray, n, I.kIn _ _ hl, ⟨rfl, rfl, rfl⟩, rfl, fun e he => ?_, fun k => t.find k⟩
  obtain ⟨i, tk, e1, e2⟩ := t.keys e (by simpa using he)
  exact ⟨i, by rw [e1]; exact PySem.intKind_is X.prog X.w i tk, e2⟩
theorem tabS_map {kvs : List (Str × Value)} (T : TabS X.K X.w d kvs) (I : Inv X pins σ H s) : s.heap.MapOf (PySem.strKind X.prog X.w) d (lookS kvs) := by
  obtain ⟨l, n, hl, t⟩ := T.at_
  refine ⟨_, l.toArray, n, I.kIn _ _ hl, ⟨rfl, rfl, rfl⟩, rfl, fun e he => ?_, fun k => t.find k⟩
  obtain ⟨i, tk, e1, e2⟩ := t.keys e (by simpa using he)
  exact ⟨i, by rw [e1]; exact PySem.strKind_is X.prog X.w i tk, e2⟩
theorem op_in_ti {kvs : List (Int × Value)} (T : TabI X.K d kvs) : OpR X (compareOp .In) (fun x y H Q => ∃ i, x = .int i ∧ y = .ref d ∧ Q (.bl (lookI kvs i).isSome) H) := by
  intro pins s σ H x y v u Q I rx ry h
  obtain ⟨i, rfl, rfl, q⟩ := h
  obtain ⟨t, rfl⟩ := rx
  cases ry
  exact wpAny_in_of (PySem.intKind_is X.prog X.w i t) T.low (tabI_map T I) ⟨.bl _, H, I.tok _, rfl, q⟩
theorem op_in_ts {kvs : List (Str × Value)} (T : TabS X.K X.w d kvs) : OpR X (compareOp .In) (fun x y H Q => ∃ z, x = .str z ∧ y = .ref d ∧ Q (.bl (lookS kvs z).isSome) H) := by
  intro pins s σ H x y v u Q I rx ry h
  obtain ⟨z, rfl, rfl, q⟩ := h
  obtain ⟨t, rfl⟩ := rx
  cases ry
  exact wpAny_in_of (PySem.strKind_is X.prog X.w z t) T.low (tabS_map T I) ⟨.bl _, H, I.tok _, rfl, q⟩
theorem ix_ti {kvs : List (Int × Value)} (T : TabI X.K d kvs) : IxR X (fun x y H Q => ∃ i u v, x = .ref d ∧ y = .int i ∧ lookI kvs i = some u ∧ RelV v u ∧ Q v H) := by
  intro value slice pins s σ H x y v u Q I rx ry h hs
  obtain ⟨i, u0, r, rfl, rfl, e, ru, q⟩ := h
  obtain rfl : v = Value.ref d := rx
  obtain ⟨t, rfl⟩ := ry
  have hm := tabI_map T I
  exact tail_any hm.typeIs slot_dict_getitem.lookup (wpAny_getItem_of (PySem.intKind_is X.prog X.w i t) hm e ⟨r, H, I.tok _, ru, q⟩) hs
theorem ix_ts {kvs : List (Str × Value)} (T : TabS X.K X.w d kvs) : IxR X (fun x y H Q => ∃ z u v, x = .ref d ∧ y = .str z ∧ lookS kvs z = some u ∧ RelV v u ∧ Q v H) := by
  intro value slice pins s σ H x y v u Q I rx ry h hs
  obtain ⟨z, u0, r, rfl, rfl, e, ru, q⟩ := h
  obtain rfl : v = Value.ref d := rx
  obtain ⟨t, rfl⟩ := ry
  have hm := tabS_map T I
  exact tail_any hm.typeIs slot_dict_getitem.lookup (wpAny_getItem_of (PySem.strKind_is X.prog X.w z t) hm e ⟨r, H, I.tok _, ru, q⟩) hs
end
/-! the tables of this program -/
theorem prime_tab {us : List Value} {v1 v2 v3 v4 v5 v6 : Value} (i : Int) : (lookI [(2, v1), (3, v2), (5, v3), (7, v4), (11, v5), (13, v6)] i).isSome = decide (i ∈ primesL) := by
  unfold lookI primesL
  by_cases h : i ∈ ([2, 3, 5, 7, 11, 13] : List Int)
  · rw [decide_eq_true h]
    simp only [List.mem_cons, List.not_mem_nil, or_false] at h
    rcases h with e | e | e | e | e | e <;> subst e <;> rfl
  · rw [decide_eq_false h]
    simp only [List.mem_cons, List.not_mem_nil, or_false, not_or] at h
    obtain ⟨a, b, c, d, e, f⟩ := h
    have z : ∀ j : Int, ¬ i = j → (j == i) = false := fun j q => by simp; exact fun y => q y.symm
    simp [List.find?, z 2 a, z 3 b, z 5 c, z 7 d, z 11 e, z 13 f]
def isArr (c : Nat) : Bool := c == 62 || c == 60
theorem arr_tab {v1 v2 : Value} (c : Nat) : (lookS [(">", v1), ("<", v2)] ⟨#[c]⟩).isSome = isArr c := by
  unfold lookS isArr
  by_cases h1 : c = 62
  · subst h1; rfl
  · by_cases h2 : c = 60
    · subst h2; rfl
    · have z1 : ((">" : Str) == (⟨#[c]⟩ : Str)) = false := by
        refine beq_eq_false_iff_ne.mpr fun e => h1 ?_
        have := congrArg (fun x : Str => x.cps[0]?) e
        exact (Option.some.inj this).symm
      have z2 : (("<" : Str) == (⟨#[c]⟩ : Str)) = false := by
        refine beq_eq_false_iff_ne.mpr fun e => h2 ?_
        have := congrArg (fun x : Str => x.cps[0]?) e
        exact (Option.some.inj this).symm
      simp [List.find?, z1, z2, h1, h2]
end Rw

set_option Elab.async false
set_option linter.all false
set_option maxRecDepth 100000
set_option maxHeartbeats 4000000
/-! TkBA: what stands behind the top: methods of a class, written tables, ints, defs with two defaults. -/
namespace Rw
open PySem PySem.Spec PyProof.Rows L2
def MethHere (K : PySem.W.Frag) (C : Addr) (x q : Str) (st : Stmt) : Prop := ∃ f : Addr, PySem.W.findIn K (.ref C) x = some (some (.ref f)) ∧ PySem.W.isFn K (.ref f) = true ∧ DefAt K x q st f
def TabIHere (K : PySem.W.Frag) (x : Str) (d : Addr) (kvs : List (Int × Value)) : Prop := PySem.W.nsIn K mainGlobals x = some (some (.ref d)) ∧ TabI K d kvs
def TabSHere (K : PySem.W.Frag) (w : World) (x : Str) (d : Addr) (kvs : List (Str × Value)) : Prop := PySem.W.nsIn K mainGlobals x = some (some (.ref d)) ∧ TabS K w d kvs
section
variable {K : PySem.W.Frag} {mg : Str → Option Value} {h : Heap}
theorem MethHere.of {C : Addr} {x q : Str} {st : Stmt} {f : Addr} {oc : Value} {od : Option Addr} {kV dc pm : Value} {an : Option Addr} {cd ct : Value} {sl : Array (Option Value)} (g : PySem.W.findIn K (.ref C) x = some (some (.ref f))) (fn : PySem.W.isFn K (.ref f) = true)
    (l : K.lookup f = some ⟨oc, od, .func (PySem.W.fnOf x q (defArgs st) (defBody st) (defScope st) .none kV dc pm an cd ct), sl⟩) (c : PySem.W.codeIn K cd q = true) (k : PySem.W.keepIn K (.ref f) = true) : MethHere K C x q st :=
  ⟨f, g, fn, oc, od, kV, dc, pm, an, cd, ct, sl, l, c, k⟩
theorem TabIHere.of {x : Str} {d : Addr} {kvs : List (Int × Value)} {l : List DictEntry} {n : Nat} (g : PySem.W.nsIn K mainGlobals x = some (some (.ref d))) (k : K.lookup d = some ⟨.type "dict", none, .dict l.toArray n, #[]⟩) (t : IntTab l kvs) (z : (d == sysModules) = false) : TabIHere K x d kvs :=
  ⟨g, ⟨⟨l, n, k, t⟩, z⟩⟩
theorem TabSHere.of {w : World} {x : Str} {d : Addr} {kvs : List (Str × Value)} {l : List DictEntry} {n : Nat} (g : PySem.W.nsIn K mainGlobals x = some (some (.ref d))) (k : K.lookup d = some ⟨.type "dict", none, .dict l.toArray n, #[]⟩) (t : TxtTab w.params l kvs) (z : (d == sysModules) = false) : TabSHere K w x d kvs :=
  ⟨g, ⟨⟨l, n, k, t⟩, z⟩⟩
theorem MethHere.mt {C : Addr} {x q : Str} {st : Stmt} {ps : List Str} (D : MethHere K C x q st)
    (b : ∀ (kV doc pm : Value) (an : Option Addr) (cdv ct : Value) (us : List Value), us.length = ps.length → bindArgs (PySem.W.fnOf x q (defArgs st) (defBody st) (defScope st) .none kV doc pm an cdv ct) ⟨us, []⟩ = pure (ps.zip us)) :
    ∃ (f : Addr) (fd : FuncData), PySem.W.findIn K (.ref C) x = some (some (.ref f)) ∧ PySem.W.isFn K (.ref f) = true ∧ PySem.W.keepIn K (.ref f) = true ∧ Fun K x q st f fd ∧ Binds K fd ps [] := by
  obtain ⟨f, g, fn, oc, od, kV, dc, pm, an, cd, ct, sl, l, c, k⟩ := D
  have F := fun_mk (x := x) (qual := q) (st := st) l c k
  exact ⟨f, _, g, fn, k, F, F.binds b⟩
end
/-- a def with two defaults None, called with all three -/
theorem DflHere.own3 {l : PySem.Program} {w : World} {K : PySem.W.Frag} {mg : Str → Option Value} {base h : Heap} {x p1 p2 p3 : Str} {st : Stmt} {CX : CXT} {k : Nat} {sp : Sp} (D : DflHere K x st [.none, .none]) (X : K.In h) (G : h.Ns mainGlobals mg)
    (b : ∀ (T : Addr) (kV doc pm : Value) (an : Option Addr) (cdv ct : Value) (us its : List Value), us.length = 3 → its.length = 2 →
      ∃ g, bindArgs (PySem.W.fnOf x x (defArgs st) (defBody st) (defScope st) (.ref T) kV doc pm an cdv ct) ⟨us, []⟩ = seqItems? (.ref T) >>= g ∧ g (some its.toArray) = pure (([p1, p2, p3] : List Str).zip (us ++ its.drop 2)))
    (ok : ∀ (f : Addr) (fd : FuncData), FunD K x x (defArgs st) (defBody st) (defScope st) [.non, .non] [] f fd → FnOk l w K mg base CX k f fd [p1, p2, p3] sp) : Own l w K mg base CX k x [p1, p2, p3] [] sp := by
  obtain ⟨f, T', oc, od, kV, dc, pm, an, cd, ct, sl, tc, td, n, ts, g, l', c', k', lT⟩ := D
  have F : FunD K x x (defArgs st) (defBody st) (defScope st) [.non, .non] [] f _ := ⟨⟨oc, od, _, kV, dc, pm, an, cd, ct, sl, rfl, l', c', .inr ⟨by simp, T', _, [.none, .none], n, rfl, lT, rfl, .cons rfl (.cons rfl .nil)⟩, .inl rfl⟩, k'⟩
  obtain ⟨ds, v, bb⟩ := F.binds1 (ps := [p1, p2, p3]) 3 2 (by simp) rfl b
  exact ⟨f, _, ds, PySem.W.mg_of X G g, k', ok f _ F, bb, v⟩
end Rw

set_option Elab.async false
set_option linter.all false
set_option maxRecDepth 100000
set_option maxHeartbeats 4000000
/-! TkBB: the written table of inverses. -/
namespace Rw
open PySem PySem.Spec PyProof.Rows L2
def invL (p : Int) : List Int :=
  if p = 2 then [0, 1] else if p = 3 then [0, 1, 2] else if p = 5 then [0, 1, 3, 2, 4] else if p = 7 then [0, 1, 4, 5, 2, 3, 6]
  else if p = 11 then [0, 1, 6, 4, 3, 9, 2, 8, 7, 5, 10] else [0, 1, 7, 9, 10, 8, 11, 2, 5, 3, 4, 6, 12]
/-- for each prime the tuple of the inverses stands in the table -/
structure TabInv (K : PySem.W.Frag) (kI : List (Int × Value)) : Prop where
  at_ : ∀ p, p ∈ primesL → ∃ a, lookI kI p = some (.ref a) ∧ ∀ H : Hp, SqT K H a ((invL p).map V.int)
theorem invL_ok : ∀ p, p ∈ primesL → ∀ j : Nat, j < p.toNat → 0 < j → ∃ r : Int, (invL p)[j]? = some r ∧ 0 < r ∧ r < p ∧ (r * j) % p = 1 := by
  intro p hp
  have h : ∀ p, p ∈ primesL → ∀ j : Nat, j < p.toNat → 0 < j → (match (invL p)[j]? with | some r => decide (0 < r) && decide (r < p) && decide ((r * j) % p = 1) | none => false) = true := by decide +kernel
  intro j h1 h2
  have := h p hp j h1 h2
  cases e : (invL p)[j]? with
  | none => rw [e] at this; cases this
  | some r =>
    rw [e] at this
    simp only [Bool.and_eq_true, decide_eq_true_iff] at this
    exact ⟨r, rfl, this.1.1, this.1.2, this.2⟩
def TupHere (K : PySem.W.Frag) (a : Addr) (us : List Value) : Prop := ∃ (dd : Option Addr) (n : Nat) (sl : Array (Option Value)), K.lookup a = some ⟨.type "tuple", dd, .seq us.toArray n, sl⟩
section
variable {K : PySem.W.Frag}
theorem TupHere.of {a : Addr} {us : List Value} {dd : Option Addr} {n : Nat} {sl : Array (Option Value)} (l : K.lookup a = some ⟨.type "tuple", dd, .seq us.toArray n, sl⟩) : TupHere K a us := ⟨dd, n, sl, l⟩
theorem TupHere.sq {a : Addr} {us : List Value} {xs : List V} (E : TupHere K a us) (r : Vals xs us) (z : xs.length ≤ sizeLine) (H : Hp) : SqT K H a xs := by
  obtain ⟨dd, n, sl, l⟩ := E
  exact Or.inr ⟨_, us.toArray, n, l, rfl, rfl, by rw [r.length] at z; simpa using z, by simpa using r⟩
/-- the written table with its tuples -/
structure InvHere (K : PySem.W.Frag) (x : Str) (aI a2 a3 a5 a7 a11 a13 : Addr) (u2 u3 u5 u7 u11 u13 : List Value) : Prop where
  t : TabIHere K x aI [(2, .ref a2), (3, .ref a3), (5, .ref a5), (7, .ref a7), (11, .ref a11), (13, .ref a13)]
  k2 : TupHere K a2 u2
  k3 : TupHere K a3 u3
  k5 : TupHere K a5 u5
  k7 : TupHere K a7 u7
  k11 : TupHere K a11 u11
  k13 : TupHere K a13 u13
  v2 : Vals ((invL 2).map V.int) u2
  v3 : Vals ((invL 3).map V.int) u3
  v5 : Vals ((invL 5).map V.int) u5
  v7 : Vals ((invL 7).map V.int) u7
  v11 : Vals ((invL 11).map V.int) u11
  v13 : Vals ((invL 13).map V.int) u13
theorem InvHere.tab {x : Str} {aI a2 a3 a5 a7 a11 a13 : Addr} {u2 u3 u5 u7 u11 u13 : List Value} (E : InvHere K x aI a2 a3 a5 a7 a11 a13 u2 u3 u5 u7 u11 u13) : TabInv K [(2, .ref a2), (3, .ref a3), (5, .ref a5), (7, .ref a7), (11, .ref a11), (13, .ref a13)] := by
  refine ⟨fun p hp => ?_⟩
  simp only [primesL, List.mem_cons, List.not_mem_nil, or_false] at hp
  rcases hp with z | z | z | z | z | z <;> subst z
  · exact ⟨a2, rfl, E.k2.sq E.v2 (by decide)⟩
  · exact ⟨a3, rfl, E.k3.sq E.v3 (by decide)⟩
  · exact ⟨a5, rfl, E.k5.sq E.v5 (by decide)⟩
  · exact ⟨a7, rfl, E.k7.sq E.v7 (by decide)⟩
  · exact ⟨a11, rfl, E.k11.sq E.v11 (by decide)⟩
  · exact ⟨a13, rfl, E.k13.sq E.v13 (by decide)⟩
end
end Rw

set_option Elab.async false
set_option linter.all false
set_option maxRecDepth 100000
set_option maxHeartbeats 4000000
/-! K3A: the program's looks at numbers, vectors, matrices. -/
namespace K3
open PySem PySem.Spec PyProof.Rows L2 Rw
def top (i : Nat) : Stmt := PySem.Challenge.pw_maprows_k03_vectors_led_by_matrices.main.body.getD i (.Pass ⟨0, 0, 0, 0⟩)
abbrev sNum : Stmt := top 7
abbrev sPrime : Stmt := top 8
abbrev sCheck : Stmt := top 9
abbrev sList : Stmt := top 10
abbrev sVec : Stmt := top 11
abbrev sMat : Stmt := top 12
abbrev sWid : Stmt := top 13
theorem scNum : FnScope ["value"] ["value"] (defScope sNum) := ⟨rfl, rfl, rfl, by decide +kernel, rfl, by decide +kernel, by decide +kernel⟩
theorem scPrime : FnScope ["value"] ["value"] (defScope sPrime) := ⟨rfl, rfl, rfl, by decide +kernel, rfl, by decide +kernel, by decide +kernel⟩
theorem scCheck : FnScope ["prime"] ["prime"] (defScope sCheck) := ⟨rfl, rfl, rfl, by decide +kernel, rfl, by decide +kernel, by decide +kernel⟩
theorem scList : FnScope ["value"] ["value"] (defScope sList) := ⟨rfl, rfl, rfl, by decide +kernel, rfl, by decide +kernel, by decide +kernel⟩
theorem scVec : FnScope ["value", "length", "item"] ["value", "length"] (defScope sVec) := ⟨rfl, rfl, rfl, by decide +kernel, rfl, by decide +kernel, by decide +kernel⟩
theorem scMat : FnScope ["value", "height", "width", "row"] ["value", "height", "width"] (defScope sMat) := ⟨rfl, rfl, rfl, by decide +kernel, rfl, by decide +kernel, by decide +kernel⟩
theorem scWid : FnScope ["value", "width"] ["value", "width"] (defScope sWid) := ⟨rfl, rfl, rfl, by decide +kernel, rfl, by decide +kernel, by decide +kernel⟩

/-- what the top has left for the program's defs -/
structure Txt (K : PySem.W.Frag) (w : World) (mg : Str → Option Value) (aI CP CV CM : Addr) (kI : List (Int × Value)) : Prop where
  isi : mg "isinstance" = none
  int : mg "int" = none
  bool : mg "bool" = none
  list : mg "list" = none
  tuple : mg "tuple" = none
  len : mg "len" = none
  all : mg "all" = none
  sum : mg "sum" = none
  zip : mg "zip" = none
  range : mg "range" = none
  gI : mg "INVERSES" = some (.ref aI)
  tI : TabI K aI kI
  hI : ∀ i, (lookI kI i).isSome = decide (i ∈ primesL)
  eP : Err K mg "InvalidPrime" CP
  eV : Err K mg "InvalidVector" CV
  eM : Err K mg "InvalidMatrix" CM
end K3
namespace Rw
open PySem PySem.Spec PyProof.Rows L2
/-! ### the promises -/
def spNum : Sp := fun vs H Q _ => ∃ v d, vs = [v] ∧ Any H v d ∧ Q (.bl (isIntD d)) H
def spPrime : Sp := fun vs H Q _ => ∃ v d, vs = [v] ∧ Any H v d ∧ Q (.bl (isPr d)) H
def spCheck (CP : Addr) : Sp := fun vs H Q E => ∃ v d, vs = [v] ∧ Any H v d ∧ (isPr d = true → Q .non H) ∧ (isPr d = false → Thrown CP v H E)
def spList : Sp := fun vs H Q _ => ∃ v d, vs = [v] ∧ Any H v d ∧ ∀ H', Same H H' → Q (.bl (isSeqD d)) H'
def spVec : Sp := fun vs H Q _ => ∃ v d n, vs = [v, .int n] ∧ Any H v d ∧ (itemsD d).length ≤ 1000 ∧ ∀ H', Same H H' → Q (.bl (isVecD n d)) H'
def spMat : Sp := fun vs H Q _ => ∃ v d h w, vs = [v, .int h, .int w] ∧ Any H v d ∧ Fit d ∧ ∀ H', Same H H' → Q (.bl (isMatD h w d)) H'
def spWid : Sp := fun vs H Q _ => ∃ v d w, vs = [v, .int w] ∧ Any H v d ∧ Fit d ∧ ∀ H', Same H H' → Q (.bl (isMatD (itemsD d).length w d)) H'
theorem seq_flag {v : V} {H : Hp} {d : PyData} (h : Any H v d) : (isSeqD d = true ∧ ∃ (k : Bool) (a : Addr) (xs : List V), v = .ref a ∧ (∀ {H' : Hp}, Same H H' → ∀ K, SqB K H' k a xs) ∧ AnyL H xs (itemsD d)) ∨ isSeqD d = false := by
  cases e : isSeqD d with
  | true => exact .inl ⟨rfl, seq_of h e⟩
  | false => exact .inr rfl
end Rw
namespace K3
open PySem PySem.Spec PyProof.Rows L2 Rw
section
variable {P : Program} {w : World} {K : PySem.W.Frag} {mg : Str → Option Value} {base : Heap} {aI CP CV CM : Addr} {kI : List (Int × Value)}
abbrev tIsi (K : PySem.W.Frag) : TE := tAndV (tCB (rIsi K) (tCons (tVar 2) (tCons (tC (V.ty "int")) tNil))) (tNotV (tCB (rIsi K) (tCons (tVar 2) (tCons (tC (V.ty "bool")) tNil))))
theorem okNum {f : Addr} {fd : FuncData} (F : Fun K "is_number" "is_number" sNum f fd) (T : Txt K w mg aI CP CV CM kI) : FnOk P w K mg base CX0 1 f fd ["value"] spNum := by
  refine F.ok scNum (fun vs H Q E h => ?_) (fun cdv A outer s H vs Q E hr h => ?_)
  · obtain ⟨v, d, rfl, _⟩ := h
    rfl
  · obtain ⟨v, d, rfl, an, q⟩ := h
    refine ⟨_, (pss_one (ps_ret (pe_and (pe_callB call_isi (by rfl) T.isi (by decide +kernel) (pa_cons (pv 0) (pa_cons (pe_bltn (v := .ty "int") rfl T.int boot_int rfl) pa_nil))) (pe_one (pe_not (pe_callB call_isi (by rfl) T.isi (by decide +kernel) (pa_cons (pv 0) (pa_cons (pe_bltn (v := .ty "bool") rfl T.bool (by decide +kernel) rfl) pa_nil)))))))), ?_⟩
    refine ⟨v, rfl, v, .ty "int", _, _, _, rfl, .ty _, any_ty an, kit_int d, _, rfl, ?_⟩
    cases an with
    | bl b => exact iteT ⟨_, rfl, _, .ty "bool", _, _, _, rfl, .ty _, any_ty (.bl b), kit_bool (.bool b), _, rfl, q⟩
    | int i => exact iteT ⟨_, rfl, _, .ty "bool", _, _, _, rfl, .ty _, any_ty (.int i), kit_bool (.int i), _, rfl, q⟩
    | _ => exact iteF q
theorem okPrime {f : Addr} {fd : FuncData} (F : Fun K "is_prime" "is_prime" sPrime f fd) (T : Txt K w mg aI CP CV CM kI) (GN : Own P w K mg base CX0 1 "is_number" ["value"] [] spNum) : FnOk P w K mg base CX0 2 f fd ["value"] spPrime := by
  refine F.ok scPrime (fun vs H Q E h => ?_) (fun cdv A outer s H vs Q E hr h => ?_)
  · obtain ⟨v, d, rfl, _⟩ := h
    rfl
  · obtain ⟨v, d, rfl, an, q⟩ := h
    refine ⟨_, (pss_one (ps_ret (pe_and (pe_own GN hr pass0 (pa_cons (pv 0) pa_nil)) (pe_one (pe_cmpR (op_in_ti T.tI) (pv 0) (pe_glob (v := .ref aI) rfl T.gI rfl) (by rfl)))))), ?_⟩
    refine ⟨_, rfl, _, d, rfl, an, _, rfl, ?_⟩
    cases ed : isIntD d with
    | false =>
      refine iteF ?_
      have e : isPr d = false := by cases d <;> first | rfl | cases ed
      rw [e] at q
      exact q
    | true =>
      obtain ⟨n, rfl, rfl⟩ := int_of an ed
      refine iteT ⟨_, rfl, n, rfl, rfl, ?_⟩
      rw [T.hI]
      exact q
theorem okCheck {f : Addr} {fd : FuncData} (F : Fun K "check_prime" "check_prime" sCheck f fd) (T : Txt K w mg aI CP CV CM kI) (GP : Own P w K mg base CX0 2 "is_prime" ["value"] [] spPrime) : FnOk P w K mg base (L2.CX P w) 4 f fd ["prime"] (spCheck CP) := by
  refine F.okX scCheck (fun vs H Q E h => ?_) (fun cdv A outer s H vs Q E hr h => ?_)
  · obtain ⟨v, d, rfl, _⟩ := h
    rfl
  · obtain ⟨v, d, rfl, an, qt, qf⟩ := h
    refine ⟨_, (pss_one (ps_if (pt_not (pt_val (pe_own GP (hr.mono (by decide)) pass0 (pa_cons (pv 0) pa_nil)))) (pss_one (ps_throw T.eP rfl (hr.mono (by decide)) (takes_of rfl rfl rfl rfl) (pv 0))) pss_nil)), ?_⟩
    refine ⟨_, rfl, _, d, rfl, an, _, rfl, ?_⟩
    cases e : isPr d with
    | true => exact iteF (qt e)
    | false => exact iteT ⟨_, rfl, thrown_go (qf e)⟩
theorem okList {f : Addr} {fd : FuncData} (F : Fun K "is_list" "is_list" sList f fd) (T : Txt K w mg aI CP CV CM kI) : FnOk P w K mg base CX0 1 f fd ["value"] spList := by
  refine F.ok scList (fun vs H Q E h => ?_) (fun cdv A outer s H vs Q E hr h => ?_)
  · obtain ⟨v, d, rfl, _⟩ := h
    rfl
  · obtain ⟨v, d, rfl, an, q⟩ := h
    refine ⟨_, (pss_one (ps_ret (pe_callB call_isiT (by rfl) T.isi (by decide +kernel) (pa_cons (pv 0) (pa_cons (pe_tup (pa_cons (pe_bltn (v := .ty "list") rfl T.list (by decide +kernel) rfl) (pa_cons (pe_bltn (v := .ty "tuple") rfl T.tuple (by decide +kernel) rfl) pa_nil))) pa_nil))))), ?_⟩
    refine ⟨v, rfl, (by show 2 ≤ sizeLine; decide), fun tp htp => ?_⟩
    exact ⟨v, tp, _, _, _, _, rfl, upd_same, .cons (.ty _) (.cons (.ty _) .nil), any_ty (an.keep (same_new htp)), kit_seq d, q _ (same_new htp)⟩
theorem okVec {f : Addr} {fd : FuncData} (F : Fun K "is_vector" "is_vector" sVec f fd) (T : Txt K w mg aI CP CV CM kI) (GL : Own P w K mg base CX0 1 "is_list" ["value"] [] spList) : FnOk P w K mg base CX0 2 f fd ["value", "length"] spVec := by
  refine F.ok scVec (fun vs H Q E h => ?_) (fun cdv A outer s H vs Q E hr h => ?_)
  · obtain ⟨v, d, n, rfl, _⟩ := h
    rfl
  · obtain ⟨v, d, n, rfl, an, sz, q⟩ := h
    refine ⟨_, (pss_one (ps_ret (pe_and (pe_own GL hr pass0 (pa_cons (pv 0) pa_nil)) (pe_and (pe_cmpR op_eq (pe_callB call_len_seq (by rfl) T.len (by decide +kernel) (pa_cons (pv 0) pa_nil)) (pv 1) (nomark _)) (pe_one (pe_callB (cr_all rfl) (by rfl) T.all (by decide +kernel) (pa_cons (pe_lc (own := [("item", 2)]) (g := gName 2) (tt := tYes) (te := tIsi K) rfl scVec.nd (pi_seq (pv 0)) (blkOk_by (N := ["value", "length", "item"]) (sc := defScope sVec) (by decide +kernel)) (fun _ _ _ _ _ => (pg_name (i := 2) scVec.nd rfl (Or.inl rfl))) (fun _ _ _ _ _ => pts_nil)
      (fun _ _ _ _ _ => (pe_and (pe_callB call_isi (by rfl) T.isi (by decide +kernel) (pa_cons (pv 2) (pa_cons (pe_bltn (v := .ty "int") rfl T.int boot_int rfl) pa_nil))) (pe_one (pe_not (pe_callB call_isi (by rfl) T.isi (by decide +kernel) (pa_cons (pv 2) (pa_cons (pe_bltn (v := .ty "bool") rfl T.bool (by decide +kernel) rfl) pa_nil)))))))) pa_nil))))))), ?_⟩
    refine ⟨v, rfl, v, d, rfl, an, fun H1 k1 => ⟨_, rfl, ?_⟩⟩
    rcases seq_flag an with ⟨e, k, a, xs, rfl, hs, al⟩ | e
    · rw [e]
      have ln := anyL_len al
      refine iteT ⟨_, rfl, a, xs, rfl, (hs k1 K).or, _, rfl, rfl, _, rfl, ?_⟩
      have hv : isVecD n d = (decide (((itemsD d).length : Int) = n) && (itemsD d).all isIntD) := by
        unfold isVecD
        rw [e] <;> rfl
      rw [hv] at q
      refine ite2 (fun z => ?_) (fun z => ?_)
      · have z1 : V.int (xs.length : Int) = V.int n := of_decide_eq_true z
        have z2 : (((itemsD d).length : Nat) : Int) = n := by
          injection z1 with z3
          rw [← ln]
          exact z3
        rw [decide_eq_true z2] at q
        refine ⟨.ref a, rfl, a, k, xs, rfl, hs k1 K, fun D hD => ?_⟩
        refine lc_same walk_seq (by omega) hD (fun H' s' => hs (k1.trans s') K) (fun i => .bool (isIntD ((itemsD d)[i]?.getD .none))) ?_ ?_
        · refine fun i x H' hi hx s1 hd => ⟨rfl, fun k' hk => ?_⟩
          obtain ⟨dx, hdx, anx⟩ := anyL_at al hx
          have ax := anx.keep (k1.trans s1)
          have fin : ∀ b, b = isIntD dx → k' (.bl b) H' := fun b eb => by
            refine hk _ _ (fun _ _ z => z) ?_
            rw [hdx, eb]
            exact .bl _
          refine ⟨x, rfl, x, .ty "int", _, _, _, rfl, .ty _, any_ty ax, kit_int dx, _, rfl, ?_⟩
          cases ax with
          | bl b => exact iteT ⟨_, rfl, _, .ty "bool", _, _, _, rfl, .ty _, any_ty (.bl b), kit_bool (.bool b), _, rfl, fin _ rfl⟩
          | int i => exact iteT ⟨_, rfl, _, .ty "bool", _, _, _, rfl, .ty _, any_ty (.int i), kit_bool (.int i), _, rfl, fin _ rfl⟩
          | _ => exact iteF (fin _ rfl)
        · refine fun H' acc s1 ha hal => ?_
          rw [ln, map_get (fun d => PyData.bool (isIntD d)) .none] at hal
          have e2 := anyL_flags hal
          refine ⟨D, _, rfl, .inl (.inl (by rw [← e2]; exact ha)), ?_⟩
          have e3 : ((itemsD d).map isIntD).all id = (itemsD d).all isIntD := by simp
          rw [e3]
          exact q _ (k1.trans s1)
      · have z2 : ¬ (((itemsD d).length : Nat) : Int) = n := fun y => z (decide_eq_true (by rw [ln, y]))
        rw [decide_eq_false z2] at q
        exact q _ k1
    · rw [e]
      have hv : isVecD n d = false := by
        unfold isVecD
        rw [e] <;> rfl
      rw [hv] at q
      exact iteF (q _ k1)
theorem okMat {f : Addr} {fd : FuncData} (F : Fun K "is_matrix" "is_matrix" sMat f fd) (T : Txt K w mg aI CP CV CM kI) (GL : Own P w K mg base CX0 1 "is_list" ["value"] [] spList) (GV : Own P w K mg base CX0 2 "is_vector" ["value", "length"] [] spVec) : FnOk P w K mg base CX0 3 f fd ["value", "height", "width"] spMat := by
  refine F.ok scMat (fun vs H Q E h => ?_) (fun cdv A outer s H vs Q E hr h => ?_)
  · obtain ⟨v, d, n, m, rfl, _⟩ := h
    rfl
  · obtain ⟨v, d, n, m, rfl, an, ft, q⟩ := h
    have sz := ft.top.len
    refine ⟨_, (pss_one (ps_ret (pe_and (pe_own GL (hr.mono (by decide)) pass0 (pa_cons (pv 0) pa_nil)) (pe_and (pe_cmpR op_eq (pe_callB call_len_seq (by rfl) T.len (by decide +kernel) (pa_cons (pv 0) pa_nil)) (pv 1) (nomark _)) (pe_one (pe_callB (cr_all rfl) (by rfl) T.all (by decide +kernel) (pa_cons (pe_lc (own := [("row", 3)]) (g := gName 3) (tt := tYes) rfl scMat.nd (pi_seq (pv 0)) (blkOk_by (N := ["value", "height", "width", "row"]) (sc := defScope sMat) (by decide +kernel)) (fun _ _ _ _ _ => (pg_name (i := 3) scMat.nd rfl (Or.inl rfl))) (fun _ _ _ _ _ => pts_nil) (fun _ _ _ _ _ => (pe_own GV (hr.mono (by decide)) pass0 (pa_cons (pv 3) (pa_cons (pv 2) pa_nil))))) pa_nil))))))), ?_⟩
    refine ⟨v, rfl, v, d, rfl, an, fun H1 k1 => ⟨_, rfl, ?_⟩⟩
    rcases seq_flag an with ⟨e, k, a, xs, rfl, hs, al⟩ | e
    · rw [e]
      have ln := anyL_len al
      refine iteT ⟨_, rfl, a, xs, rfl, (hs k1 K).or, _, rfl, rfl, _, rfl, ?_⟩
      have hv : isMatD n m d = (decide (((itemsD d).length : Int) = n) && (itemsD d).all (isVecD m)) := by
        unfold isMatD
        rw [e] <;> rfl
      rw [hv] at q
      refine ite2 (fun z => ?_) (fun z => ?_)
      · have z1 : V.int (xs.length : Int) = V.int n := of_decide_eq_true z
        have z2 : (((itemsD d).length : Nat) : Int) = n := by
          injection z1 with z3
          rw [← ln]
          exact z3
        rw [decide_eq_true z2] at q
        refine ⟨.ref a, rfl, a, k, xs, rfl, hs k1 K, fun D hD => ?_⟩
        refine lc_same walk_seq (by omega) hD (fun H' s' => hs (k1.trans s') K) (fun i => .bool (isVecD m ((itemsD d)[i]?.getD .none))) ?_ ?_
        · refine fun i x H' hi hx s1 hd => ⟨rfl, fun k' hk => ?_⟩
          obtain ⟨dx, hdx, anx⟩ := anyL_at al hx
          refine ⟨_, rfl, _, rfl, x, dx, m, rfl, anx.keep (k1.trans s1), (ft.sub dx (List.mem_of_getElem? hdx)).len, fun H4 s4 => ?_⟩
          refine hk _ _ s4 ?_
          rw [hdx]
          exact .bl _
        · refine fun H' acc s1 ha hal => ?_
          rw [ln, map_get (fun d => PyData.bool (isVecD m d)) .none] at hal
          have e2 := anyL_flags hal
          refine ⟨D, _, rfl, .inl (.inl (by rw [← e2]; exact ha)), ?_⟩
          have e3 : ((itemsD d).map (isVecD m)).all id = (itemsD d).all (isVecD m) := by simp
          rw [e3]
          exact q _ (k1.trans s1)
      · have z2 : ¬ (((itemsD d).length : Nat) : Int) = n := fun y => z (decide_eq_true (by rw [ln, y]))
        rw [decide_eq_false z2] at q
        exact q _ k1
    · rw [e]
      have hv : isMatD n m d = false := by
        unfold isMatD
        rw [e] <;> rfl
      rw [hv] at q
      exact iteF (q _ k1)
theorem okWid {f : Addr} {fd : FuncData} (F : Fun K "has_width" "has_width" sWid f fd) (T : Txt K w mg aI CP CV CM kI) (GL : Own P w K mg base CX0 1 "is_list" ["value"] [] spList) (GM : Own P w K mg base CX0 3 "is_matrix" ["value", "height", "width"] [] spMat) : FnOk P w K mg base CX0 4 f fd ["value", "width"] spWid := by
  refine F.ok scWid (fun vs H Q E h => ?_) (fun cdv A outer s H vs Q E hr h => ?_)
  · obtain ⟨v, d, n, rfl, _⟩ := h
    rfl
  · obtain ⟨v, d, m, rfl, an, ft, q⟩ := h
    refine ⟨_, (pss_one (ps_ret (pe_and (pe_own GL (hr.mono (by decide)) pass0 (pa_cons (pv 0) pa_nil)) (pe_one (pe_own GM (hr.mono (by decide)) pass0 (pa_cons (pv 0) (pa_cons (pe_callB call_len_seq (by rfl) T.len (by decide +kernel) (pa_cons (pv 0) pa_nil)) (pa_cons (pv 1) pa_nil)))))))), ?_⟩
    refine ⟨v, rfl, v, d, rfl, an, fun H1 k1 => ⟨_, rfl, ?_⟩⟩
    rcases seq_flag an with ⟨e, k, a, xs, rfl, hs, al⟩ | e
    · rw [e]
      have ln := anyL_len al
      refine iteT ⟨_, rfl, _, rfl, a, xs, rfl, (hs k1 K).or, _, rfl, .ref a, d, _, m, rfl, an.keep k1, ft, fun H2 k2 => ?_⟩
      rw [ln]
      exact q _ (k1.trans k2)
    · rw [e]
      have hv : isMatD (itemsD d).length m d = false := by
        unfold isMatD
        rw [e] <;> rfl
      rw [hv] at q
      exact iteF (q _ k1)
end
end K3

set_option Elab.async false
set_option linter.all false
set_option maxRecDepth 100000
set_option maxHeartbeats 4000000
/-! K3B: sums of rows, led, joined, exchanged. -/
namespace Rw
open PySem PySem.Spec PyProof.Rows L2
def intD : PyData → Int
  | .int n => n | _ => 0
def cellD (e : PyData) (c : Nat) : Int := intD ((itemsD e)[c]?.getD .none)
def prodsL (dv dm : PyData) (c : Nat) : List Int := ((itemsD dv).zip (itemsD dm)).map fun q => intD q.1 * cellD q.2 c
/-- the sum of rows, each times its factor -/
def mixL (p : Int) (dv dm : PyData) (w : Nat) : List Int := (List.range w).map fun c => (prodsL dv dm c).sum.fmod p
def colL (p : Int) (dm : PyData) (c : Nat) : List Int := (itemsD dm).map fun e => (cellD e c).fmod p
def tupI (ns : List Int) : PyData := .tuple (ns.map .int)
def spMixed : Sp := fun vs H Q _ => ∃ (p : Int) (va vm : V) (dv dm : PyData) (w : Nat), vs = [.int p, va, vm, .int (w : Int)] ∧ p ≠ 0 ∧ Any H va dv ∧ Any H vm dm ∧ Fit1 dv ∧ Fit dm ∧ isVecD (itemsD dm).length dv = true ∧ isMatD (itemsD dm).length w dm = true ∧ w ≤ 1000 ∧
  ∀ t H', H t = none → Same H H' → H' t = some (.tup ((mixL p dv dm w).map V.int)) → Q (.ref t) H'
theorem Thrown.mono {C : Addr} {v : V} {H H1 : Hp} {E : XK} (h : Thrown C v H E) (k : Same H H1) : Thrown C v H1 E := fun d H' s hd hx => h d H' (k.trans s) (k.free hd) hx
def spLed (CP CV CM : Addr) : Sp := fun vs H Q E => ∃ (pv va vm : V) (dp dv dm : PyData) (w : Nat), vs = [pv, va, vm, .int (w : Int)] ∧ Any H pv dp ∧ Any H va dv ∧ Any H vm dm ∧ Fit dv ∧ Fit dm ∧ w ≤ 1000 ∧
  (isPr dp = false → Thrown CP pv H E) ∧ (isPr dp = true → isVecD (itemsD dv).length dv = false → Thrown CV va H E) ∧
  (isPr dp = true → isVecD (itemsD dv).length dv = true → isMatD (itemsD dv).length w dm = false → Thrown CM vm H E) ∧
  (∀ p, dp = .int p → p ∈ primesL → isVecD (itemsD dv).length dv = true → isMatD (itemsD dv).length w dm = true → ∀ t H', H t = none → Same H H' → H' t = some (.tup ((mixL p dv dm w).map V.int)) → Q (.ref t) H')
def spJoined (CP CM : Addr) : Sp := fun vs H Q E => ∃ (pv va vm : V) (dp dv dm : PyData) (w : Nat), vs = [pv, va, vm, .int (w : Int)] ∧ Any H pv dp ∧ Any H va dv ∧ Any H vm dm ∧ Fit dv ∧ Fit dm ∧ w ≤ 1000 ∧
  (isPr dp = false → Thrown CP pv H E) ∧ (isPr dp = true → isMatD (itemsD dm).length w dm = false → Thrown CM vm H E) ∧
  (isPr dp = true → isMatD (itemsD dm).length w dm = true → isMatD (itemsD dv).length (itemsD dm).length dv = false → Thrown CM va H E) ∧
  (∀ p, dp = .int p → p ∈ primesL → isMatD (itemsD dm).length w dm = true → isMatD (itemsD dv).length (itemsD dm).length dv = true → ∀ l acc H', H l = none → Same H H' → H' l = some (.lst acc) → AnyL (del H' l) acc ((itemsD dv).map fun e => tupI (mixL p e dm w)) → Q (.ref l) H')
def spExch (CP CM : Addr) : Sp := fun vs H Q E => ∃ (pv vm : V) (dp dm : PyData) (w : Nat), vs = [pv, vm, .int (w : Int)] ∧ Any H pv dp ∧ Any H vm dm ∧ Fit dm ∧ w ≤ 1000 ∧
  (isPr dp = false → Thrown CP pv H E) ∧ (isPr dp = true → isMatD (itemsD dm).length w dm = false → Thrown CM vm H E) ∧
  (∀ p, dp = .int p → p ∈ primesL → isMatD (itemsD dm).length w dm = true → ∀ l acc H', H l = none → Same H H' → H' l = some (.lst acc) → AnyL (del H' l) acc ((List.range w).map fun c => tupI (colL p dm c)) → Q (.ref l) H')
theorem vec_parts {n : Int} {d : PyData} (e : isVecD n d = true) : isSeqD d = true ∧ (((itemsD d).length : Nat) : Int) = n ∧ (itemsD d).all isIntD = true := by
  unfold isVecD at e
  simp only [Bool.and_eq_true, decide_eq_true_eq] at e
  exact e
theorem mat_parts {n m : Int} {d : PyData} (e : isMatD n m d = true) : isSeqD d = true ∧ (((itemsD d).length : Nat) : Int) = n ∧ ∀ x, x ∈ itemsD d → isVecD m x = true := by
  unfold isMatD at e
  simp only [Bool.and_eq_true, decide_eq_true_eq, List.all_eq_true] at e
  exact e
theorem pr_int {d : PyData} (e : isPr d = true) : ∃ p, d = .int p ∧ p ∈ primesL := by
  cases d with
  | int n => exact ⟨n, rfl, of_decide_eq_true e⟩
  | _ => cases e
theorem mulW_ok {a b : Int} (h1 : a.natAbs.log2 < 400) (h2 : b.natAbs.log2 < 400) : CMulW a b := by
  show a.natAbs.log2 + b.natAbs.log2 < 1000000
  omega
theorem ints_at {ns : List Int} {i : Nat} {v : V} (h : (ns.map V.int)[i]? = some v) : ∃ n, ns[i]? = some n ∧ v = .int n := by
  rw [List.getElem?_map] at h
  cases e : ns[i]? with
  | none => rw [e] at h; cases h
  | some n =>
    rw [e] at h
    exact ⟨n, rfl, (Option.some.inj h).symm⟩
/-- the sums of the first rows, each times its factor -/
def totL (dv dm : PyData) (w i : Nat) : List Int := (List.range w).map fun c => ((prodsL dv dm c).take i).sum
theorem totL_len (dv dm : PyData) (w i : Nat) : (totL dv dm w i).length = w := by
  unfold totL
  rw [List.length_map, List.length_range]
theorem totL_at {dv dm : PyData} {w i c : Nat} (h : c < w) : (totL dv dm w i)[c]? = some ((prodsL dv dm c).take i).sum := by
  unfold totL
  rw [List.getElem?_map, List.getElem?_range h] <;> rfl
theorem tot_succ {dv dm : PyData} {i c : Nat} {x : Int} (h : (prodsL dv dm c)[i]? = some x) : ((prodsL dv dm c).take (i + 1)).sum = ((prodsL dv dm c).take i).sum + x := by
  rw [List.take_add_one, h]
  simp
theorem totL_zero (dv dm : PyData) (w : Nat) : (totL dv dm w 0).map V.int = (List.replicate w [V.int 0]).flatten := by
  have h : ∀ w, (List.replicate w [V.int 0]).flatten = List.replicate w (V.int 0) := fun w => by simp
  rw [h]
  unfold totL
  rw [List.map_map]
  apply List.ext_getElem
  · simp
  · intro j h1 h2
    simp
end Rw
namespace K3
open PySem PySem.Spec PyProof.Rows L2 Rw
abbrev sMixed : Stmt := top 14
abbrev sLed : Stmt := top 15
abbrev sJoined : Stmt := top 16
abbrev NMixed : List Str := ["prime", "factors", "rows", "width", "total", "factor", "row", "item", "more"]
abbrev NJoined : List Str := ["prime", "one", "other", "width", "row"]
theorem scMixed : FnScope NMixed ["prime", "factors", "rows", "width"] (defScope sMixed) := ⟨rfl, rfl, rfl, by decide +kernel, rfl, by decide +kernel, by decide +kernel⟩
theorem scLed : FnScope ["prime", "vector", "matrix", "width"] ["prime", "vector", "matrix", "width"] (defScope sLed) := ⟨rfl, rfl, rfl, by decide +kernel, rfl, by decide +kernel, by decide +kernel⟩
theorem scJoined : FnScope NJoined ["prime", "one", "other", "width"] (defScope sJoined) := ⟨rfl, rfl, rfl, by decide +kernel, rfl, by decide +kernel, by decide +kernel⟩
section
variable {P : Program} {w : World} {K : PySem.W.Frag} {mg : Str → Option Value} {base : Heap} {aI CP CV CM : Addr} {kI : List (Int × Value)}
abbrev gPair5 (K : PySem.W.Frag) : TG := gTup K 2 (gCons (gName 5) (gCons (gName 6) gNil))
abbrev gPair7 (K : PySem.W.Frag) : TG := gTup K 2 (gCons (gName 7) (gCons (gName 8) gNil))
abbrev tStep : TE := tOp (rI0 fun i j => .int (i + j)) (tVar 7) (tOp (rI CMulW fun i j => .int (i * j)) (tVar 5) (tVar 8))
theorem okMixed {f : Addr} {fd : FuncData} (F : Fun K "mixed" "mixed" sMixed f fd) (T : Txt K w mg aI CP CV CM kI) : FnOk P w K mg base CX0 1 f fd ["prime", "factors", "rows", "width"] spMixed := by
  refine F.ok scMixed (fun vs H Q E h => ?_) (fun cdv A outer s H vs Q E hr h => ?_)
  · obtain ⟨p, va, vm, dv, dm, W, rfl, _⟩ := h
    rfl
  · obtain ⟨p, va, vm, dv, dm, W, rfl, p0, av, am, fv, fm, ev, em, hW, q⟩ := h
    refine ⟨_, (pss_cons (ps_set (i := 4) scMixed.nd rfl (Or.inl rfl) (pe_op op_rep (pe_lst (pa_cons pe_int pa_nil)) (pv 3)))
      (pss_cons (ps_for PassesOwn.never rfl (pi_zipB (by rfl) T.zip (pa_cons (pv 1) (pa_cons (pv 2) pa_nil))) (pg_tup rfl (pgs_cons (pg_name (i := 5) scMixed.nd rfl (Or.inr rfl)) (pgs_cons (pg_name (i := 6) scMixed.nd rfl (Or.inl rfl)) pgs_nil)))
        (pss_one (ps_if (pt_cmpR op_ne (pv 5) pe_int (nomark _)) (pss_one (ps_setLc (i := 4) (own := [("item", 7), ("more", 8)]) (g := gPair7 K) (tt := tYes) (te := tStep) rfl scMixed.nd rfl rfl (sw_true rfl rfl rfl (by decide +kernel)) (pi_zipB (by rfl) T.zip (pa_cons (pv 4) (pa_cons (pv 6) pa_nil))) (blkOk_by (N := NMixed) (sc := defScope sMixed) (by decide +kernel))
          (fun _ _ _ _ _ => (pg_tup rfl (pgs_cons (pg_name (i := 7) scMixed.nd rfl (Or.inl rfl)) (pgs_cons (pg_name (i := 8) scMixed.nd rfl (Or.inl rfl)) pgs_nil)))) (fun _ _ _ _ _ => pts_nil) (fun _ _ _ _ _ => (pe_op op_add (pv 7) (pe_op op_mulW (pv 5) (pv 8)))))) pss_nil)))
      (pss_one (ps_ret (pe_callTy call_tuple_of (by rfl) T.tuple (by decide +kernel) (pa_cons (pe_lc (own := [("item", 7)]) (g := gName 7) (tt := tYes) (te := tOp (rI (fun _ j => j ≠ 0) fun i j => .int (i.fmod j)) (tVar 7) (tVar 0)) rfl scMixed.nd (pi_seq (pv 4)) (blkOk_by (N := NMixed) (sc := defScope sMixed) (by decide +kernel)) (fun _ _ _ _ _ => (pg_name (i := 7) scMixed.nd rfl (Or.inl rfl))) (fun _ _ _ _ _ => pts_nil)
        (fun _ _ _ _ _ => (pe_op op_modN (pv 7) (pv 0)))) pa_nil)))))), ?_⟩
    obtain ⟨v1, v2, v3⟩ := vec_parts ev
    obtain ⟨m1, m2, m3⟩ := mat_parts em
    obtain ⟨k1, a, xs, rfl, hs1, al1⟩ := seq_of av v1
    obtain ⟨k2, b, ys, rfl, hs2, al2⟩ := seq_of am m1
    obtain ⟨fs, efs⟩ := vec_ints v3
    have l1 := anyL_len al1
    have l2 := anyL_len al2
    have l3 : (itemsD dv).length = (itemsD dm).length := Int.ofNat.inj v2
    have sz := fm.top.len
    rw [efs] at al1
    have exs := anyL_ints al1
    refine ⟨by show 1 ≤ sizeLine; decide, fun L0 hL0 => ⟨_, rfl, L0, (W : Int), [.int 0], rfl, rfl, upd_same, by omega, by omega, ?_, fun L1 hL1 => ?_⟩⟩
    · show 1 * (W : Int).toNat ≤ sizeLine
      exact Nat.le_trans (by omega : 1 * (W : Int).toNat ≤ 1000) (by decide)
    have z0 : (List.replicate (W : Int).toNat [V.int 0]).flatten = (totL dv dm W 0).map V.int := (totL_zero dv dm W).symm
    rw [z0]
    have kk := (same_new (o := .lst [.int 0]) hL0).trans (same_new (o := .lst ((totL dv dm W 0).map V.int)) hL1)
    refine ⟨_, rfl, _, rfl, a, b, k1, k2, xs, ys, rfl, hs1 kk K, hs2 kk K, ?_⟩
    refine for_it (walk_zipB (K := K) (n := (itemsD dm).length) (xs := xs) (ys := ys) (by omega) l2) (fun i σ H' => ∃ t x5 x6 x7 x8, σ = [some (.int p), some (.ref a), some (.ref b), some (.int (W : Int)), some (.ref t), x5, x6, x7, x8] ∧ Same H H' ∧ H t = none ∧ H' t = some (.lst ((totL dv dm W i).map V.int)))
      ⟨L1, _, _, _, _, rfl, kk, (same_new (o := .lst [.int 0]) hL0).free hL1, upd_same⟩ (fun i σ H2 _ z => by obtain ⟨_, _, _, _, _, _, s2, _⟩ := z; exact ⟨hs1 s2 K, hs2 s2 K⟩) ?_ ?_
    · rintro i x σ H3 H4 hi ⟨t, x5, x6, x7, x8, rfl, s3, nt, e3⟩ ⟨T1, fx, ry, rfl, hT, rfl, hx, hy⟩
      rw [exs] at hx
      obtain ⟨n, hn, rfl⟩ := ints_at hx
      obtain ⟨e, he, ae⟩ := anyL_at al2 hy
      have hem := List.mem_of_getElem? he
      obtain ⟨r1, r2, r3⟩ := vec_parts (m3 e hem)
      obtain ⟨k3, a3, zs, rfl, hs3, al3⟩ := seq_of ae r1
      obtain ⟨ms, ems⟩ := vec_ints r3
      rw [ems] at al3 r2
      have ezs := anyL_ints al3
      rw [List.length_map] at r2
      have r4 : ms.length = W := Int.ofNat.inj r2
      have s4 : Same H3 (upd H3 T1 (.tup [.int n, .ref a3])) := same_new hT
      have sn : n.natAbs.log2 < 400 := fv.sm n (by
        rw [efs]
        exact List.mem_map.mpr ⟨n, List.mem_of_getElem? hn, rfl⟩)
      have pi : ∀ c, c < W → ∃ m, ms[c]? = some m ∧ m.natAbs.log2 < 400 ∧ (prodsL dv dm c)[i]? = some (n * m) := fun c hc => by
        have hc2 : c < ms.length := by omega
        refine ⟨ms[c], List.getElem?_eq_getElem hc2, (fm.sub e hem).sm _ (by rw [ems]; exact List.mem_map.mpr ⟨_, List.getElem_mem hc2, rfl⟩), ?_⟩
        have cell : cellD e c = ms[c] := by
          unfold cellD
          rw [ems, List.getElem?_map, List.getElem?_eq_getElem hc2] <;> rfl
        unfold prodsL
        have h1 : (itemsD dv)[i]? = some (.int n) := by
          rw [efs, List.getElem?_map, hn] <;> rfl
        have hz : ((itemsD dv).zip (itemsD dm))[i]? = some (.int n, e) := List.getElem?_zip_eq_some.mpr ⟨h1, he⟩
        rw [List.getElem?_map, hz]
        show some (n * cellD e c) = _
        rw [cell]
      refine ⟨T1, _, rfl, SqT.of upd_same, rfl, _, _, rfl, _, _, rfl, rfl, ?_⟩
      refine ⟨_, rfl, rfl, _, rfl, ?_⟩
      refine ite2 (fun z => ?_) (fun z => ?_)
      rotate_left
      · have n0 : n = 0 := by
          by_cases y : n = 0
          · exact y
          · exact absurd (show (!decide (V.int n = V.int 0)) = true by rw [decide_eq_false (fun h => y (V.int.inj h))] <;> rfl) z
        refine ⟨t, _, _, _, _, rfl, s3.trans s4, nt, ?_⟩
        have ee : totL dv dm W (i + 1) = totL dv dm W i := by
          unfold totL
          refine List.map_congr_left fun c hc => ?_
          obtain ⟨m, _, _, hm⟩ := pi c (List.mem_range.mp hc)
          rw [tot_succ hm, n0, Int.zero_mul, Int.add_zero]
        rw [ee]
        exact s4 _ _ e3
      · have s34 := s3.trans s4
        have e4 := s4 _ _ e3
        refine ⟨_, rfl, _, rfl, t, a3, true, k3, _, zs, rfl, SqL.of e4, hs3 s34 K, fun D2 hD2 => ?_⟩
        refine lc_it (walk_zipB (K := K) (n := W) (by rw [List.length_map, totL_len]) (by rw [ezs, List.length_map, r4])) (Pv := fun c H5 => Same (upd H3 T1 (.tup [.int n, .ref a3])) H5 ∧ H5 D2 = some (.lst (((totL dv dm W (i + 1)).take c).map V.int))) ⟨same_new hD2, upd_same⟩ (fun c H5 _ z => ⟨SqL.of (z.1 _ _ e4), hs3 (s34.trans z.1) K⟩) ?_ ?_
        · rintro c x H5 H6 hc ⟨s5, e5⟩ ⟨T2, fx, ry, rfl, hT2, rfl, hx2, hy2⟩
          obtain ⟨tv, htv, rfl⟩ := ints_at hx2
          rw [totL_at hc] at htv
          cases htv
          rw [ezs] at hy2
          obtain ⟨m, hm, rfl⟩ := ints_at hy2
          obtain ⟨m', hm', sm, pm⟩ := pi c hc
          rw [hm] at hm'
          cases hm'
          have s6 : Same H5 (upd H5 T2 (.tup [.int ((prodsL dv dm c).take i).sum, .int m])) := same_new hT2
          refine ⟨T2, _, rfl, SqT.of upd_same, rfl, _, _, rfl, _, _, rfl, rfl, rfl, ?_⟩
          refine ⟨_, rfl, _, rfl, _, rfl, n, m, rfl, rfl, mulW_ok sn sm, _, _, rfl, rfl, _, s6 _ _ e5, ?_, ?_, ?_⟩
          · rw [List.length_map]
            exact Nat.lt_of_le_of_lt (Nat.le_trans (List.length_take_le _ _) (by omega : c ≤ 1000)) (by decide)
          · intro bb o eo
            have ne : bb ≠ D2 := ne_of_none eo hD2
            rw [upd_ne ne]
            exact s6 _ _ (s5 _ _ eo)
          · rw [upd_same, List.take_add_one, totL_at hc, tot_succ pm, List.map_append] <;> rfl
        · rintro H5 ⟨s5, e5⟩
          refine ⟨D2, _, _, _, _, rfl, s34.trans s5, s34.free hD2, ?_⟩
          rw [e5, List.take_of_length_le (Nat.le_of_eq (totL_len _ _ _ _))]
    · rintro σ H3 ⟨t, x5, x6, x7, x8, rfl, s3, nt, e3⟩
      refine ⟨.ref t, rfl, t, true, _, rfl, SqL.of e3, fun D hD => ?_⟩
      have ww := walk_seq (K := K) (k := true) (a := t) (xs := (totL dv dm W (itemsD dm).length).map V.int)
      rw [List.length_map, totL_len] at ww
      refine lc_same ww hW hD (fun H' s' => SqL.of (s' _ _ e3)) (fun i => .int ((prodsL dv dm i).sum.fmod p)) ?_ ?_
      · rintro c x H' hc hx s1 hd
        obtain ⟨tv, htv, rfl⟩ := ints_at hx
        rw [totL_at hc] at htv
        cases htv
        refine ⟨rfl, fun k' hk => ⟨_, rfl, _, rfl, _, p, rfl, rfl, p0, ?_⟩⟩
        have lp : (prodsL dv dm c).length = (itemsD dm).length := by
          unfold prodsL
          rw [List.length_map, List.length_zip]
          omega
        rw [List.take_of_length_le (by omega)]
        exact hk _ _ (Same.refl _) (.int _)
      · intro H' acc s1 ha hal
        have e2 : acc = (mixL p dv dm W).map V.int := anyL_ints (H := del H' D) (by
          unfold mixL
          rw [List.map_map]
          exact hal)
        refine ⟨D, acc, rfl, .inl ⟨SqL.of ha, fun l hl => q l _ ((s3.trans s1).free hl) ((s3.trans s1).trans (same_new hl)) ?_⟩⟩
        rw [e2]
        exact upd_same
theorem okLed {f : Addr} {fd : FuncData} (F : Fun K "led" "led" sLed f fd) (T : Txt K w mg aI CP CV CM kI) (GC : Own P w K mg base (L2.CX P w) 4 "check_prime" ["prime"] [] (spCheck CP)) (GL : Own P w K mg base CX0 1 "is_list" ["value"] [] spList)
    (GV : Own P w K mg base CX0 2 "is_vector" ["value", "length"] [] spVec) (GM : Own P w K mg base CX0 3 "is_matrix" ["value", "height", "width"] [] spMat) (GX : Own P w K mg base CX0 1 "mixed" ["prime", "factors", "rows", "width"] [] spMixed) :
    FnOk P w K mg base (L2.CX P w) 6 f fd ["prime", "vector", "matrix", "width"] (spLed CP CV CM) := by
  refine F.okX scLed (fun vs H Q E h => ?_) (fun cdv A outer s H vs Q E hr h => ?_)
  · obtain ⟨vp, va, vm, dp, dv, dm, W, rfl, _⟩ := h
    rfl
  · obtain ⟨vp, va, vm, dp, dv, dm, W, rfl, ap, av, am, fv, fm, hW, xp, xv, xm, q⟩ := h
    refine ⟨_, (pss_cons (ps_expr (pe_own (E := E) GC (hr.mono (by decide)) (passes_call (takes_of rfl rfl rfl rfl) (fun _ _ _ _ z => z)) (pa_cons (pv 0) pa_nil)))
      (pss_cons (ps_if (pt_not (PW.pt (pw_and (pt_val (pe_own GL (hr.mono (by decide)) pass0 (pa_cons (pv 1) pa_nil))) (pw_and1 (pt_val (pe_own GV (hr.mono (by decide)) pass0 (pa_cons (pv 1) (pa_cons (pe_callB call_len_seq (by rfl) T.len (by decide +kernel) (pa_cons (pv 1) pa_nil)) pa_nil)))))))) (pss_one (ps_throw T.eV rfl (hr.mono (by decide)) (takes_of rfl rfl rfl rfl) (pv 1))) pss_nil)
      (pss_cons (ps_if (pt_not (pt_val (pe_own GM (hr.mono (by decide)) pass0 (pa_cons (pv 2) (pa_cons (pe_callB call_len_seq (by rfl) T.len (by decide +kernel) (pa_cons (pv 1) pa_nil)) (pa_cons (pv 3) pa_nil)))))) (pss_one (ps_throw T.eM rfl (hr.mono (by decide)) (takes_of rfl rfl rfl rfl) (pv 2))) pss_nil)
      (pss_one (ps_ret (pe_own GX (hr.mono (by decide)) pass0 (pa_cons (pv 0) (pa_cons (pv 1) (pa_cons (pv 2) (pa_cons (pv 3) pa_nil)))))))))), ?_⟩
    refine ⟨_, rfl, vp, dp, rfl, ap, fun ep => ?_, xp⟩
    obtain ⟨p, rfl, hp⟩ := pr_int ep
    cases ap
    have bad : isVecD (itemsD dv).length dv = false → ∀ H1, Same H H1 → Thrown CV va H1 E := fun e H1 k => (xv ep e).mono k
    refine ⟨_, rfl, va, dv, rfl, av, fun H1 k1 => ?_⟩
    rcases seq_flag av with ⟨e, k, a, xs, rfl, hs, al⟩ | e
    · rw [e]
      have ln := anyL_len al
      refine ⟨_, rfl, iteT ⟨_, rfl, _, rfl, a, xs, rfl, (hs k1 K).or, .ref a, dv, (xs.length : Int), rfl, av.keep k1, fv.top.len, fun H2 k2 => ⟨_, rfl, ?_⟩⟩⟩
      rw [ln]
      cases ev : isVecD (itemsD dv).length dv with
      | false => exact iteT ⟨_, rfl, thrown_go (bad ev H2 (k1.trans k2))⟩
      | true =>
        refine iteF ⟨_, rfl, _, rfl, a, xs, rfl, (hs (k1.trans k2) K).or, _, rfl, vm, dm, _, _, rfl, am.keep (k1.trans k2), fm, fun H3 k3 => ⟨_, rfl, ?_⟩⟩
        rw [ln]
        cases em : isMatD (itemsD dv).length W dm with
        | false => exact iteT ⟨_, rfl, thrown_go ((xm ep ev em).mono ((k1.trans k2).trans k3))⟩
        | true =>
          have pp := prime_pos hp
          obtain ⟨m1, m2, m3⟩ := mat_parts em
          have ln2 : (itemsD dm).length = (itemsD dv).length := Int.ofNat.inj m2
          refine iteF ⟨_, rfl, _, rfl, _, rfl, _, rfl, p, .ref a, vm, dv, dm, W, rfl, by omega, av.keep ((k1.trans k2).trans k3), am.keep ((k1.trans k2).trans k3), fv.top, fm, ?_, ?_, hW, fun t H' ht s' e' => ?_⟩
          · rw [ln2]
            exact ev
          · rw [ln2]
            exact em
          · have kk := (k1.trans k2).trans k3
            exact q p rfl hp ev em t H' (kk.free ht) (kk.trans s') e'
    · rw [e]
      have ev : isVecD (itemsD dv).length dv = false := by
        unfold isVecD
        rw [e] <;> rfl
      exact ⟨_, rfl, iteF (iteT ⟨_, rfl, thrown_go (bad ev H1 k1)⟩)⟩
end
end K3

set_option Elab.async false
set_option linter.all false
set_option maxRecDepth 100000
set_option maxHeartbeats 4000000
/-! K3C: joined, exchanged. -/
namespace K3
open PySem PySem.Spec PyProof.Rows L2 Rw
abbrev rTupOf (K : PySem.W.Frag) : List V → Hp → VK → Prop := fun xs H Q => ∃ p ys, xs = [.ref p] ∧ ((SqL K H p ys ∧ ∀ l, H l = none → Q (.ref l) (upd H l (.tup ys))) ∨ (SqT K H p ys ∧ Q (.ref p) H))
section
variable {P : Program} {w : World} {K : PySem.W.Frag} {mg : Str → Option Value} {base : Heap} {aI CP CV CM : Addr} {kI : List (Int × Value)}
theorem okJoined {f : Addr} {fd : FuncData} (F : Fun K "joined" "joined" sJoined f fd) (T : Txt K w mg aI CP CV CM kI) (GC : Own P w K mg base (L2.CX P w) 4 "check_prime" ["prime"] [] (spCheck CP)) (GW : Own P w K mg base CX0 4 "has_width" ["value", "width"] [] spWid)
    (GX : Own P w K mg base CX0 1 "mixed" ["prime", "factors", "rows", "width"] [] spMixed) : FnOk P w K mg base (L2.CX P w) 6 f fd ["prime", "one", "other", "width"] (spJoined CP CM) := by
  refine F.okX scJoined (fun vs H Q E h => ?_) (fun cdv A outer s H vs Q E hr h => ?_)
  · obtain ⟨vp, va, vm, dp, dv, dm, W, rfl, _⟩ := h
    rfl
  · obtain ⟨vp, va, vm, dp, dv, dm, W, rfl, ap, av, am, fv, fm, hW, xp, xm, xv, q⟩ := h
    refine ⟨_, (pss_cons (ps_expr (pe_own (E := E) GC (hr.mono (by decide)) (passes_call (takes_of rfl rfl rfl rfl) (fun _ _ _ _ z => z)) (pa_cons (pv 0) pa_nil)))
      (pss_cons (ps_if (pt_not (pt_val (pe_own GW (hr.mono (by decide)) pass0 (pa_cons (pv 2) (pa_cons (pv 3) pa_nil))))) (pss_one (ps_throw T.eM rfl (hr.mono (by decide)) (takes_of rfl rfl rfl rfl) (pv 2))) pss_nil)
      (pss_cons (ps_if (pt_not (pt_val (pe_own GW (hr.mono (by decide)) pass0 (pa_cons (pv 1) (pa_cons (pe_callB call_len_seq (by rfl) T.len (by decide +kernel) (pa_cons (pv 2) pa_nil)) pa_nil))))) (pss_one (ps_throw T.eM rfl (hr.mono (by decide)) (takes_of rfl rfl rfl rfl) (pv 1))) pss_nil)
      (pss_one (ps_ret (pe_lc (own := [("row", 4)]) (g := gName 4) (tt := tYes) rfl scJoined.nd (pi_seq (pv 1)) (blkOk_by (N := NJoined) (sc := defScope sJoined) (by decide +kernel)) (fun _ _ _ _ _ => (pg_name (i := 4) scJoined.nd rfl (Or.inl rfl))) (fun _ _ _ _ _ => pts_nil)
        (fun _ _ _ _ _ => (pe_own GX (hr.mono (by decide)) pass0 (pa_cons (pv 0) (pa_cons (pv 4) (pa_cons (pv 2) (pa_cons (pv 3) pa_nil)))))))))))), ?_⟩
    refine ⟨_, rfl, vp, dp, rfl, ap, fun ep => ?_, xp⟩
    obtain ⟨p, rfl, hp⟩ := pr_int ep
    cases ap
    have pp := prime_pos hp
    refine ⟨_, rfl, _, rfl, vm, dm, W, rfl, am, fm, fun H1 k1 => ⟨_, rfl, ?_⟩⟩
    cases em : isMatD (itemsD dm).length W dm with
    | false => exact iteT ⟨_, rfl, thrown_go ((xm ep em).mono k1)⟩
    | true =>
      obtain ⟨m1, m2, m3⟩ := mat_parts em
      obtain ⟨k, b, ys, rfl, hs2, al2⟩ := seq_of am m1
      have ln2 := anyL_len al2
      refine iteF ⟨_, rfl, _, rfl, b, ys, rfl, (hs2 k1 K).or, va, dv, _, rfl, av.keep k1, fv, fun H2 k2 => ⟨_, rfl, ?_⟩⟩
      rw [ln2]
      cases ev : isMatD (itemsD dv).length (itemsD dm).length dv with
      | false => exact iteT ⟨_, rfl, thrown_go ((xv ep em ev).mono (k1.trans k2))⟩
      | true =>
        obtain ⟨v1, v2, v3⟩ := mat_parts ev
        obtain ⟨kk, a, xs, rfl, hs, al⟩ := seq_of av v1
        have ln := anyL_len al
        have sz := fv.top.len
        have k12 := k1.trans k2
        refine iteF ⟨_, rfl, a, kk, xs, rfl, hs k12 K, fun D hD => ?_⟩
        refine lc_same walk_seq (by omega) hD (fun H' s' => hs (k12.trans s') K) (fun i => tupI (mixL p ((itemsD dv)[i]?.getD .none) dm W)) ?_ ?_
        · rintro i x H' hi hx s1 ⟨o, hd⟩
          refine ⟨rfl, fun k' hk => ?_⟩
          obtain ⟨dx, hdx, anx⟩ := anyL_at al hx
          have mem := List.mem_of_getElem? hdx
          have k3 := k12.trans s1
          refine ⟨_, rfl, _, rfl, _, rfl, _, rfl, p, x, .ref b, dx, dm, W, rfl, by omega, anx.keep k3, am.keep k3, fv.sub dx mem, fm, v3 dx mem, em, hW, fun t H4 ht s4 e4 => ?_⟩
          refine hk _ _ s4 ?_
          rw [hdx]
          exact .tup (by rw [del_ne (ne_of_none hd ht).symm]; exact e4) (ints_anyL _)
        · intro H' acc s1 ha hal
          rw [ln, map_get (fun e => tupI (mixL p e dm W)) .none] at hal
          exact q p rfl hp em ev D acc H' (k12.free hD) (k12.trans s1) ha hal
end
end K3

set_option Elab.async false
set_option linter.all false
set_option maxRecDepth 100000
set_option maxHeartbeats 4000000
/-! TkM: boxes, new data, what a law looks at. -/
namespace Rw
open PySem PySem.Spec PyProof.Rows L2
/-- any int of the script, or a number of the law's own -/
def spCellR (K : PySem.W.Frag) : Sp := fun vs H Q _ => ∃ (a : Addr) (ns : List Int) (j : Nat), vs = [.ref a, .int (j : Int)] ∧ SqL K H a (ns.map V.int) ∧ j < 1000 ∧ ∀ z : Int, Q (.int z) H
/-- at p a box that was drawn from at most n times -/
def Bx (H : Hp) (p : Addr) (n : Nat) : Prop := ∃ a b c : Int, H p = some (.lst [.int a, .int b, .int c]) ∧ 0 ≤ a ∧ 0 ≤ b ∧ b < 2147483629 ∧ 0 ≤ c ∧ c ≤ (n : Int)
theorem Bx.more {H : Hp} {p : Addr} {n m : Nat} (h : Bx H p n) (l : n ≤ m) : Bx H p m := by
  obtain ⟨a, b, c, h1, h2, h3, h4, h5, h6⟩ := h
  exact ⟨a, b, c, h1, h2, h3, h4, h5, by omega⟩
theorem Bx.keep {H H' : Hp} {p : Addr} {n : Nat} (h : Bx H p n) (k : Same H H') : Bx H' p n := by
  obtain ⟨a, b, c, h1, r⟩ := h
  exact ⟨a, b, c, k _ _ h1, r⟩
theorem Bx.ne {H : Hp} {p q : Addr} {n : Nat} (h : Bx H p n) (hq : H q = none) : p ≠ q := by
  obtain ⟨a, b, c, h1, _⟩ := h
  exact ne_of_none h1 hq
def spBoxR : Sp := fun vs H Q _ => ∃ z : Int, vs = [.int z] ∧ ∀ p H', H p = none → Same H H' → Bx H' p 0 → Q (.ref p) H'
def spTakeR : Sp := fun vs H Q _ => ∃ (p : Addr) (m : Int) (n : Nat), vs = [.ref p, .int m] ∧ 0 < m ∧ m < 2 ^ 200 ∧ Bx H p n ∧ n ≤ 1000000 ∧ ∀ r H', 0 ≤ r → r < m → Grow p H H' → Bx H' p (n + 1) → Q (.int r) H'
theorem fdiv_nonneg' {a m : Int} (h : 0 ≤ a) (hm : 0 < m) : 0 ≤ a / m := Int.ediv_nonneg h (by omega)
/-- the odd things, as data -/
def oddL : List PyData := [.none, .bool true, .bool false, .str "1", .str "", .tuple [], .list [], .tuple [.int 1], .list [.int 0], .dict [], .dict [(.str "a", .int 1)], .int (-1), .int (10 ^ Int.toNat 29), .int (-(10 ^ Int.toNat 29)), .tuple [.tuple [.int 1]], .str "><"]
theorem AnyL.get {H : Hp} : ∀ {vs : List V} {ds : List PyData}, AnyL H vs ds → ∀ i, i < ds.length → ∃ v d, vs[i]? = some v ∧ d ∈ ds ∧ Any H v d
  | _, _, .nil, i, h => absurd h (Nat.not_lt_zero i)
  | _, _, .cons a _, 0, _ => ⟨_, _, rfl, List.mem_cons_self, a⟩
  | _, _, .cons _ b, i + 1, h => by
    obtain ⟨v, d, h1, h2, h3⟩ := AnyL.get b i (Nat.lt_of_succ_lt_succ h)
    exact ⟨v, d, h1, List.mem_cons_of_mem _ h2, h3⟩
/-- what is new in H' -/
def nw (H H' : Hp) : Hp := fun a => if H a = none then H' a else none
theorem nw_put {H H' : Hp} {q : Addr} {o : HO} (h : H q = none) : nw H (upd H' q o) q = some o := by
  show (if H q = none then (upd H' q o) q else none) = _
  rw [if_pos h, upd_same]
theorem nw_same {H H1 H2 : Hp} (k : Same H1 H2) : Same (nw H H1) (nw H H2) := fun b o e => by
  have e' : (if H b = none then H1 b else none) = some o := e
  show (if H b = none then H2 b else none) = some o
  by_cases z : H b = none
  · rw [if_pos z] at e' ⊢
    exact k _ _ e'
  · rw [if_neg z] at e'
    cases e'
theorem nw_grow {H H1 H2 : Hp} {p : Addr} {o : HO} (hp : H p = some o) (k : Grow p H1 H2) : Same (nw H H1) (nw H H2) := fun b u e => by
  have e' : (if H b = none then H1 b else none) = some u := e
  show (if H b = none then H2 b else none) = some u
  by_cases z : H b = none
  · rw [if_pos z] at e' ⊢
    exact k _ _ (fun y => by rw [y, hp] at z; cases z) e'
  · rw [if_neg z] at e'
    cases e'
theorem nw_sub {H H' : Hp} : Same (nw H H') H' := fun b o e => by
  have e' : (if H b = none then H' b else none) = some o := e
  by_cases z : H b = none
  · rw [if_pos z] at e'
    exact e'
  · rw [if_neg z] at e'
    cases e'
theorem nw_del {H H' : Hp} {p : Addr} {o : HO} (hp : H p = some o) : Same (nw H H') (del H' p) := fun b u e => by
  have e' : (if H b = none then H' b else none) = some u := e
  by_cases z : H b = none
  · rw [if_pos z] at e'
    have ne : b ≠ p := fun y => by rw [y, hp] at z; cases z
    rw [del_ne ne]
    exact e'
  · rw [if_neg z] at e'
    cases e'
/-- some odd thing, all new -/
def spOddN : Sp := fun vs H Q _ => ∃ (p : Addr) (n : Nat), vs = [.ref p] ∧ Bx H p n ∧ n ≤ 1000000 ∧ ∀ v d H', d ∈ oddL → Any (nw H H') v d → Grow p H H' → Bx H' p (n + 1) → Q v H'
def spWholeR : Sp := fun vs H Q _ => ∃ v d, vs = [v] ∧ Any H v d ∧ Q (.bl (isIntD d)) H
/-! ### a list held against [] -/
def rNilE : R2 := fun x y H Q => ∃ a b xs, x = .ref a ∧ y = .ref b ∧ H a = some (.lst xs) ∧ H b = some (.lst []) ∧ Q (.bl xs.isEmpty) H
theorem op_eq_nil {X : Cx} (hu : X.A.units < cLine) : OpR X (compareOp .Eq) rNilE := by
  intro pins s σ H x y v u Q I rx ry h
  obtain ⟨a, b, xs, rfl, rfl, ea, eb, q⟩ := h
  obtain rfl : v = Value.ref a := rx
  obtain rfl : u = Value.ref b := ry
  obtain ⟨its, ra, pa, _⟩ := I.list (SqL.of ea)
  obtain ⟨its2, rb, pb, _⟩ := I.list (SqL.of eb)
  cases rb
  have ln := ra.length
  cases xs with
  | nil =>
    cases ra
    exact SeqAt.eq_listAt (e := fun _ => true) pa.isList pb.isList rfl hu (fun j h1 h2 => absurd h1 (Nat.not_lt_zero j)) ⟨.bl true, H, I, rfl, q⟩
  | cons z zs =>
    refine SeqAt.eq_list_lengthsAt pa.isList pb.isList ?_ hu ⟨.bl false, H, I, rfl, q⟩
    simp
    intro e
    rw [e] at ln
    cases ln
/-- some of the items, by a test of each; what is asked is whether there are any -/
theorem lc_filter {J : It} {n : Nat} {G : Hp → Prop} {P : Nat → V → Prop} (w : Walk J n G (fun i H x H' => H' = H ∧ P i x)) {j : Nat} {σ : L2.St} {vs : List Nat} {tt : TT} {te : TE} {H1 : Hp} {D : Addr} {Q : Hp → Prop} (hn : n ≤ 1000) (hD : H1 D = none) (hG : ∀ H, Same H1 H → G H) (f : Nat → Bool)
    (hs : ∀ i x H, i < n → P i x → Same H1 H → wipe ((wipe σ vs).set j (some x)) vs = wipe σ vs ∧ (∀ k : Bool → Hp → Prop, (∀ H', Same H H' → k (f i) H') → tt ((wipe σ vs).set j (some x)) H k) ∧ ∀ (k : VK) (H' : Hp), k x H' → te ((wipe σ vs).set j (some x)) H' k)
    (hq : ∀ H acc, Same H1 H → H D = some (.lst acc) → acc.isEmpty = (List.range n).all (fun i => !f i) → Q H) :
    ∃ W : Nat → Nat → Hp → Prop, (∃ m, W 0 m (upd H1 D (.lst []))) ∧ ∀ i m H, W i m H →
      (J.stop i H ∧ Q H) ∨ (J.go i H ∧ ∃ Nx : Hp → Prop, (∀ H', Nx H' → ∃ m', m' < m ∧ W (i + 1) m' H') ∧ ∀ x H', J.yld i H x H' → gName j x (wipe σ vs) H' fun σ2 H2 => wipe σ2 vs = wipe σ vs ∧ tt σ2 H2 fun b H3 =>
        if b = true then te σ2 H3 fun y H4 => ∃ acc, H4 D = some (.lst acc) ∧ acc.length < sizeLine ∧ Nx (upd H4 D (.lst (acc ++ [y]))) else Nx H3) := by
  refine lc_it w (Qd := Q) (Pv := fun i H => Same H1 H ∧ ∃ acc, H D = some (.lst acc) ∧ acc.length ≤ i ∧ acc.isEmpty = (List.range i).all (fun i => !f i)) ⟨same_new hD, [], upd_same, Nat.le_refl _, rfl⟩ (fun i H _ h => hG H h.1) ?_ ?_
  · rintro i x H H' hi ⟨s1, acc, ha, hl, ea⟩ ⟨rfl, hp⟩
    obtain ⟨e1, e2, e3⟩ := hs i x H' hi hp s1
    refine ⟨e1, e2 _ fun H4 s2 => ?_⟩
    cases fi : f i with
    | true =>
      refine iteT (e3 _ _ ⟨acc, s2 _ _ ha, Nat.lt_of_lt_of_le (by omega : acc.length < 1000) (by decide), ?_, acc ++ [x], upd_same, by rw [List.length_append]; exact Nat.succ_le_succ hl, ?_⟩)
      · intro b o e
        have ne : b ≠ D := ne_of_none e hD
        rw [upd_ne ne]
        exact s2 _ _ (s1 _ _ e)
      · rw [List.range_succ, List.all_append]
        simp [fi]
    | false =>
      refine iteF ⟨s1.trans s2, acc, s2 _ _ ha, by omega, ?_⟩
      rw [ea, List.range_succ, List.all_append]
      simp [fi]
  · rintro H ⟨s1, acc, ha, hl, ea⟩
    exact hq H acc s1 ha ea
theorem all_get {α : Type} (g : α → Bool) (dd : α) (l : List α) : (List.range l.length).all (fun i => g (l[i]?.getD dd)) = l.all g := by
  have e := congrArg (fun z : List Bool => z.all id) (map_get g dd l)
  simpa [List.all_map, Function.comp_def] using e
/-- None or an int -/
def oV : Option Int → V
  | none => .non | some n => .int n
def spRowR : Sp := fun vs H Q _ => ∃ v d wo, vs = [v, oV wo] ∧ Any H v d ∧ (itemsD d).length ≤ 1000 ∧ ∀ H', Same H H' → Q (.bl (isVecD (wo.getD (itemsD d).length) d)) H'
def spSheetR : Sp := fun vs H Q _ => ∃ v d ho w, vs = [v, oV ho, .int w] ∧ Any H v d ∧ Fit d ∧ ∀ H', Same H H' → Q (.bl (isMatD (ho.getD (itemsD d).length) w d)) H'
end Rw

set_option Elab.async false
set_option linter.all false
set_option maxRecDepth 100000
set_option maxHeartbeats 4000000
/-! TkN: data that is small enough to be shown. -/
namespace Rw
open PySem PySem.Spec PyProof.Rows L2
theorem list_len (t : Str) (r : List Str) : (listText (t :: r)).length = t.length + piled r + 2 := by
  have a : (listText (t :: r)).length = (textFrom 1 (("[" : Str) ++ (if (0 : Nat) > 0 then ", " else "" : String) ++ t) r).length + 1 := by
    show (textFrom 0 "[" (t :: r) ++ "]").length = _
    rw [strLen_append]
    rfl
  rw [a, textFrom_length_pos r 1 _ (by decide), strLen_append, strLen_append]
  show 1 + 0 + t.length + piled r + 1 = _
  omega
/-- small enough, at the n-th level of lists -/
structure Tm (n : Nat) (d : PyData) : Prop where
  sh : d.showable = true
  dp : d.depth ≤ 3 + n
  ln : d.shown.length ≤ 50 * 8 ^ n
theorem Tm.up {n m : Nat} {d : PyData} (h : Tm n d) (l : n ≤ m) : Tm m d := ⟨h.sh, by have := h.dp; omega, Nat.le_trans h.ln (Nat.mul_le_mul_left _ (Nat.pow_le_pow_right (by decide) l))⟩
theorem piled_le {B : Nat} : ∀ {ts : List Str}, (∀ t ∈ ts, t.length ≤ B) → piled ts ≤ ts.length * (B + 2)
  | [], _ => by rw [piled_nil]; exact Nat.zero_le _
  | t :: ts, h => by
    rw [piled_cons, List.length_cons, Nat.succ_mul]
    have a := h t List.mem_cons_self
    have b := piled_le (ts := ts) fun x hx => h x (List.mem_cons_of_mem _ hx)
    omega
theorem shownAll_map : ∀ ds : List PyData, PyData.shownAll ds = ds.map PyData.shown
  | [] => by simp only [PyData.shownAll]; rfl
  | d :: ds => by
    simp only [PyData.shownAll]
    rw [shownAll_map ds] <;> rfl
theorem tm_all {n : Nat} : ∀ {ds : List PyData}, (∀ d ∈ ds, Tm n d) → PyData.showableAll ds = true ∧ PyData.depthAll ds ≤ 3 + n ∧ ∀ t ∈ PyData.shownAll ds, t.length ≤ 50 * 8 ^ n
  | [], _ => ⟨by simp only [PyData.showableAll], by simp only [PyData.depthAll]; omega, fun t ht => by simp only [PyData.shownAll] at ht; cases ht⟩
  | d :: ds, h => by
    obtain ⟨a, b, c⟩ := tm_all (ds := ds) fun x hx => h x (List.mem_cons_of_mem _ hx)
    have e := h d List.mem_cons_self
    refine ⟨?_, ?_, ?_⟩
    · simp only [PyData.showableAll, e.sh, a, Bool.and_self]
    · simp only [PyData.depthAll]
      have := e.dp
      omega
    · intro t ht
      simp only [PyData.shownAll] at ht
      rcases List.mem_cons.mp ht with z | z
      · rw [z]
        exact e.ln
      · exact c t z
theorem tm_num {n : Nat} {k : Nat} (l : k ≤ 6) : k * (50 * 8 ^ n + 2) + 3 ≤ 50 * 8 ^ (n + 1) := by
  have p : 0 < 8 ^ n := Nat.pow_pos (by decide)
  have q : k * (50 * 8 ^ n + 2) ≤ 6 * (50 * 8 ^ n + 2) := Nat.mul_le_mul_right _ l
  rw [Nat.pow_succ]
  omega
theorem tm_list {n : Nat} {ds : List PyData} (l : ds.length ≤ 6) (h : ∀ d ∈ ds, Tm n d) : Tm (n + 1) (.list ds) := by
  obtain ⟨a, b, c⟩ := tm_all h
  refine ⟨by simp only [PyData.showable]; exact a, by simp only [PyData.depth]; omega, ?_⟩
  simp only [PyData.shown]
  have ln : (PyData.shownAll ds).length = ds.length := by rw [shownAll_map, List.length_map]
  have z := tm_num (n := n) l
  generalize PyData.shownAll ds = ts at c ln
  cases ts with
  | nil =>
    have e : (listText []).length = 2 := rfl
    rw [e]
    omega
  | cons t r =>
    rw [list_len]
    have p := piled_le c
    rw [piled_cons, ln] at p
    omega
theorem tm_tup {n : Nat} {ds : List PyData} (l : ds.length ≤ 6) (h : ∀ d ∈ ds, Tm n d) : Tm (n + 1) (.tuple ds) := by
  obtain ⟨a, b, c⟩ := tm_all h
  refine ⟨by simp only [PyData.showable]; exact a, by simp only [PyData.depth]; omega, ?_⟩
  simp only [PyData.shown]
  have ln : (PyData.shownAll ds).length = ds.length := by rw [shownAll_map, List.length_map]
  have z := tm_num (n := n) l
  generalize PyData.shownAll ds = ts at c ln
  have p := piled_le c
  rw [ln] at p
  have e : (tupleText ts).length ≤ 1 + (Str.join ", " ts).length + 2 := by
    show (("(" : Str) ++ Str.join ", " ts ++ (if ts.length == 1 then ",)" else ")" : String)).length ≤ _
    rw [strLen_append, strLen_append]
    have e1 : (("(" : String) : Str).length = 1 := rfl
    have e2 : ((if ts.length == 1 then ",)" else ")" : String) : Str).length ≤ 2 := by
      split
      · exact Nat.le_of_eq rfl
      · exact Nat.le_succ_of_le (Nat.le_of_eq rfl)
    omega
  cases ts with
  | nil =>
    have e3 : (Str.join ", " []).length = 0 := rfl
    omega
  | cons t r =>
    have e3 := join_length_add (t :: r) (by simp)
    omega
theorem int_len {n : Int} (h : n.natAbs < 10 ^ 40) : (PyData.int n).shown.length ≤ 41 := by
  simp only [PyData.shown]
  show (Str.ofString (toString n)).length ≤ 41
  rw [PySem.ofString_length]
  exact int_text_length_le10 (by decide) h
theorem log2_small {n : Int} (h : n.natAbs < 10 ^ 40) : n.natAbs.log2 < 400 := by
  by_cases z : n.natAbs = 0
  · rw [z]
    decide
  · exact (Nat.log2_lt z).mpr (Nat.lt_trans h (by decide +kernel))
theorem tm_int {n : Int} (h : n.natAbs < 10 ^ 40) : Tm 0 (.int n) := by
  refine ⟨?_, by simp only [PyData.depth]; omega, Nat.le_trans (int_len h) (by decide)⟩
  simp only [PyData.showable]
  exact decide_eq_true (Nat.lt_trans (log2_small h) (by decide))
def smallB (d : PyData) : Bool := match d with
  | .int n => decide (n.natAbs < 10 ^ 40) | _ => true
/-- a cell: an int that is not great, or an odd thing -/
structure Cell (d : PyData) : Prop where
  tm : Tm 0 d
  f1 : Fit1 d
  f2 : Fit d
  sm : smallB d = true
theorem cell_sm {d : PyData} {n : Int} (c : Cell d) (e : d = .int n) : n.natAbs.log2 < 400 := by
  have h := c.sm
  rw [e] at h
  exact log2_small (of_decide_eq_true h)
theorem fit1_flat {d : PyData} (e : itemsD d = []) : Fit1 d := ⟨by rw [e]; exact Nat.zero_le _, fun n h => by rw [e] at h; cases h⟩
theorem fit_flat {d : PyData} (e : itemsD d = []) : Fit d := ⟨fit1_flat e, fun x h => by rw [e] at h; cases h⟩
theorem cell_int {n : Int} (h : n.natAbs < 10 ^ 40) : Cell (.int n) := ⟨tm_int h, fit1_flat rfl, fit_flat rfl, decide_eq_true h⟩
theorem fit1_of {d : PyData} {ds : List PyData} (e : itemsD d = ds) (l : ds.length ≤ 1000) (h : ∀ x ∈ ds, smallB x = true) : Fit1 d :=
  ⟨by rw [e]; exact l, fun n hn => by rw [e] at hn; exact log2_small (of_decide_eq_true (h _ hn))⟩
theorem odd_cell : ∀ d ∈ oddL, Cell d := by
  have a : ∀ d ∈ oddL, d.showable = true ∧ d.depth ≤ 3 ∧ d.shown.length ≤ 50 := by decide +kernel
  have b : ∀ d ∈ oddL, (itemsD d).length ≤ 1000 ∧ (∀ e ∈ itemsD d, smallB e = true ∧ (itemsD e).length ≤ 1000 ∧ ∀ x ∈ itemsD e, smallB x = true) ∧ smallB d = true := by decide +kernel
  intro d hd
  obtain ⟨a1, a2, a3⟩ := a d hd
  obtain ⟨b1, b2, b3⟩ := b d hd
  have f1 : Fit1 d := fit1_of rfl b1 fun x hx => (b2 x hx).1
  exact ⟨⟨a1, a2, a3⟩, f1, ⟨f1, fun e he => fit1_of rfl (b2 e he).2.1 (b2 e he).2.2⟩, b3⟩
/-- a row: a cell, or a list of few cells -/
structure RowT (d : PyData) : Prop where
  tm : Tm 1 d
  f1 : Fit1 d
  sm : smallB d = true
theorem Cell.row {d : PyData} (c : Cell d) : RowT d := ⟨c.tm.up (by decide), c.f1, c.sm⟩
theorem row_list {ds : List PyData} (l : ds.length ≤ 6) (h : ∀ d ∈ ds, Cell d) : RowT (.list ds) := ⟨tm_list l fun d hd => (h d hd).tm, fit1_of (ds := ds) rfl (by omega) fun x hx => (h x hx).sm, rfl⟩
/-- a sheet: a cell, or few rows -/
structure SheetT (d : PyData) : Prop where
  tm : Tm 2 d
  f : Fit d
  few : (itemsD d).length ≤ 6
theorem Cell.sheet {d : PyData} (c : Cell d) (l : (itemsD d).length ≤ 6) : SheetT d := ⟨c.tm.up (by decide), c.f2, l⟩
theorem sheet_list {ds : List PyData} (l : ds.length ≤ 6) (h : ∀ d ∈ ds, RowT d) : SheetT (.list ds) := ⟨tm_list l fun d hd => (h d hd).tm, ⟨fit1_of (ds := ds) rfl (by omega) fun x hx => (h x hx).sm, fun e he => (h e he).f1⟩, l⟩
theorem sheet_tup {ds : List PyData} (l : ds.length ≤ 6) (h : ∀ d ∈ ds, RowT d) : SheetT (.tuple ds) := ⟨tm_tup l fun d hd => (h d hd).tm, ⟨fit1_of (ds := ds) rfl (by omega) fun x hx => (h x hx).sm, fun e he => (h e he).f1⟩, l⟩
theorem odd_few : ∀ d ∈ oddL, (itemsD d).length ≤ 6 := by decide +kernel
theorem odd_sheet {d : PyData} (h : d ∈ oddL) : SheetT d := (odd_cell d h).sheet (odd_few d h)
end Rw

set_option Elab.async false
set_option linter.all false
set_option maxRecDepth 100000
set_option maxHeartbeats 4000000
/-! TkP: sums, comprehensions beside a box, data held against data. -/
namespace Rw
open PySem PySem.Spec PyProof.Rows L2
/-! ### sums -/
def S : Nat → (Nat → Int) → Int
  | 0, _ => 0
  | n + 1, f => S n f + f n
theorem S_sum (f : Nat → Int) : ∀ n, ((List.range n).map f).sum = S n f
  | 0 => rfl
  | n + 1 => by
    rw [List.range_succ, List.map_append, List.sum_append, S_sum f n]
    show S n f + (f n + 0) = S n f + f n
    omega
theorem S_congr {f g : Nat → Int} : ∀ {n : Nat}, (∀ i, i < n → f i = g i) → S n f = S n g
  | 0, _ => rfl
  | n + 1, h => by
    show S n f + f n = S n g + g n
    rw [S_congr (n := n) fun i hi => h i (by omega), h n (by omega)]
theorem S_add (f g : Nat → Int) : ∀ n, S n (fun i => f i + g i) = S n f + S n g
  | 0 => rfl
  | n + 1 => by
    show S n (fun i => f i + g i) + (f n + g n) = (S n f + f n) + (S n g + g n)
    rw [S_add f g n]
    omega
theorem S_mul (a : Int) (f : Nat → Int) : ∀ n, S n (fun i => a * f i) = a * S n f
  | 0 => by show (0 : Int) = a * 0; rw [Int.mul_zero]
  | n + 1 => by
    show S n (fun i => a * f i) + a * f n = a * (S n f + f n)
    rw [S_mul a f n, Int.mul_add]
theorem S_zero : ∀ n, S n (fun _ => 0) = 0
  | 0 => rfl
  | n + 1 => by
    show S n (fun _ => 0) + 0 = 0
    rw [S_zero n] <;> rfl
theorem S_swap (f : Nat → Nat → Int) (m : Nat) : ∀ n, S n (fun i => S m (fun k => f i k)) = S m (fun k => S n (fun i => f i k))
  | 0 => by
    show (0 : Int) = S m (fun _ => 0)
    rw [S_zero]
  | n + 1 => by
    show S n (fun i => S m (fun k => f i k)) + S m (fun k => f n k) = S m (fun k => S n (fun i => f i k) + f n k)
    rw [S_swap f m n, S_add]
theorem S_mod (p : Int) {f g : Nat → Int} : ∀ {n : Nat}, (∀ i, i < n → f i % p = g i % p) → S n f % p = S n g % p
  | 0, _ => rfl
  | n + 1, h => by
    show (S n f + f n) % p = (S n g + g n) % p
    rw [Int.add_emod, S_mod p (n := n) fun i hi => h i (by omega), h n (by omega), ← Int.add_emod]
/-- leading by the product is leading twice -/
theorem S_assoc (p : Int) (v : Nat → Int) (a b : Nat → Nat → Int) (n m c : Nat) :
    S n (fun i => v i * (S m (fun k => a i k * b k c) % p)) % p = S m (fun k => (S n (fun i => v i * a i k) % p) * b k c) % p := by
  have e1 : S n (fun i => v i * (S m (fun k => a i k * b k c) % p)) % p = S n (fun i => S m (fun k => v i * a i k * b k c)) % p := by
    refine S_mod p fun i _ => ?_
    have : S m (fun k => v i * a i k * b k c) = v i * S m (fun k => a i k * b k c) := by
      rw [← S_mul]
      exact S_congr fun k _ => Int.mul_assoc _ _ _
    rw [this, Int.mul_emod, Int.emod_emod_of_dvd _ (Int.dvd_refl p), ← Int.mul_emod]
  have e2 : S m (fun k => (S n (fun i => v i * a i k) % p) * b k c) % p = S m (fun k => S n (fun i => v i * a i k * b k c)) % p := by
    refine S_mod p fun k _ => ?_
    have : S n (fun i => v i * a i k * b k c) = S n (fun i => v i * a i k) * b k c := by
      rw [Int.mul_comm (S n _) (b k c), ← S_mul]
      exact S_congr fun i _ => Int.mul_comm _ _
    rw [this, Int.mul_emod, Int.emod_emod_of_dvd _ (Int.dvd_refl p), ← Int.mul_emod]
  rw [e1, e2, S_swap]
/-! ### data held against data -/
mutual
theorem any_dp {K : PySem.W.Frag} {H : Hp} : ∀ (d : PyData) (v : V), Any H v d → d.canLay0 = true → Dp K H v d
  | .none, _, h, _ => by
    cases h
    exact .non
  | .bool b, _, h, _ => by
    cases h
    exact .bl b
  | .int i, _, h, _ => by
    cases h
    exact .int i
  | .str x, _, h, _ => by
    cases h
    exact .str x
  | .list ds, _, h, c => by
    cases h with
    | lst e a => exact .lst (SqL.of e) (any_dpL ds _ a (by simpa [PyData.canLay0] using c))
  | .tuple ds, _, h, c => by
    cases h with
    | tup e a => exact .tup (SqT.of e) (any_dpL ds _ a (by simpa [PyData.canLay0] using c))
  | .dict ds, _, h, c => by simp [PyData.canLay0] at c
theorem any_dpL {K : PySem.W.Frag} {H : Hp} : ∀ (ds : List PyData) (vs : List V), AnyL H vs ds → PyData.canLayAll0 ds = true → DpAll K H vs ds
  | [], _, h, _ => by
    cases h
    exact .nil
  | d :: ds, _, h, c => by
    have c' : d.canLay0 = true ∧ PyData.canLayAll0 ds = true := by simpa [PyData.canLayAll0] using c
    cases h with
    | cons a b => exact .cons (any_dp d _ a c'.1) (any_dpL ds _ b c'.2)
end
theorem lay_all : ∀ {ds : List PyData}, (∀ d, d ∈ ds → d.canLay0 = true) → PyData.canLayAll0 ds = true
  | [], _ => by simp [PyData.canLayAll0]
  | d :: ds, h => by simp [PyData.canLayAll0, h d List.mem_cons_self, lay_all (ds := ds) fun x hx => h x (List.mem_cons_of_mem _ hx)]
theorem lay_tup {ds : List PyData} (h : ∀ d, d ∈ ds → d.canLay0 = true) : (PyData.tuple ds).canLay0 = true := by
  simp [PyData.canLay0, lay_all h]
theorem lay_list {ds : List PyData} (h : ∀ d, d ∈ ds → d.canLay0 = true) : (PyData.list ds).canLay0 = true := by
  simp [PyData.canLay0, lay_all h]
theorem lay_ints (ns : List Int) : ∀ d, d ∈ ns.map PyData.int → d.canLay0 = true := by
  intro d hd
  obtain ⟨n, _, rfl⟩ := List.mem_map.mp hd
  simp [PyData.canLay0]
/-- the same data: not unlike -/
theorem ne_same {K : PySem.W.Frag} {H : Hp} {x y : V} {d : PyData} {Q : VK} (a : Any H x d) (b : Any H y d) (c : d.canLay0 = true) (l : d.depth ≤ 64) (q : Q (.bl false) H) : rNeD K x y H Q := by
  have s : SeqAt.shaped d = true := by
    unfold SeqAt.shaped
    rw [c, decide_eq_true l] <;> rfl
  refine ⟨d, d, any_dp d x a c, any_dp d y b c, s, s, ?_⟩
  rw [SeqAt.eqv_refl d c]
  exact q
theorem eq_same {K : PySem.W.Frag} {H : Hp} {x y : V} {d : PyData} {Q : VK} (a : Any H x d) (b : Any H y d) (c : d.canLay0 = true) (l : d.depth ≤ 64) (q : Q (.bl true) H) : rEqD K x y H Q := by
  have s : SeqAt.shaped d = true := by
    unfold SeqAt.shaped
    rw [c, decide_eq_true l] <;> rfl
  refine ⟨d, d, any_dp d x a c, any_dp d y b c, s, s, ?_⟩
  rw [SeqAt.eqv_refl d c]
  exact q
/-! ### comprehensions beside a box -/
theorem lc_box {J : It} {n : Nat} {G : Hp → Prop} {P : Nat → V → Prop} (w : Walk J n G (fun i H x H' => H' = H ∧ P i x)) {j : Nat} {σ : L2.St} {vs : List Nat} {te : TE} {H1 : Hp} {p D : Addr} {c t : Nat} {Q : Hp → Prop} (hn : n ≤ 1000) (hD : H1 D = none) (b0 : Bx H1 p c) (hG : ∀ H, Grow p H1 H → G H) (Good : PyData → Prop)
    (hs : ∀ i x H, i < n → P i x → Grow p H1 H → Bx H p (c + i * t) → (∃ o, H D = some o) → wipe ((wipe σ vs).set j (some x)) vs = wipe σ vs ∧ ∀ k : VK, (∀ y d H', Grow p H H' → Bx H' p (c + i * t + t) → Good d → Any (del (del H' p) D) y d → k y H') → te ((wipe σ vs).set j (some x)) H k)
    (hq : ∀ H acc ds, Grow p H1 H → Bx H p (c + n * t) → H D = some (.lst acc) → AnyL (del (del H p) D) acc ds → ds.length = n → (∀ d, d ∈ ds → Good d) → Q H) :
    ∃ W : Nat → Nat → Hp → Prop, (∃ m, W 0 m (upd H1 D (.lst []))) ∧ ∀ i m H, W i m H →
      (J.stop i H ∧ Q H) ∨ (J.go i H ∧ ∃ Nx : Hp → Prop, (∀ H', Nx H' → ∃ m', m' < m ∧ W (i + 1) m' H') ∧ ∀ x H', J.yld i H x H' → gName j x (wipe σ vs) H' fun σ2 H2 => wipe σ2 vs = wipe σ vs ∧ tYes σ2 H2 fun b H3 =>
        if b = true then te σ2 H3 fun y H4 => ∃ acc, H4 D = some (.lst acc) ∧ acc.length < sizeLine ∧ Nx (upd H4 D (.lst (acc ++ [y]))) else Nx H3) := by
  have pD := b0.ne hD
  refine lc_it w (Qd := Q) (Pv := fun i H => Grow p H1 H ∧ Bx H p (c + i * t) ∧ ∃ acc ds, H D = some (.lst acc) ∧ AnyL (del (del H p) D) acc ds ∧ ds.length = i ∧ ∀ d, d ∈ ds → Good d) ⟨Grow.of (same_new hD), by simpa using b0.keep (same_new hD), [], [], upd_same, .nil, rfl, fun d hd => (nomatch hd)⟩ (fun i H _ h => hG H h.1) ?_ ?_
  · rintro i x H H' hi ⟨g, b, acc, ds, ha, al, l, gd⟩ ⟨rfl, hp⟩
    obtain ⟨e1, e2⟩ := hs i x H' hi hp g b ⟨_, ha⟩
    refine ⟨e1, ?_⟩
    show te _ _ _
    refine e2 _ fun y d H4 g4 b4 gd4 an => ?_
    have ha4 := g4 _ _ pD.symm ha
    have ln := anyL_len al
    have eqd : ∀ o, del (del (upd H4 D o) p) D = del (del H4 p) D := fun o => by
      funext z
      by_cases y1 : z = D
      · rw [y1, del_same, del_same]
      · rw [del_ne y1, del_ne y1]
        by_cases y2 : z = p
        · rw [y2, del_same, del_same]
        · rw [del_ne y2, del_ne y2, upd_ne y1]
    refine ⟨acc, ha4, Nat.lt_of_lt_of_le (by omega : acc.length < 1000) (by decide), ?_, ?_, acc ++ [y], ds ++ [d], upd_same, ?_, by rw [List.length_append, l] <;> rfl, ?_⟩
    · intro z o ne eo
      rw [upd_ne (ne_of_none eo hD)]
      exact (g.trans g4) z o ne eo
    · obtain ⟨a1, a2, a3, h1, rest⟩ := b4
      refine Bx.more ⟨a1, a2, a3, by rw [upd_ne pD]; exact h1, rest⟩ ?_
      rw [Nat.succ_mul]
      omega
    · rw [eqd]
      exact anyL_snoc (anyL_keep (Grow.del (Grow.of g4.del)) al) an
    · intro z hz
      rcases List.mem_append.mp hz with q | q
      · exact gd z q
      · rw [List.mem_singleton.mp q]
        exact gd4
  · rintro H ⟨g, b, acc, ds, ha, al, l, gd⟩
    exact hq H acc ds g b ha al l gd
end Rw

set_option Elab.async false
set_option linter.all false
set_option maxRecDepth 100000
set_option maxHeartbeats 4000000
/-! K3D: the law's cells, boxes, draws, numbers, sheets. -/
namespace Rw
open PySem PySem.Spec PyProof.Rows L2
/-- a row of w ints that are not too great -/
def RowI (w : Nat) (d : PyData) : Prop := ∃ ns : List Int, (d = .list (ns.map .int) ∨ d = .tuple (ns.map .int)) ∧ ns.length = w ∧ ∀ n, n ∈ ns → n.natAbs < 10 ^ 40
theorem erase_map : ∀ (xs : List Int) (i : Nat), (xs.map V.int).eraseIdx i = (xs.eraseIdx i).map V.int
  | [], _ => rfl
  | _ :: _, 0 => rfl
  | x :: xs, i + 1 => by
    show V.int x :: (xs.map V.int).eraseIdx i = V.int x :: (xs.eraseIdx i).map V.int
    rw [erase_map xs i]
theorem ixn {n j : Nat} (hj : j < n) : ixN n (j : Int) = some j := by
  unfold ixN
  rw [if_pos (by omega), if_pos (by omega)]
  simp
theorem ints_row3 {H : Hp} {b : Addr} {r : List Int} (h : H b = some (.lst (r.map V.int))) : Any H (.ref b) (.list (r.map .int)) := .lst h (ints_anyL r)
def spMix6 : Sp := fun vs H Q _ => ∃ (p q : Addr) (n : Nat), vs = [.ref p, .ref q] ∧ Bx H p n ∧ n ≤ 900000 ∧ H q = some (.lst (primesL.map V.int)) ∧ ∀ (l : Addr) (ms : List Int) (H' : Hp), H l = none → H' l = some (.lst (ms.map V.int)) → ms.length = 6 → (∀ m, m ∈ ms → m ∈ primesL) → Grow p H H' → Bx H' p (n + 10) → Q (.ref l) H'
def spNums : Sp := fun vs H Q _ => ∃ (p : Addr) (m : Int) (k n : Nat), vs = [.ref p, .int m, .int (k : Int)] ∧ m ∈ primesL ∧ k ≤ 6 ∧ Bx H p n ∧ n ≤ 950000 ∧ ∀ (l : Addr) (ns : List Int) (H' : Hp), H l = none → H' l = some (.lst (ns.map V.int)) → ns.length = k → (∀ n, n ∈ ns → n.natAbs < 10 ^ 40) → Grow p H H' → Bx H' p (n + 10) → Q (.ref l) H'
def spSheet3 : Sp := fun vs H Q _ => ∃ (p : Addr) (m : Int) (hi wi n : Nat), vs = [.ref p, .int m, .int (hi : Int), .int (wi : Int)] ∧ m ∈ primesL ∧ hi ≤ 6 ∧ wi ≤ 6 ∧ Bx H p n ∧ n ≤ 900000 ∧ ∀ (l : Addr) (ds : List PyData) (H' : Hp), H l = none → Any (del H' p) (.ref l) (.list ds) → ds.length = hi → (∀ d, d ∈ ds → RowI wi d) → Grow p H H' → Bx H' p (n + 100) → Q (.ref l) H'
end Rw
namespace K3
open PySem PySem.Spec PyProof.Rows L2 Rw
abbrev sCell : Stmt := top 18
abbrev sBox : Stmt := top 19
abbrev sTake : Stmt := top 20
abbrev sMix : Stmt := top 21
abbrev sNums : Stmt := top 23
abbrev sSheet : Stmt := top 24
theorem scCell : FnScope ["_law_script", "_law_k"] ["_law_script", "_law_k"] (defScope sCell) := ⟨rfl, rfl, rfl, by decide +kernel, rfl, by decide +kernel, by decide +kernel⟩
theorem scBox : FnScope ["_law_cell_here"] ["_law_cell_here"] (defScope sBox) := ⟨rfl, rfl, rfl, by decide +kernel, rfl, by decide +kernel, by decide +kernel⟩
theorem scTake : FnScope ["_law_box_here", "_law_many", "_law_digit", "_law_number"] ["_law_box_here", "_law_many"] (defScope sTake) := ⟨rfl, rfl, rfl, by decide +kernel, rfl, by decide +kernel, by decide +kernel⟩
abbrev NMix : List Str := ["_law_box_here", "_law_some", "_law_left", "_law_k"]
theorem scMix : FnScope NMix ["_law_box_here", "_law_some"] (defScope sMix) := ⟨rfl, rfl, rfl, by decide +kernel, rfl, by decide +kernel, by decide +kernel⟩
abbrev NNums : List Str := ["_law_box_here", "_law_p", "_law_many", "_law_wide", "_law_k"]
theorem scNums : FnScope NNums ["_law_box_here", "_law_p", "_law_many"] (defScope sNums) := ⟨rfl, rfl, rfl, by decide +kernel, rfl, by decide +kernel, by decide +kernel⟩
abbrev NSheet : List Str := ["_law_box_here", "_law_p", "_law_high", "_law_wide", "_law_some", "_law_k", "_law_row"]
theorem scSheet : FnScope NSheet ["_law_box_here", "_law_p", "_law_high", "_law_wide"] (defScope sSheet) := ⟨rfl, rfl, rfl, by decide +kernel, rfl, by decide +kernel, by decide +kernel⟩
section
variable {P : Program} {w : World} {K : PySem.W.Frag} {mg : Str → Option Value} {base : Heap} {aI CP CV CM : Addr} {kI : List (Int × Value)}
theorem okCell {f : Addr} {fd : FuncData} (F : Fun K "_law_cell" "_law_cell" sCell f fd) (zl : mg "len" = none) : FnOk P w K mg base CX0 1 f fd ["_law_script", "_law_k"] (spCellR K) := by
  refine F.ok scCell (fun vs H Q E h => ?_) (fun cdv A outer s H vs Q E hr h => ?_)
  · obtain ⟨a, ns, j, rfl, _⟩ := h
    rfl
  · obtain ⟨a, ns, j, rfl, hs, hj, q⟩ := h
    refine ⟨_, (pss_cons (ps_if (pt_cmpR op_lt (pv 1) (pe_callB call_len_seq (by rfl) zl PySem.boot_len (pa_cons (pv 0) pa_nil)) (nomark _)) (pss_one (ps_ret (pe_ix ix_list (pv 0) (pv 1) (fun _ _ => rfl)))) pss_nil)
      (pss_one (ps_ret (pe_op op_add (pe_op op_mul pe_int (pv 1)) pe_int)))), ?_⟩
    refine ⟨_, rfl, _, rfl, a, _, rfl, .inl hs, _, _, rfl, rfl, _, rfl, ?_⟩
    refine ite2 (fun z => ?_) (fun z => ?_)
    · have z2 := of_decide_eq_true z
      have z3 : j < ns.length := by
        rw [List.length_map] at z2
        omega
      exact ⟨_, rfl, _, rfl, a, _, _, _, rfl, rfl, hs, atI_nat (j := j) (v := .int ns[j]) (by rw [List.getElem?_map, List.getElem?_eq_getElem z3] <;> rfl), q _⟩
    · exact ⟨_, rfl, _, _, rfl, rfl, .inr ⟨by omega, by omega⟩, _, _, rfl, rfl, q _⟩
theorem okBox {f : Addr} {fd : FuncData} (F : Fun K "_law_box" "_law_box" sBox f fd) (zm : mg "max" = none) (zi : mg "int" = none) : FnOk P w K mg base CX0 1 f fd ["_law_cell_here"] spBoxR := by
  refine F.ok scBox (fun vs H Q E h => ?_) (fun cdv A outer s H vs Q E hr h => ?_)
  · obtain ⟨z, rfl, _⟩ := h
    rfl
  · obtain ⟨z, rfl, q⟩ := h
    refine ⟨_, (pss_one (ps_ret (pe_lst (pa_cons (pe_callB (call_max2 rfl) (by rfl) zm (by decide +kernel) (pa_cons pe_int (pa_cons (pe_op op_sub (pv 0) (pe_op op_pow pe_int pe_int)) pa_nil))) (pa_cons (pe_op op_modN (pe_callTy call_int1 (by rfl) zi (by decide +kernel) (pa_cons (pv 0) pa_nil)) pe_int) (pa_cons pe_int pa_nil)))))), ?_⟩
    refine ⟨_, rfl, _, _, rfl, rfl, ⟨by decide, by decide, by decide⟩, _, _, rfl, rfl, _, _, rfl, _, rfl, .inl ⟨_, rfl, _, _, rfl, rfl, (by dsimp only; omega), (by show 3 ≤ sizeLine; decide), fun p hp => ?_⟩⟩
    refine q p _ hp (same_new hp) ⟨_, _, _, upd_same, ?_, ?_, ?_, by omega, by omega⟩
    · split <;> omega
    · rw [fmod_pos (by decide)]
      exact Int.emod_nonneg _ (by decide)
    · rw [fmod_pos (by decide)]
      exact Int.emod_lt_of_pos _ (by decide)
theorem okTake {f : Addr} {fd : FuncData} (F : Fun K "_law_take" "_law_take" sTake f fd) (zi : mg "int" = none) : FnOk P w K mg base CX0 1 f fd ["_law_box_here", "_law_many"] spTakeR := by
  refine F.ok scTake (fun vs H Q E h => ?_) (fun cdv A outer s H vs Q E hr h => ?_)
  · obtain ⟨p, m, n, rfl, _⟩ := h
    rfl
  · obtain ⟨p, m, n, rfl, m0, m1, ⟨a, b, c, hp, a0, b0, b1, c0, c1⟩, hn, q⟩ := h
    refine ⟨_, (pss_cons (ps_if (pt_cmpR op_gt (pe_ix ix_list (pv 0) pe_int (fun _ _ => rfl)) pe_int (nomark _)) (pss_cons (ps_set (i := 2) scTake.nd rfl (Or.inl rfl) (pe_op op_modN (pe_callTy call_int1 (by rfl) zi (by decide +kernel) (pa_cons (pe_ix ix_list (pv 0) pe_int (fun _ _ => rfl)) pa_nil)) (pv 1)))
        (pss_cons (ps_asg (pe_op op_fdivW (pe_ix ix_list (pv 0) pe_int (fun _ _ => rfl)) (pv 1)) (pg_sub (pv 0) pe_int set_list))
        (pss_one (ps_ret (pv 2))))) pss_nil)
      (pss_cons (ps_asg (pe_op op_add (pe_ix ix_list (pv 0) pe_int (fun _ _ => rfl)) pe_int) (pg_sub (pv 0) pe_int set_list))
      (pss_cons (ps_set (i := 3) scTake.nd rfl (Or.inl rfl) (pe_op op_modN (pe_op op_pow (pe_callTy call_int1 (by rfl) zi (by decide +kernel) (pa_cons (pe_op op_add (pe_op op_add (pe_ix ix_list (pv 0) pe_int (fun _ _ => rfl)) (pe_op op_mul pe_int (pe_ix ix_list (pv 0) pe_int (fun _ _ => rfl)))) pe_int) pa_nil)) pe_int) pe_int))
      (pss_cons (ps_set (i := 3) scTake.nd rfl (Or.inl rfl) (pe_op op_modN (pe_op op_pow (pe_callTy call_int1 (by rfl) zi (by decide +kernel) (pa_cons (pe_op op_add (pv 3) (pe_op op_mul pe_int (pe_ix ix_list (pv 0) pe_int (fun _ _ => rfl)))) pa_nil)) pe_int) pe_int))
      (pss_one (ps_ret (pe_op op_modN (pe_callTy call_int1 (by rfl) zi (by decide +kernel) (pa_cons (pe_op op_fdivW (pv 3) pe_int) pa_nil)) (pv 1)))))))), ?_⟩
    refine ⟨_, rfl, p, _, 0, _, rfl, rfl, SqL.of hp, atI_nat (j := 0) rfl, _, _, rfl, rfl, _, rfl, ?_⟩
    refine ite2 (fun z => ?_) (fun z => ?_)
    · refine ⟨_, rfl, p, _, 0, _, rfl, rfl, SqL.of hp, atI_nat (j := 0) rfl, .inl ⟨_, rfl, _, rfl, _, _, rfl, rfl, (by show m ≠ 0; omega), ?_⟩⟩
      refine ⟨_, rfl, p, _, 0, _, rfl, rfl, SqL.of hp, atI_nat (j := 0) rfl, _, rfl, _, _, rfl, rfl, wide_div (b := 200) m0 (by omega) (by decide) (by decide), _, rfl, p, _, 0, 0, rfl, rfl, hp, rfl, ?_⟩
      refine ⟨_, rfl, ?_⟩
      show Q (.int (a.fmod m)) _
      rw [fmod_pos m0]
      exact q _ _ (Int.emod_nonneg _ (by omega)) (Int.emod_lt_of_pos _ m0) Grow.put ⟨_, b, c, upd_same, fdiv_nonneg' a0 m0, b0, b1, c0, by omega⟩
    · refine ⟨_, rfl, p, _, 2, _, rfl, rfl, SqL.of hp, atI_nat (j := 2) rfl, _, _, rfl, rfl, _, rfl, p, _, 2, 2, rfl, rfl, hp, rfl, ?_⟩
      have hp2 : (upd H p (.lst ([V.int a, V.int b, V.int c].set 2 (.int (c + 1))))) p = some (.lst [.int a, .int b, .int (c + 1)]) := upd_same
      refine ⟨_, rfl, p, _, 1, _, rfl, rfl, SqL.of hp2, atI_nat (j := 1) rfl, _, rfl, p, _, 2, _, rfl, rfl, SqL.of hp2, atI_nat (j := 2) rfl, _, _, rfl, rfl, .inl ⟨by omega, by omega⟩, _, _, rfl, rfl, _, _, rfl, rfl, .inl ⟨_, rfl, _, _, rfl, rfl, ⟨by decide, by decide, by omega⟩, _, _, rfl, rfl, (by dsimp only; omega), ?_⟩⟩
      generalize ((b + _ * (c + 1) + _) ^ _ : Int) = y1
      have y2 : 0 ≤ y1.fmod 2147483647 ∧ y1.fmod 2147483647 < 2147483647 := by
        rw [fmod_pos (by decide)]
        exact ⟨Int.emod_nonneg _ (by decide), Int.emod_lt_of_pos _ (by decide)⟩
      refine ⟨_, rfl, _, rfl, p, _, 2, _, rfl, rfl, SqL.of hp2, atI_nat (j := 2) rfl, _, _, rfl, rfl, .inl ⟨by omega, by omega⟩, _, _, rfl, rfl, .inl ⟨_, rfl, _, _, rfl, rfl, ⟨by decide, by decide, by omega⟩, _, _, rfl, rfl, (by dsimp only; omega), ?_⟩⟩
      generalize ((y1.fmod 2147483647 + _ * (c + 1)) ^ _ : Int) = y4
      refine ⟨_, rfl, _, _, rfl, rfl, ⟨by decide, by decide +kernel⟩, .inl ⟨_, rfl, _, rfl, _, _, rfl, rfl, (by show m ≠ 0; omega), ?_⟩⟩
      show Q (.int (Int.fmod _ m)) _
      rw [fmod_pos m0]
      exact q _ _ (Int.emod_nonneg _ (by omega)) (Int.emod_lt_of_pos _ m0) Grow.put ⟨a, b, c + 1, hp2, a0, b0, b1, by omega, by omega⟩
theorem okMix {f : Addr} {fd : FuncData} (F : Fun K "_law_mixed" "_law_mixed" sMix f fd) (T : Txt K w mg aI CP CV CM kI) (GT : Own P w K mg base CX0 1 "_law_take" ["_law_box_here", "_law_many"] [] spTakeR) : FnOk P w K mg base CX0 2 f fd ["_law_box_here", "_law_some"] spMix6 := by
  refine F.ok scMix (fun vs H Q E h => ?_) (fun cdv A outer s H vs Q E hr h => ?_)
  · obtain ⟨p, q, n, rfl, _⟩ := h
    rfl
  · obtain ⟨p, q, n, rfl, bx, hn, hq, k⟩ := h
    refine ⟨_, (pss_cons (ps_set (i := 2) scMix.nd rfl (Or.inr rfl) (pe_callTy call_list_of (by rfl) T.list (by decide +kernel) (pa_cons (pv 1) pa_nil)))
      (pss_one (ps_ret (pe_lc (own := [("_law_k", 3)]) (g := gName 3) (tt := tYes) (te := tBM K "list" rPopAt (tVar 2) (tCons (tCall spTakeR [] E0 (tCons (tVar 0) (tCons (tCB (fun xs H Q => ∃ p ys, xs = [.ref p] ∧ (SqL K H p ys ∨ SqT K H p ys) ∧ Q (.int ys.length) H) (tCons (tVar 2) tNil)) tNil))) tNil)) rfl scMix.nd (pi_range1 rfl T.range (pa_cons (pe_callB call_len_seq (by rfl) T.len (by decide +kernel) (pa_cons (pv 1) pa_nil)) pa_nil)) (blkOk_by (N := NMix) (sc := defScope sMix) (by decide +kernel)) (fun _ _ _ _ _ => (pg_name (i := 3) scMix.nd rfl (Or.inl rfl))) (fun _ _ _ _ _ => pts_nil)
        (fun _ _ _ _ _ => (pe_bm PySem.F.plainAttrs_list PySem.F.slot_list_pop PySem.F.type_list_pop mt_popAt (pv 2) (pa_cons (pe_own GT (hr.mono (by decide)) pass0 (pa_cons (pv 0) (pa_cons (pe_callB call_len_seq (by rfl) T.len (by decide +kernel) (pa_cons (pv 2) pa_nil)) pa_nil))) pa_nil))))))), ?_⟩
    refine ⟨_, rfl, q, _, rfl, .inl (SqL.of hq), fun l hl => ?_⟩
    have k1 := same_new (o := .lst (primesL.map V.int)) hl
    have pl := bx.ne hl
    refine ⟨_, rfl, q, _, rfl, .inl (SqL.of (k1 _ _ hq)), _, rfl, by decide, by decide, fun D hD => ?_⟩
    have lD : l ≠ D := ne_of_none upd_same hD
    have b1 := bx.keep k1
    have pD := b1.ne hD
    refine lc_it (walk_rng (n := 6)) (Pv := fun i H2 => Grow p H H2 ∧ Bx H2 p (n + i) ∧ ∃ xs ms : List Int, H2 l = some (.lst (xs.map V.int)) ∧ xs.length = 6 - i ∧ H2 D = some (.lst (ms.map V.int)) ∧ ms.length = i ∧ (∀ m, m ∈ xs → m ∈ primesL) ∧ ∀ m, m ∈ ms → m ∈ primesL) ⟨(Grow.of k1).trans (Grow.of (same_new hD)), b1.keep (same_new hD), primesL, [], same_new hD _ _ upd_same, rfl, upd_same, rfl, fun m hm => hm, fun m hm => (nomatch hm)⟩ (fun _ _ _ _ => trivial) ?_ ?_
    · rintro i x H2 H2' hi ⟨g, b, xs, ms, e1, l1, e2, l2, m1, m2⟩ ⟨rfl, rfl⟩
      refine ⟨rfl, ?_⟩
      refine ⟨_, rfl, .inl ⟨rfl, _, SqL.of e1⟩, _, rfl, _, rfl, l, _, rfl, .inl (SqL.of e1), p, _, n + i, rfl, by rw [List.length_map]; omega, by rw [List.length_map]; omega, b, by omega, fun r H3 r0 r1 G B => ?_⟩
      rw [List.length_map] at r1
      have hr : r.toNat < xs.length := by omega
      have er : r = ((r.toNat : Nat) : Int) := by omega
      have e3 := G _ _ pl.symm e1
      refine ⟨l, _, r, r.toNat, .int xs[r.toNat], rfl, rfl, e3, by omega, by omega, ?_, ?_, ?_⟩
      · have z := (ixN_seq (ixn (n := (xs.map V.int).length) (j := r.toNat) (by rw [List.length_map]; exact hr))).1
        rw [← er] at z
        exact z
      · rw [List.getElem?_map, List.getElem?_eq_getElem hr] <;> rfl
      · refine ⟨ms.map V.int, ?_, by rw [List.length_map]; exact Nat.lt_of_le_of_lt (by omega : ms.length ≤ 1000) (by decide), ?_, ?_, xs.eraseIdx r.toNat, ms ++ [xs[r.toNat]], ?_, ?_, ?_, by rw [List.length_append, l2] <;> rfl, fun m hm => m1 m (List.mem_of_mem_eraseIdx hm), fun m hm => ?_⟩
        · rw [upd_ne lD.symm]
          exact G _ _ pD.symm e2
        · intro z o ne eo
          have z1 : z ≠ D := fun y => by
            have := k1 _ _ eo
            rw [y, hD] at this
            cases this
          rw [upd_ne z1, upd_ne (ne_of_none eo hl)]
          exact (g.trans G) z o ne eo
        · obtain ⟨a1, a2, a3, h1, rest⟩ := B
          exact ⟨a1, a2, a3, by rw [upd_ne pD, upd_ne pl]; exact h1, rest⟩
        · rw [upd_ne lD, upd_same, erase_map]
        · rw [List.length_eraseIdx_of_lt hr]
          omega
        · rw [upd_same, List.map_append] <;> rfl
        · rcases List.mem_append.mp hm with y | y
          · exact m2 m y
          · rw [List.mem_singleton.mp y]
            exact m1 _ (List.getElem_mem hr)
    · rintro H2 ⟨g, b, xs, ms, e1, l1, e2, l2, m1, m2⟩
      exact k D ms H2 (by
        cases y : H D with
        | none => rfl
        | some u =>
          rw [k1 _ _ y] at hD
          cases hD) e2 l2 m2 g (b.more (by omega))
theorem okNums {f : Addr} {fd : FuncData} (F : Fun K "_law_numbers_of" "_law_numbers_of" sNums f fd) (T : Txt K w mg aI CP CV CM kI) (GT : Own P w K mg base CX0 1 "_law_take" ["_law_box_here", "_law_many"] [] spTakeR) : FnOk P w K mg base CX0 2 f fd ["_law_box_here", "_law_p", "_law_many"] spNums := by
  refine F.ok scNums (fun vs H Q E h => ?_) (fun cdv A outer s H vs Q E hr h => ?_)
  · obtain ⟨p, m, k, n, rfl, _⟩ := h
    rfl
  · obtain ⟨p, m, k, n, rfl, hm, hk, bx, hn, q⟩ := h
    have mp := prime_pos hm
    refine ⟨_, (pss_cons (ps_set (i := 3) scNums.nd rfl (Or.inr rfl) (pe_ix ix_list (pe_lst (pa_cons (pv 1) (pa_cons (pe_op op_pow pe_int pe_int) (pa_cons pe_int pa_nil)))) (pe_own GT (hr.mono (by decide)) pass0 (pa_cons (pv 0) (pa_cons pe_int pa_nil))) (fun _ _ => rfl)))
      (pss_one (ps_ret (pe_lc (own := [("_law_k", 4)]) (g := gName 4) (tt := tYes) rfl scNums.nd (pi_range1 rfl T.range (pa_cons (pv 2) pa_nil)) (blkOk_by (N := NNums) (sc := defScope sNums) (by decide +kernel)) (fun _ _ _ _ _ => (pg_name (i := 4) scNums.nd rfl (Or.inl rfl))) (fun _ _ _ _ _ => pts_nil)
        (fun _ _ _ _ _ => (pe_op op_sub (pe_own GT (hr.mono (by decide)) pass0 (pa_cons (pv 0) (pa_cons (pe_op op_add (pe_op op_mul pe_int (pv 3)) pe_int) pa_nil))) (pv 3))))))), ?_⟩
    refine ⟨_, rfl, _, _, rfl, rfl, ⟨by decide, by decide, by decide⟩, by show 3 ≤ sizeLine; decide, fun l1 h1 => ⟨_, rfl, p, 3, n, rfl, by decide, by decide, bx.keep (same_new h1), by omega, fun r H1 r0 r1 G B => ?_⟩⟩
    have p1 := bx.ne h1
    have wd : ∃ wv : Int, ([.int m, .int (10 ^ Int.toNat 28), .int 3] : List V)[r.toNat]? = some (.int wv) ∧ 1 ≤ wv ∧ wv ≤ 10 ^ 28 := by
      rcases (by omega : r = 0 ∨ r = 1 ∨ r = 2) with e | e | e
      · subst e
        exact ⟨m, rfl, by omega, Int.le_trans mp.2 (by decide)⟩
      · subst e
        exact ⟨_, rfl, by decide, by decide⟩
      · subst e
        exact ⟨3, rfl, by decide, by decide⟩
    obtain ⟨wv, w1, w2, w3⟩ := wd
    refine ⟨l1, _, _, _, rfl, rfl, SqL.of (G l1 _ p1.symm upd_same), (by rw [← Int.toNat_of_nonneg r0]; exact atI_nat w1), ?_⟩
    have g1 : Grow p H H1 := (Grow.of (same_new h1)).trans G
    refine ⟨_, rfl, (k : Int), rfl, by omega, by omega, fun D hD => ?_⟩
    have pD := B.ne hD
    refine lc_it (walk_rng (n := k)) (Pv := fun t H2 => Grow p H1 H2 ∧ Bx H2 p (n + 1 + t) ∧ ∃ ns : List Int, H2 D = some (.lst (ns.map V.int)) ∧ ns.length = t ∧ ∀ m, m ∈ ns → m.natAbs < 10 ^ 40) ⟨Grow.of (same_new hD), B.keep (same_new hD), [], upd_same, rfl, fun m hm => (nomatch hm)⟩ (fun _ _ _ _ => trivial) ?_ ?_
    · rintro t x H2 H2' ht ⟨g2, b2, ns, e2, l2, m2⟩ ⟨rfl, rfl⟩
      refine ⟨rfl, ?_⟩
      refine ⟨_, rfl, _, rfl, _, _, rfl, rfl, .inl ⟨by decide, by decide⟩, _, _, rfl, rfl, p, _, n + 1 + t, rfl, by omega, by omega, b2, by omega, fun r H3 r0 r1 G B => ⟨_, rfl, _, _, rfl, rfl, ?_⟩⟩
      refine ⟨_, G _ _ pD.symm e2, by rw [List.length_map]; exact Nat.lt_of_le_of_lt (by omega : ns.length ≤ 1000) (by decide), ?_, ?_, ns ++ [r - wv], ?_, by rw [List.length_append, l2] <;> rfl, ?_⟩
      · intro z o ne eo
        rw [upd_ne (ne_of_none eo hD)]
        exact (g2.trans G) z o ne eo
      · obtain ⟨a1, a2, a3, h1, rest⟩ := B
        exact ⟨a1, a2, a3, by rw [upd_ne pD]; exact h1, rest⟩
      · rw [upd_same, List.map_append] <;> rfl
      · intro z hz
        rcases List.mem_append.mp hz with y | y
        · exact m2 z y
        · rw [List.mem_singleton.mp y]
          exact Nat.lt_of_le_of_lt (by omega : (r - wv).natAbs ≤ 3 * 10 ^ 28 + 10) (by decide)
    · rintro H2 ⟨g2, b2, ns, e2, l2, m2⟩
      exact q D ns H2 (by
        cases y : H D with
        | none => rfl
        | some u =>
          by_cases z : D = p
          · exact absurd z.symm pD
          · rw [g1 _ _ z y] at hD
            cases hD) e2 l2 m2 (g1.trans g2) (b2.more (by omega))
theorem okSheet {f : Addr} {fd : FuncData} (F : Fun K "_law_sheet" "_law_sheet" sSheet f fd) (T : Txt K w mg aI CP CV CM kI) (GT : Own P w K mg base CX0 1 "_law_take" ["_law_box_here", "_law_many"] [] spTakeR) (GN : Own P w K mg base CX0 2 "_law_numbers_of" ["_law_box_here", "_law_p", "_law_many"] [] spNums) :
    FnOk P w K mg base CX0 3 f fd ["_law_box_here", "_law_p", "_law_high", "_law_wide"] spSheet3 := by
  refine F.ok scSheet (fun vs H Q E h => ?_) (fun cdv A outer s H vs Q E hr h => ?_)
  · obtain ⟨p, m, hi, wi, n, rfl, _⟩ := h
    rfl
  · obtain ⟨p, m, hi, wi, n, rfl, hm, h6, w6, bx, hn, q⟩ := h
    refine ⟨_, (pss_cons (ps_setLc (i := 4) (own := [("_law_k", 5)]) (g := gName 5) (tt := tYes) rfl scSheet.nd rfl rfl (sw_true rfl rfl rfl (by decide +kernel)) (pi_range1 rfl T.range (pa_cons (pv 2) pa_nil)) (blkOk_by (N := NSheet) (sc := defScope sSheet) (by decide +kernel)) (fun _ _ _ _ _ => (pg_name (i := 5) scSheet.nd rfl (Or.inl rfl))) (fun _ _ _ _ _ => pts_nil) (fun _ _ _ _ _ => (pe_own GN (hr.mono (by decide)) pass0 (pa_cons (pv 0) (pa_cons (pv 1) (pa_cons (pv 3) pa_nil))))))
      (pss_one (ps_ret (pe_lc (own := [("_law_row", 6)]) (g := gName 6) (tt := tYes) (te := tOp (rIxL K) (tLst (tCons (tVar 6) (tCons (tCB (fun xs H Q => ∃ p ys, xs = [.ref p] ∧ ((SqL K H p ys ∧ ∀ l, H l = none → Q (.ref l) (upd H l (.tup ys))) ∨ (SqT K H p ys ∧ Q (.ref p) H))) (tCons (tVar 6) tNil)) tNil))) (tCall spTakeR [] E0 (tCons (tVar 0) (tCons (tC (.int 2)) tNil)))) rfl scSheet.nd (pi_seq (pv 4)) (blkOk_by (N := NSheet) (sc := defScope sSheet) (by decide +kernel)) (fun _ _ _ _ _ => (pg_name (i := 6) scSheet.nd rfl (Or.inl rfl))) (fun _ _ _ _ _ => pts_nil)
        (fun _ _ _ _ _ => (pe_ix ix_list (pe_lst (pa_cons (pv 6) (pa_cons (pe_callTy call_tuple_of (by rfl) T.tuple (by decide +kernel) (pa_cons (pv 6) pa_nil)) pa_nil))) (pe_own GT (hr.mono (by decide)) pass0 (pa_cons (pv 0) (pa_cons pe_int pa_nil))) (fun _ _ => rfl))))))), ?_⟩
    refine ⟨_, rfl, (hi : Int), rfl, by omega, by omega, fun D hD => ?_⟩
    have pD := bx.ne hD
    refine lc_box (walk_rng (n := hi)) (by omega) hD bx (fun _ _ => trivial) (t := 10) (fun d => ∃ ns : List Int, d = .list (ns.map .int) ∧ ns.length = wi ∧ ∀ n, n ∈ ns → n.natAbs < 10 ^ 40) ?_ ?_
    · rintro i x H1 hi' rfl g b ⟨o, hd⟩
      refine ⟨rfl, fun k' hk => ?_⟩
      refine ⟨_, rfl, _, rfl, _, rfl, p, m, wi, n + i * 10, rfl, hm, w6, b, by omega, fun l ns H2 hl e2 l2 m2 G B => ?_⟩
      exact hk _ _ _ G B ⟨ns, rfl, l2, m2⟩ (ints_row3 (by rw [del_ne (ne_of_none hd hl).symm, del_ne (b.ne hl).symm]; exact e2))
    · intro H1 acc ds g1 b1 e1 al l1 gd
      have ln := anyL_len al
      refine ⟨_, rfl, D, true, acc, rfl, SqL.of e1, fun D2 hD2 => ?_⟩
      have pD2 := b1.ne hD2
      have DD : D ≠ D2 := ne_of_none e1 hD2
      refine lc_box (walk_seq (k := true)) (by omega) hD2 b1 (fun H2 g2 => SqL.of (g2 _ _ pD.symm e1)) (t := 1) (RowI wi) ?_ ?_
      · rintro i x H2 hi' hx g b ⟨o, hd⟩
        refine ⟨rfl, fun k' hk => ?_⟩
        obtain ⟨d, hd1, an⟩ := anyL_at al hx
        obtain ⟨ns, rfl, l2, m2⟩ := gd d (List.mem_of_getElem? hd1)
        cases an with
        | lst ea ha =>
          rename_i a ys
          have eys := anyL_ints ha
          subst eys
          have aD : a ≠ D := fun y => by rw [y, del_same] at ea; cases ea
          rw [del_ne aD] at ea
          have ap : a ≠ p := fun y => by rw [y, del_same] at ea; cases ea
          rw [del_ne ap] at ea
          have aD2 : a ≠ D2 := ne_of_none ea hD2
          have ea2 := g _ _ ap ea
          refine ⟨_, rfl, _, rfl, a, _, rfl, .inl ⟨SqL.of ea2, fun q1 h1 => ?_⟩⟩
          refine ⟨by show 2 ≤ sizeLine; decide, fun q2 h2 => ?_⟩
          have kk := (same_new (o := .tup (ns.map V.int)) h1).trans (same_new (o := .lst [.ref a, .ref q1]) h2)
          refine ⟨_, rfl, p, 2, n + hi * 10 + i * 1, rfl, by decide, by decide, b.keep kk, by omega, fun r H3 r0 r1 G B => ?_⟩
          have q1p := (b.ne h1).symm
          have q2p := ((b.keep (same_new (o := .tup (ns.map V.int)) h1)).ne h2).symm
          have q1D : q1 ≠ D2 := (ne_of_none hd h1).symm
          have g3 := (Grow.of kk).trans G
          have el := G _ _ q2p (upd_same (o := .lst [.ref a, .ref q1]))
          have eq1 : H3 q1 = some (.tup (ns.map V.int)) := G _ _ q1p (by rw [upd_ne (ne_of_none upd_same h2)]; exact upd_same)
          rcases (by omega : r = 0 ∨ r = 1) with e | e
          · subst e
            exact ⟨q2, _, _, .ref a, rfl, rfl, SqL.of el, rfl, hk _ _ _ g3 B ⟨ns, .inl rfl, l2, m2⟩ (.lst (by rw [del_ne aD2, del_ne ap]; exact g3 _ _ ap ea2) (ints_anyL _))⟩
          · subst e
            exact ⟨q2, _, _, .ref q1, rfl, rfl, SqL.of el, rfl, hk _ _ _ g3 B ⟨ns, .inr rfl, l2, m2⟩ (.tup (by rw [del_ne q1D, del_ne q1p]; exact eq1) (ints_anyL _))⟩
      · intro H2 acc2 ds2 g2 b2 e2 al2 l2 gd2
        have dn : H D2 = none := by
          cases y : H D2 with
          | none => rfl
          | some u =>
            by_cases z : D2 = p
            · exact absurd z.symm pD2
            · rw [g1 _ _ z y] at hD2
              cases hD2
        refine q D2 ds2 H2 dn (.lst (by rw [del_ne pD2.symm]; exact e2) (anyL_keep same_del al2)) (by omega) gd2 (g1.trans g2) (b2.more (by omega))
end
end K3

set_option Elab.async false
set_option linter.all false
set_option maxRecDepth 100000
set_option maxHeartbeats 4000000
/-! K3E: the law's own leading, and what it keeps. -/
namespace Rw
open PySem PySem.Spec PyProof.Rows L2
theorem prods_rng {dv dm : PyData} (h : (itemsD dv).length = (itemsD dm).length) (c : Nat) : prodsL dv dm c = (List.range (itemsD dm).length).map (fun k => Rw.intD ((itemsD dv)[k]?.getD .none) * cellD ((itemsD dm)[k]?.getD .none) c) := by
  unfold prodsL
  apply List.ext_getElem
  · simp [h]
  · intro i h1 h2
    simp at h1 h2
    have i1 : i < (itemsD dv).length := by omega
    have i2 : i < (itemsD dm).length := by omega
    simp [i1, i2]
def spKept : Sp := fun vs H Q _ => ∃ (p : Int) (t : V) (ns : List Int) (w : Nat), vs = [.int p, t, .int (w : Int)] ∧ Any H t (tupI ns) ∧ ns.length = w ∧ w ≤ 1000 ∧ (∀ n, n ∈ ns → 0 ≤ n ∧ n < p) ∧ ∀ H', Same H H' → Q (.bl true) H'
end Rw
namespace K3
open PySem PySem.Spec PyProof.Rows L2 Rw
abbrev sLedL : Stmt := top 22
abbrev sKept : Stmt := top 25
abbrev NLedL : List Str := ["_law_p", "_law_vector", "_law_sheet_here", "_law_wide", "_law_j", "_law_k"]
abbrev NKept : List Str := ["_law_p", "_law_told", "_law_wide", "_law_item"]
theorem scLedL : FnScope NLedL ["_law_p", "_law_vector", "_law_sheet_here", "_law_wide"] (defScope sLedL) := ⟨rfl, rfl, rfl, by decide +kernel, rfl, by decide +kernel, by decide +kernel⟩
theorem scKept : FnScope NKept ["_law_p", "_law_told", "_law_wide"] (defScope sKept) := ⟨rfl, rfl, rfl, by decide +kernel, rfl, by decide +kernel, by decide +kernel⟩
section
variable {P : Program} {w : World} {K : PySem.W.Frag} {mg : Str → Option Value} {base : Heap} {aI CP CV CM : Addr} {kI : List (Int × Value)}
abbrev tLCell (K : PySem.W.Frag) : TE := tOp (rI CMulW fun i j => .int (i * j)) (tOp (rIx K) (tVar 1) (tVar 5)) (tOp (rIx K) (tOp (rIx K) (tVar 2) (tVar 5)) (tVar 4))
abbrev tLen (K : PySem.W.Frag) (i : Nat) : TE := tCB (fun xs H Q => ∃ p ys, xs = [.ref p] ∧ (SqL K H p ys ∨ SqT K H p ys) ∧ Q (.int ys.length) H) (tCons (tVar i) tNil)
abbrev tLCol (K : PySem.W.Frag) : TE := tOp (rI (fun _ j => j ≠ 0) fun i j => .int (i.fmod j)) (tCB (fun xs H Q => (∃ i, xs = [.int i] ∧ Q (.int i) H) ∨ ∃ k, xs = [.bl k] ∧ Q (.int (if k then 1 else 0)) H) (tCons (tCB (rSum K) (tCons (tLc (iRng1 (tCons (tLen K 2) tNil)) (gName 5) tYes (tLCell K) [5]) tNil)) tNil)) (tVar 0)
theorem okLedL {f : Addr} {fd : FuncData} (F : Fun K "_law_led" "_law_led" sLedL f fd) (T : Txt K w mg aI CP CV CM kI) : FnOk P w K mg base CX0 1 f fd ["_law_p", "_law_vector", "_law_sheet_here", "_law_wide"] spMixed := by
  refine F.ok scLedL (fun vs H Q E h => ?_) (fun cdv A outer s H vs Q E hr h => ?_)
  · obtain ⟨p, va, vm, dv, dm, W, rfl, _⟩ := h
    rfl
  · obtain ⟨p, va, vm, dv, dm, W, rfl, p0, av, am, fv, fm, ev, em, hW, q⟩ := h
    refine ⟨_, (pss_one (ps_ret (pe_callTy call_tuple_of (by rfl) T.tuple (by decide +kernel) (pa_cons (pe_lc (own := [("_law_j", 4)]) (g := gName 4) (tt := tYes) (te := tLCol K) rfl scLedL.nd (pi_range1 rfl T.range (pa_cons (pv 3) pa_nil)) (blkOk_by (N := NLedL) (sc := defScope sLedL) (by decide +kernel)) (fun _ _ _ _ _ => (pg_name (i := 4) scLedL.nd rfl (Or.inr rfl))) (fun _ _ _ _ _ => pts_nil)
      (fun _ _ _ _ _ => (pe_op op_modN (pe_callTy call_int1 (by rfl) T.int (by decide +kernel) (pa_cons (pe_callB (cr_sum rfl) (by rfl) T.sum (by decide +kernel) (pa_cons (pe_lc (own := [("_law_k", 5)]) (g := gName 5) (tt := tYes) (te := tLCell K) rfl scLedL.nd (pi_range1 (by rfl) T.range (pa_cons (pe_callB call_len_seq (by rfl) T.len (by decide +kernel) (pa_cons (pv 2) pa_nil)) pa_nil)) (blkOk_by (N := NLedL) (by rfl)) (fun _ _ _ _ _ => (pg_name (i := 5) scLedL.nd rfl (Or.inl rfl))) (fun _ _ _ _ _ => pts_nil)
        (fun _ _ _ _ _ => (pe_op op_mulW (pe_ix ix_seq (pv 1) (pv 5) (fun _ _ => rfl)) (pe_ix ix_seq (pe_ix ix_seq (pv 2) (pv 5) (fun _ _ => rfl)) (pv 4) (fun _ _ => rfl))))) pa_nil)) pa_nil)) (pv 0)))) pa_nil)))), ?_⟩
    obtain ⟨v1, v2, v3⟩ := vec_parts ev
    obtain ⟨m1, m2, m3⟩ := mat_parts em
    obtain ⟨k1, a, xs, rfl, hs1, al1⟩ := seq_of av v1
    obtain ⟨k2, b, ys, rfl, hs2, al2⟩ := seq_of am m1
    obtain ⟨fs, efs⟩ := vec_ints v3
    have l1 := anyL_len al1
    have l2 := anyL_len al2
    have l3 : (itemsD dv).length = (itemsD dm).length := Int.ofNat.inj v2
    have sz := fm.top.len
    have al1' := al1
    rw [efs] at al1'
    have exs := anyL_ints al1'
    refine ⟨_, rfl, (W : Int), rfl, by omega, by omega, fun D hD => ?_⟩
    refine lc_same (n := W) walk_rng hW hD (fun _ _ => trivial) (fun i => .int ((prodsL dv dm i).sum.fmod p)) ?_ ?_
    · rintro c x H' hc rfl s1 hd
      refine ⟨rfl, fun k' hk => ?_⟩
      refine ⟨_, rfl, b, ys, rfl, (hs2 s1 K).or, (ys.length : Int), rfl, by omega, by omega, fun D2 hD2 => ?_⟩
      refine lc_same (n := ys.length) walk_rng (by omega) hD2 (fun _ _ => trivial) (fun k => .int (Rw.intD ((itemsD dv)[k]?.getD .none) * cellD ((itemsD dm)[k]?.getD .none) c)) ?_ ?_
      · rintro k x H3 hi rfl s3 _
        refine ⟨rfl, fun k'' hk2 => ?_⟩
        have s13 := s1.trans s3
        have hk1 : k < fs.length := by
          have : (itemsD dv).length = fs.length := by rw [efs, List.length_map]
          omega
        have xk : xs[k]? = some (.int fs[k]) := by
          rw [exs, List.getElem?_map, List.getElem?_eq_getElem hk1] <;> rfl
        have vk : (itemsD dv)[k]? = some (.int fs[k]) := by
          rw [efs, List.getElem?_map, List.getElem?_eq_getElem hk1] <;> rfl
        obtain ⟨e, he, ae⟩ := anyL_at al2 (List.getElem?_eq_getElem hi)
        have hem := List.mem_of_getElem? he
        obtain ⟨r1, r2, r3⟩ := vec_parts (m3 e hem)
        obtain ⟨k3, a3, zs, er, hs3, al3⟩ := seq_of ae r1
        obtain ⟨ms, ems⟩ := vec_ints r3
        rw [ems] at al3 r2
        have ezs := anyL_ints al3
        rw [List.length_map] at r2
        have r4 : ms.length = W := Int.ofNat.inj r2
        have hc2 : c < ms.length := by omega
        have ms1 : zs[c]? = some (.int ms[c]) := by
          rw [ezs, List.getElem?_map, List.getElem?_eq_getElem hc2] <;> rfl
        have cell : cellD e c = ms[c] := by
          unfold cellD
          rw [ems, List.getElem?_map, List.getElem?_eq_getElem hc2] <;> rfl
        have sn : (fs[k]).natAbs.log2 < 400 := fv.sm _ (by
          rw [efs]
          exact List.mem_map.mpr ⟨_, List.getElem_mem hk1, rfl⟩)
        have sm : (ms[c]).natAbs.log2 < 400 := (fm.sub e hem).sm _ (by
          rw [ems]
          exact List.mem_map.mpr ⟨_, List.getElem_mem hc2, rfl⟩)
        have ixB : ∀ {kk : Bool} {q : Addr} {us : List V} {j : Nat} {u : V} {k4 : VK}, SqB K H3 kk q us → us[j]? = some u → k4 u H3 → rIx K (.ref q) (.int (j : Int)) H3 k4 := fun {kk q us j u k4} hsq hu hk4 => by
          cases kk with
          | true => exact .inl ⟨q, us, (j : Int), _, rfl, rfl, hsq, atI_nat hu, hk4⟩
          | false => exact .inr (.inl ⟨q, us, (j : Int), _, rfl, rfl, hsq, atI_nat hu, hk4⟩)
        refine ⟨_, rfl, _, rfl, ixB (hs1 s13 K) xk ?_⟩
        refine ⟨_, rfl, _, rfl, ixB (hs2 s13 K) (List.getElem?_eq_getElem hi) ?_⟩
        rw [er]
        refine ⟨_, rfl, ixB (hs3 s13 K) ms1 ⟨_, _, rfl, rfl, mulW_ok sn sm, hk2 _ _ (fun _ _ z => z) ?_⟩⟩
        rw [vk, he]
        show Any _ _ (.int (fs[k] * cellD e c))
        rw [cell]
        exact .int _
      · intro H2 acc s2 ha hal
        have e2 : acc = (prodsL dv dm c).map V.int := anyL_ints (H := del H2 D2) (by
          rw [prods_rng l3, List.map_map]
          rw [l2] at hal
          exact hal)
        refine ⟨D2, prodsL dv dm c, rfl, SqL.of (by rw [ha, e2]), .inl ⟨_, rfl, _, rfl, _, p, rfl, rfl, p0, hk _ _ s2 (.int _)⟩⟩
    · intro H' acc s1 ha hal
      have e2 : acc = (mixL p dv dm W).map V.int := anyL_ints (H := del H' D) (by
        unfold mixL
        rw [List.map_map]
        exact hal)
      refine ⟨D, acc, rfl, .inl ⟨SqL.of ha, fun l hl => q l _ (s1.free hl) (s1.trans (same_new hl)) ?_⟩⟩
      rw [e2]
      exact upd_same
abbrev tKeptT (K : PySem.W.Frag) : TT := tOr (tNot (tB (tCB (rIsi K) (tCons (tVar 3) (tCons (tC (.ty "int")) tNil))))) (tOr (tB (tCB (rIsi K) (tCons (tVar 3) (tCons (tC (.ty "bool")) tNil)))) (tNot (tTest (tChain (rI0 fun i j => .bl (decide (i ≤ j))) (rI0 fun i j => .bl (decide (i < j))) (tC (.int 0)) (tVar 3) (tVar 0)))))
theorem okKept {f : Addr} {fd : FuncData} (F : Fun K "_law_kept" "_law_kept" sKept f fd) (T : Txt K w mg aI CP CV CM kI) : FnOk P w K mg base CX0 1 f fd ["_law_p", "_law_told", "_law_wide"] spKept := by
  refine F.ok scKept (fun vs H Q E h => ?_) (fun cdv A outer s H vs Q E hr h => ?_)
  · obtain ⟨p, t, ns, W, rfl, _⟩ := h
    rfl
  · obtain ⟨p, t, ns, W, rfl, an, ln, hW, hn, q⟩ := h
    refine ⟨_, (pss_cons (ps_if (PW.pt (pw_or (pt_not (pt_val (pe_callB call_isi (by rfl) T.isi (by decide +kernel) (pa_cons (pv 1) (pa_cons (pe_bltn (v := .ty "tuple") rfl T.tuple (by decide +kernel) rfl) pa_nil))))) (pw_or1 (pt_cmpR op_ne (pe_callB call_len_seq (by rfl) T.len (by decide +kernel) (pa_cons (pv 1) pa_nil)) (pv 2) (nomark _))))) (pss_one (ps_ret pe_bl)) pss_nil)
      (pss_one (ps_ret (pe_cmpR (op_eq_nil hr.units0) (pe_lc (own := [("_law_item", 3)]) (g := gName 3) (tt := tKeptT K) rfl scKept.nd (pi_seq (pv 1)) (blkOk_by (N := NKept) (sc := defScope sKept) (by decide +kernel)) (fun _ _ _ _ _ => (pg_name (i := 3) scKept.nd rfl (Or.inl rfl)))
        (fun _ _ _ _ _ => (pts_one (PW.pt (pw_or (pt_not (pt_val (pe_callB call_isi (by rfl) T.isi (by decide +kernel) (pa_cons (pv 3) (pa_cons (pe_bltn (v := .ty "int") (by rfl) T.int (by decide +kernel) rfl) pa_nil))))) (pw_or (pt_val (pe_callB call_isi (by rfl) T.isi (by decide +kernel) (pa_cons (pv 3) (pa_cons (pe_bltn (v := .ty "bool") (by rfl) T.bool (by decide +kernel) rfl) pa_nil)))) (pw_or1 (pt_not (pt_chain op_le op_lt pe_int (pv 3) (pv 0)))))))))
        (fun _ _ _ _ _ => (pv 3))) (pe_lst pa_nil) (nomark _))))), ?_⟩
    cases an with
    | tup ea ha =>
      rename_i a xs
      have exs := anyL_ints ha
      subst exs
      have a2 : Any H (.ref a) (tupI ns) := .tup ea ha
      refine ⟨_, rfl, _, .ty "tuple", _, _, _, rfl, .ty _, any_ty a2, (show PySem.W.kitOne K (.type "tuple") (.type "tuple") = some true from kit_ty (by decide +kernel)), _, rfl, iteF ?_⟩
      refine ⟨_, rfl, a, _, rfl, .inr (SqT.of ea), _, rfl, rfl, _, rfl, ?_⟩
      have e0 : decide (V.int ((ns.map V.int).length : Int) = V.int (W : Int)) = true := decide_eq_true (by rw [List.length_map, ln])
      rw [e0]
      refine iteF ⟨_, rfl, a, false, ns.map V.int, rfl, SqT.of ea, fun D hD => ?_⟩
      refine lc_filter walk_seq (by rw [List.length_map]; omega) hD (fun H' s' => SqT.of (s' _ _ ea)) (fun _ => false) ?_ ?_
      · refine fun i x H' hi hx s1 => ⟨rfl, fun k' hk => ?_, fun k' H' hk => ⟨_, rfl, hk⟩⟩
        obtain ⟨n, hn1, rfl⟩ := ints_at hx
        obtain ⟨n0, n1⟩ := hn n (List.mem_of_getElem? hn1)
        refine ⟨_, rfl, _, .ty "int", _, _, _, rfl, .ty _, any_ty (.int n), kit_int (.int n), _, rfl, iteF ?_⟩
        refine ⟨_, rfl, _, .ty "bool", _, _, _, rfl, .ty _, any_ty (.int n), kit_bool (.int n), _, rfl, iteF ?_⟩
        refine ⟨_, rfl, _, _, rfl, rfl, _, rfl, ?_⟩
        rw [decide_eq_true n0]
        refine iteT ⟨_, rfl, _, _, rfl, rfl, _, rfl, ?_⟩
        rw [decide_eq_true n1]
        exact hk _ (fun _ _ z => z)
      · refine fun H' acc s1 ha hal => ?_
        refine ⟨by show 0 ≤ sizeLine; decide, fun q1 h1 => ⟨D, q1, acc, rfl, rfl, same_new h1 _ _ ha, upd_same, ?_⟩⟩
        rw [hal]
        have e1 : (List.range (ns.map V.int).length).all (fun _ => !false) = true := by simp
        rw [e1]
        exact q _ (s1.trans (same_new h1))
end
end K3

set_option Elab.async false
set_option linter.all false
set_option maxRecDepth 100000
set_option maxHeartbeats 4000000
/-! K3F: what is told, by data. -/
namespace Rw
open PySem PySem.Spec PyProof.Rows L2
theorem rowI_vec {w : Nat} {d : PyData} (h : RowI w d) (hw : w ≤ 6) : isVecD w d = true ∧ Fit1 d ∧ (itemsD d).length = w ∧ Tm 1 d ∧ d.canLay0 = true := by
  obtain ⟨ns, e, l, s⟩ := h
  have sm : ∀ x, x ∈ ns.map PyData.int → smallB x = true := by
    intro x hx
    obtain ⟨n, hn, rfl⟩ := List.mem_map.mp hx
    exact decide_eq_true (s n hn)
  have tm : ∀ x, x ∈ ns.map PyData.int → Tm 0 x := by
    intro x hx
    obtain ⟨n, hn, rfl⟩ := List.mem_map.mp hx
    exact tm_int (s n hn)
  have al : (ns.map PyData.int).all isIntD = true := by
    rw [List.all_map]
    exact List.all_eq_true.mpr fun x _ => rfl
  rcases e with rfl | rfl
  · refine ⟨?_, fit1_of (ds := ns.map .int) rfl (by rw [List.length_map]; omega) sm, by show (ns.map PyData.int).length = w; rw [List.length_map, l], tm_list (by rw [List.length_map]; omega) tm, lay_list (lay_ints ns)⟩
    show (true && (decide (((ns.map PyData.int).length : Int) = w) && (ns.map PyData.int).all isIntD)) = true
    rw [al, List.length_map, l]
    simp
  · refine ⟨?_, fit1_of (ds := ns.map .int) rfl (by rw [List.length_map]; omega) sm, by show (ns.map PyData.int).length = w; rw [List.length_map, l], tm_tup (by rw [List.length_map]; omega) tm, lay_tup (lay_ints ns)⟩
    show (true && (decide (((ns.map PyData.int).length : Int) = w) && (ns.map PyData.int).all isIntD)) = true
    rw [al, List.length_map, l]
    simp
theorem mat_of {w : Nat} {d : PyData} {ds : List PyData} (e : itemsD d = ds) (e2 : isSeqD d = true) (h : ∀ x, x ∈ ds → isVecD w x = true) : isMatD ds.length w d = true := by
  unfold isMatD
  rw [e, e2]
  simp only [decide_true, Bool.true_and, List.all_eq_true]
  exact h
theorem fit_of {d : PyData} {ds : List PyData} (e : itemsD d = ds) (l : ds.length ≤ 6) (sm : ∀ x, x ∈ ds → smallB x = true) (h : ∀ x, x ∈ ds → Fit1 x) : Fit d := ⟨fit1_of e (by omega) sm, fun x hx => h x (by rw [← e]; exact hx)⟩
theorem rowI_sm {w : Nat} {d : PyData} (h : RowI w d) : smallB d = true := by
  obtain ⟨ns, e, _⟩ := h
  rcases e with rfl | rfl <;> rfl
theorem mixL_len (p : Int) (dv dm : PyData) (w : Nat) : (mixL p dv dm w).length = w := by
  unfold mixL
  rw [List.length_map, List.length_range]
theorem mixL_range {p : Int} (hp : 0 < p) {dv dm : PyData} {w : Nat} : ∀ n, n ∈ mixL p dv dm w → 0 ≤ n ∧ n < p := by
  intro n hn
  obtain ⟨c, _, rfl⟩ := List.mem_map.mp hn
  rw [fmod_pos hp]
  exact ⟨Int.emod_nonneg _ (by omega), Int.emod_lt_of_pos _ hp⟩
theorem mix_row {p : Int} (hp : 0 < p) (h13 : p ≤ 13) {dv dm : PyData} {w : Nat} : RowI w (tupI (mixL p dv dm w)) := ⟨_, .inr rfl, mixL_len .., fun n hn => by
  have := mixL_range hp n hn
  exact Nat.lt_of_lt_of_le (by omega : n.natAbs < 13) (by decide)⟩
theorem mix_cell {p : Int} {dv dm : PyData} {w c : Nat} (hc : c < w) : cellD (tupI (mixL p dv dm w)) c = (prodsL dv dm c).sum.fmod p := by
  show Rw.intD (((mixL p dv dm w).map PyData.int)[c]?.getD .none) = _
  unfold mixL
  rw [List.getElem?_map, List.getElem?_map, List.getElem?_range hc] <;> rfl
theorem mix_twice {p : Int} (hp : 0 < p) {dv d1 d2 : PyData} {n wi fa : Nat} (h1 : (itemsD dv).length = n) (h2 : (itemsD d1).length = n) (h3 : ∀ e, e ∈ itemsD d1 → (itemsD e).length = wi) (h4 : (itemsD d2).length = wi) :
    mixL p dv (.list ((itemsD d1).map fun e => tupI (mixL p e d2 fa))) fa = mixL p (tupI (mixL p dv d1 wi)) d2 fa := by
  show (List.range fa).map _ = (List.range fa).map _
  refine List.map_congr_left fun c hc => ?_
  have hc := List.mem_range.mp hc
  show (prodsL dv (.list ((itemsD d1).map fun e => tupI (mixL p e d2 fa))) c).sum.fmod p = (prodsL (tupI (mixL p dv d1 wi)) d2 c).sum.fmod p
  rw [fmod_pos hp, fmod_pos hp]
  have L : (prodsL dv (.list ((itemsD d1).map fun e => tupI (mixL p e d2 fa))) c).sum = S n (fun i => Rw.intD ((itemsD dv)[i]?.getD .none) * (S wi (fun k => cellD ((itemsD d1)[i]?.getD .none) k * cellD ((itemsD d2)[k]?.getD .none) c) % p)) := by
    have e0 : (itemsD (.list ((itemsD d1).map fun e => tupI (mixL p e d2 fa)))).length = n := by
      show ((itemsD d1).map fun e => tupI (mixL p e d2 fa)).length = n
      rw [List.length_map, h2]
    rw [prods_rng (by rw [e0, h1]), S_sum, e0]
    refine S_congr fun i hi => ?_
    have hi1 : i < (itemsD d1).length := by omega
    have e1 : (itemsD (.list ((itemsD d1).map fun e => tupI (mixL p e d2 fa))))[i]? = some (tupI (mixL p (itemsD d1)[i] d2 fa)) := by
      show ((itemsD d1).map fun e => tupI (mixL p e d2 fa))[i]? = _
      rw [List.getElem?_map, List.getElem?_eq_getElem hi1] <;> rfl
    rw [e1, List.getElem?_eq_getElem hi1]
    show _ * cellD (tupI (mixL p (itemsD d1)[i] d2 fa)) c = _ * (S wi (fun k => cellD (itemsD d1)[i] k * _) % p)
    rw [mix_cell hc, fmod_pos hp, prods_rng (by rw [h3 _ (List.getElem_mem hi1), h4]), S_sum, h4]
    rfl
  have R : (prodsL (tupI (mixL p dv d1 wi)) d2 c).sum = S wi (fun k => (S n (fun i => Rw.intD ((itemsD dv)[i]?.getD .none) * cellD ((itemsD d1)[i]?.getD .none) k) % p) * cellD ((itemsD d2)[k]?.getD .none) c) := by
    have e0 : (itemsD (tupI (mixL p dv d1 wi))).length = wi := by
      show ((mixL p dv d1 wi).map PyData.int).length = wi
      rw [List.length_map, mixL_len]
    rw [prods_rng (by rw [e0, h4]), S_sum, h4]
    refine S_congr fun k hk => ?_
    have e1 : Rw.intD ((itemsD (tupI (mixL p dv d1 wi)))[k]?.getD .none) = (prodsL dv d1 k).sum.fmod p := mix_cell hk
    rw [e1, fmod_pos hp, prods_rng (by rw [h1, h2]), S_sum, h2]
  rw [L, R]
  exact S_assoc p _ _ _ n wi c
end Rw

set_option Elab.async false
set_option linter.all false
set_option maxRecDepth 100000
set_option maxHeartbeats 8000000
/-! K3G: the law. -/
namespace Rw
open PySem PySem.Spec PyProof.Rows L2
theorem _root_.L2.Same.grow {p : Addr} {H H1 H2 : Hp} (s : Same H H1) (hp : H p = none) (g : Grow p H1 H2) : Same H H2 := fun b o e => g b o (ne_of_none e hp) (s b o e)
theorem str_same (a : Str) : decide (V.str a = V.str a) = true := decide_eq_true rfl
theorem tm_ok {n : Nat} {d : PyData} (h : Tm n d) (l : n ≤ 6) : d.showable = true ∧ d.depth ≤ 60 ∧ d.shown.length ≤ sizeLine := by
  have h6 := h.up l
  exact ⟨h.sh, by have := h6.dp; omega, Nat.le_trans h6.ln (by decide +kernel)⟩
theorem tm_str {x : Str} (h : (reprText x).length ≤ 50) : Tm 0 (.str x) := ⟨by simp only [PyData.showable], by simp only [PyData.depth]; omega, by simp only [PyData.shown]; exact h⟩
theorem tm_bool (b : Bool) : Tm 0 (.bool b) := by cases b <;> exact ⟨by decide, by decide, by decide +kernel⟩
theorem tm_pair {n : Nat} {x : Str} {d : PyData} (hx : (reprText x).length ≤ 50) (h : Tm n d) : Tm (n + 1) (.list [.str x, d]) := tm_list (by show 2 ≤ 6; decide) (by
  intro e he
  rcases List.mem_cons.mp he with z | z
  · rw [z]; exact (tm_str hx).up (Nat.zero_le _)
  · rw [List.mem_singleton.mp z]; exact h)
theorem tm_two {n : Nat} {d e : PyData} (h1 : Tm n d) (h2 : Tm n e) : Tm (n + 1) (.list [d, e]) := tm_list (by show 2 ≤ 6; decide) (by
  intro x hx
  rcases List.mem_cons.mp hx with z | z
  · rw [z]; exact h1
  · rw [List.mem_singleton.mp z]; exact h2)
theorem passN {X : Cx} : Passes (L2.CX X.prog X.w) X E0 := fun _ _ _ _ _ _ _ h => by
  obtain ⟨_, _, _, _, _, _, _, _, _, _, _, _, z⟩ := h
  exact z.elim
theorem nb {b : Bool} {X : Prop} (h : b = true) (h' : b = false) : X := by
  rw [h] at h'
  cases h'
theorem fit_row {w : Nat} {d : PyData} (h : RowI w d) (hw : w ≤ 6) : Fit d := ⟨(rowI_vec h hw).2.1, fun e he => by
  obtain ⟨ns, z, _⟩ := h
  rcases z with rfl | rfl
  · obtain ⟨n, _, rfl⟩ := List.mem_map.mp he
    exact fit1_flat rfl
  · obtain ⟨n, _, rfl⟩ := List.mem_map.mp he
    exact fit1_flat rfl⟩
theorem tm_three {n : Nat} {d e f : PyData} (h1 : Tm n d) (h2 : Tm n e) (h3 : Tm n f) : Tm (n + 1) (.list [d, e, f]) := tm_list (by show 3 ≤ 6; decide) (by
  intro x hx
  rcases List.mem_cons.mp hx with z | z
  · rw [z]; exact h1
  · rcases List.mem_cons.mp z with z | z
    · rw [z]; exact h2
    · rw [List.mem_singleton.mp z]; exact h3)
theorem cut_last (acc : List V) (x : V) : cutV (acc ++ [x]) none (some (-1)) = acc := by
  have e : HT.sIx (acc ++ [x]).length (acc ++ [x]).length (some (-1)) = acc.length := by
    show (if (-1 : Int) < 0 then ((-1 : Int) + ((acc ++ [x]).length : Int)).toNat else min (-1 : Int).toNat (acc ++ [x]).length) = _
    rw [if_pos (by decide), List.length_append, List.length_singleton]
    omega
  unfold cutV
  rw [e, HT.sIx_none]
  simp
end Rw
namespace K3
open PySem PySem.Spec PyProof.Rows L2 Rw
abbrev sLaw : Stmt := top 26
abbrev NLaw : List Str := ["_law_script", "_law_k", "_law_box_here", "_law_p", "_law_high", "_law_wide", "_law_far", "_law_one", "_law_other", "_law_vector", "_law_shown", "_law_told", "_law_whole", "_law_row"]
theorem scLaw : FnScope NLaw ["_law_script"] (defScope sLaw) := ⟨rfl, rfl, rfl, by decide +kernel, rfl, by decide +kernel, by decide +kernel⟩
def spLaw (K : PySem.W.Frag) : Sp := fun vs H Q _ => ∃ (a : Addr) (ns : List Int), vs = [.ref a] ∧ SqL K H a (ns.map V.int) ∧ ns.length ≤ 63 ∧ ∀ H', Q (.bl true) H'
structure Olaw (P : Program) (w : World) (K : PySem.W.Frag) (mg : Str → Option Value) (base : Heap) (CP CV CM : Addr) : Prop where
  cell : Own P w K mg base CX0 1 "_law_cell" ["_law_script", "_law_k"] [] (spCellR K)
  box : Own P w K mg base CX0 1 "_law_box" ["_law_cell_here"] [] spBoxR
  take : Own P w K mg base CX0 1 "_law_take" ["_law_box_here", "_law_many"] [] spTakeR
  mix : Own P w K mg base CX0 2 "_law_mixed" ["_law_box_here", "_law_some"] [] spMix6
  nums : Own P w K mg base CX0 2 "_law_numbers_of" ["_law_box_here", "_law_p", "_law_many"] [] spNums
  sheet : Own P w K mg base CX0 3 "_law_sheet" ["_law_box_here", "_law_p", "_law_high", "_law_wide"] [] spSheet3
  ledL : Own P w K mg base CX0 1 "_law_led" ["_law_p", "_law_vector", "_law_sheet_here", "_law_wide"] [] spMixed
  kept : Own P w K mg base CX0 1 "_law_kept" ["_law_p", "_law_told", "_law_wide"] [] spKept
  led : Own P w K mg base (L2.CX P w) 6 "led" ["prime", "vector", "matrix", "width"] [] (spLed CP CV CM)
  joined : Own P w K mg base (L2.CX P w) 6 "joined" ["prime", "one", "other", "width"] [] (spJoined CP CM)
structure Zs (mg : Str → Option Value) : Prop where
  range : mg "range" = none
  repr : mg "repr" = none
  max : mg "max" = none
  min : mg "min" = none
  len : mg "len" = none
  tuple : mg "tuple" = none
  list : mg "list" = none
  isi : mg "isinstance" = none
section
variable {P : Program} {w : World} {K : PySem.W.Frag} {mg : Str → Option Value} {base : Heap} {CP CV CM : Addr}
set_option pp.maxSteps 400 in
theorem okLaw {f : Addr} {fd : FuncData} (F : Fun K "law" "law" sLaw f fd) (Z : Zs mg) (O : Olaw P w K mg base CP CV CM) : FnG P w K mg base CX0 10 f fd ["_law_script"] (spLaw K) := by
  refine funG F scLaw (fun vs H Q E h => ?_) (fun cdv A outer s H vs Q E gu hr h => ?_)
  · obtain ⟨a, ns, rfl, _⟩ := h
    rfl
  · obtain ⟨a, ns, rfl, hs, hlen, q⟩ := h
    refine ⟨_, (pss_cons (ps_for PassesOwn.never rfl (pi_range1 rfl Z.range (pa_cons (pe_callB (call_max2 rfl) (by rfl) Z.max (by decide +kernel) (pa_cons pe_int (pa_cons (pe_callB (call_min2 rfl) (by rfl) Z.min (by decide +kernel) (pa_cons pe_int (pa_cons (pe_callB call_len_seq (by rfl) Z.len PySem.boot_len (pa_cons (pv 0) pa_nil)) pa_nil))) pa_nil))) pa_nil)) (pg_name (i := 1) scLaw.nd rfl (Or.inl rfl)) (pss_cons (ps_set (i := 2) scLaw.nd rfl (Or.inl rfl) (pe_own O.box (hr.mono (by decide)) pass0 (pa_cons (pe_own O.cell (hr.mono (by decide)) pass0 (pa_cons (pv 0) (pa_cons (pv 1) pa_nil))) pa_nil)))
      (pss_one (ps_for PassesOwn.never rfl (pi_list (pe_slice sl_list (pe_own O.mix (hr.mono (by decide)) pass0 (pa_cons (pv 2) (pa_cons (pe_lst (pa_cons pe_int (pa_cons pe_int (pa_cons pe_int (pa_cons pe_int (pa_cons pe_int (pa_cons pe_int pa_nil))))))) pa_nil))) po_none (po_some pe_int))) (pg_name (i := 3) scLaw.nd rfl (Or.inr rfl)) (pss_cons (ps_asg (pe_tup (pa_cons (pe_own O.take (hr.mono (by decide)) pass0 (pa_cons (pv 2) (pa_cons pe_int pa_nil))) (pa_cons (pe_own O.take (hr.mono (by decide)) pass0 (pa_cons (pv 2) (pa_cons pe_int pa_nil))) (pa_cons (pe_own O.take (hr.mono (by decide)) pass0 (pa_cons (pv 2) (pa_cons pe_int pa_nil))) pa_nil)))) (pg_tup rfl (pgs_cons (pg_name (i := 4) scLaw.nd rfl (Or.inl rfl)) (pgs_cons (pg_name (i := 5) scLaw.nd rfl (Or.inl rfl)) (pgs_cons (pg_name (i := 6) scLaw.nd rfl (Or.inr rfl)) pgs_nil)))))
        (pss_cons (ps_asg (pe_tup (pa_cons (pe_own O.sheet (hr.mono (by decide)) pass0 (pa_cons (pv 2) (pa_cons (pv 3) (pa_cons (pv 4) (pa_cons (pv 5) pa_nil))))) (pa_cons (pe_own O.sheet (hr.mono (by decide)) pass0 (pa_cons (pv 2) (pa_cons (pv 3) (pa_cons (pv 5) (pa_cons (pv 6) pa_nil))))) pa_nil))) (pg_tup rfl (pgs_cons (pg_name (i := 7) scLaw.nd rfl (Or.inl rfl)) (pgs_cons (pg_name (i := 8) scLaw.nd rfl (Or.inr rfl)) pgs_nil))))
        (pss_cons (ps_set (i := 9) scLaw.nd rfl (Or.inl rfl) (pe_own O.nums (hr.mono (by decide)) pass0 (pa_cons (pv 2) (pa_cons (pv 3) (pa_cons (pv 4) pa_nil)))))
        (pss_cons (ps_set (i := 10) scLaw.nd rfl (Or.inl rfl) (pe_callB (call_repr gu hr.units) (by rfl) Z.repr (by decide +kernel) (pa_cons (pe_lst (pa_cons (pv 7) (pa_cons (pv 8) (pa_cons (pv 9) pa_nil)))) pa_nil)))
        (pss_cons (ps_par (i := 11) (j := 12) (by rfl) scLaw.nd rfl rfl (by decide) rfl rfl (pa_cons (pe_own O.led (hr.mono (by decide)) passN (pa_cons (pv 3) (pa_cons (pv 9) (pa_cons (pv 7) (pa_cons (pv 5) pa_nil))))) (pa_cons (pe_own O.joined (hr.mono (by decide)) passN (pa_cons (pv 3) (pa_cons (pv 7) (pa_cons (pv 8) (pa_cons (pv 6) pa_nil))))) pa_nil)) (by rfl))
        (pss_cons (ps_if (PW.pt (pw_or (pt_cmpR (op_neD hr.units) (pv 11) (pe_own O.ledL (hr.mono (by decide)) pass0 (pa_cons (pv 3) (pa_cons (pv 9) (pa_cons (pv 7) (pa_cons (pv 5) pa_nil))))) (by rfl)) (pw_or1 (pt_not (pt_val (pe_own O.kept (hr.mono (by decide)) pass0 (pa_cons (pv 3) (pa_cons (pv 11) (pa_cons (pv 5) pa_nil))))))))) (pss_one (ps_ret pe_bl)) pss_nil)
        (pss_cons (ps_if (pt_cmpR (op_neD hr.units) (pe_own O.led (hr.mono (by decide)) passN (pa_cons (pv 3) (pa_cons (pe_callTy call_tuple_of (by rfl) Z.tuple (by decide +kernel) (pa_cons (pv 9) pa_nil)) (pa_cons (pe_callTy call_tuple_of (by rfl) Z.tuple (by decide +kernel) (pa_cons (pv 7) pa_nil)) (pa_cons (pv 5) pa_nil))))) (pv 11) (by rfl)) (pss_one (ps_ret pe_bl)) pss_nil)
        (pss_cons (ps_if (PW.pt (pw_or (pt_not (pt_val (pe_callB call_isi (by rfl) Z.isi (by decide +kernel) (pa_cons (pv 12) (pa_cons (pe_bltn (v := .ty "list") rfl Z.list (by decide +kernel) rfl) pa_nil))))) (pw_or1 (pt_cmpR (op_neD hr.units) (pv 12) (pe_lc (own := [("_law_row", 13)]) (g := gName 13) (tt := tYes) rfl scLaw.nd (pi_seq (pv 7)) (blkOk_by (N := NLaw) (sc := defScope sLaw) (by decide +kernel)) (fun _ _ _ _ _ => (pg_name (i := 13) scLaw.nd rfl (Or.inl rfl))) (fun _ _ _ _ _ => pts_nil) (fun _ _ _ _ _ => (pe_own O.ledL (hr.mono (by decide)) pass0 (pa_cons (pv 3) (pa_cons (pv 13) (pa_cons (pv 8) (pa_cons (pv 6) pa_nil))))))) (by rfl))))) (pss_one (ps_ret pe_bl)) pss_nil)
        (pss_cons (ps_if (pt_cmpR (op_neD hr.units) (pe_lc (own := [("_law_row", 13)]) (g := gName 13) rfl scLaw.nd (pi_seq (pv 12)) (blkOk_by (N := NLaw) (sc := defScope sLaw) (by decide +kernel)) (fun _ _ _ _ _ => (pg_name (i := 13) scLaw.nd rfl (Or.inl rfl))) (fun _ _ _ _ _ => (pts_one (pt_not (pt_val (pe_own O.kept (hr.mono (by decide)) pass0 (pa_cons (pv 3) (pa_cons (pv 13) (pa_cons (pv 6) pa_nil)))))))) (fun _ _ _ _ _ => (pv 13))) (pe_lst pa_nil) (by rfl)) (pss_one (ps_ret pe_bl)) pss_nil)
        (pss_cons (ps_if (PW.pt (pw_or (pt_cmpR (op_neD hr.units) (pe_own O.led (hr.mono (by decide)) passN (pa_cons (pv 3) (pa_cons (pv 9) (pa_cons (pv 12) (pa_cons (pv 6) pa_nil))))) (pe_own O.led (hr.mono (by decide)) passN (pa_cons (pv 3) (pa_cons (pv 11) (pa_cons (pv 8) (pa_cons (pv 6) pa_nil))))) (by rfl)) (pw_or1 (pt_cmpR op_ne (pe_callB (call_repr gu hr.units) (by rfl) Z.repr (by decide +kernel) (pa_cons (pe_lst (pa_cons (pv 7) (pa_cons (pv 8) (pa_cons (pv 9) pa_nil)))) pa_nil)) (pv 10) (nomark _))))) (pss_one (ps_ret pe_bl)) pss_nil)
        (pss_cons (ps_expr (pe_bm PySem.F.plainAttrs_list PySem.F.slot_list_append PySem.F.type_list_append mt_append (pv 12) (pa_cons pe_str pa_nil)))
        (pss_one (ps_if (pt_cmpR (op_neD hr.units) (pe_own O.joined (hr.mono (by decide)) passN (pa_cons (pv 3) (pa_cons (pe_callTy call_tuple_of (by rfl) Z.tuple (by decide +kernel) (pa_cons (pv 7) pa_nil)) (pa_cons (pe_callTy call_tuple_of (by rfl) Z.tuple (by decide +kernel) (pa_cons (pv 8) pa_nil)) (pa_cons (pv 6) pa_nil))))) (pe_slice sl_list (pv 12) po_none (po_some (pe_un un_neg pe_int))) (by rfl)) (pss_one (ps_ret pe_bl)) pss_nil)))))))))))))))))
    (pss_one (ps_ret (pe_and (pe_cmpR (op_eqD hr.units) (pe_own O.led (hr.mono (by decide)) passN (pa_cons pe_int (pa_cons (pe_tup pa_nil) (pa_cons (pe_lst pa_nil) (pa_cons pe_int pa_nil))))) (pe_tup (pa_cons pe_int (pa_cons pe_int (pa_cons pe_int pa_nil)))) (by rfl)) (pe_one (pe_cmpR (op_eqD hr.units) (pe_own O.joined (hr.mono (by decide)) passN (pa_cons pe_int (pa_cons (pe_lst (pa_cons (pe_tup pa_nil) (pa_cons (pe_tup pa_nil) pa_nil))) (pa_cons (pe_lst pa_nil) (pa_cons pe_int pa_nil))))) (pe_lst (pa_cons (pe_tup (pa_cons pe_int pa_nil)) (pa_cons (pe_tup (pa_cons pe_int pa_nil)) pa_nil))) (by rfl))))))), ?_⟩
    refine ⟨_, rfl, a, _, rfl, .inl hs, _, _, rfl, _, _, rfl, _, rfl, ?_, ?_, ?_⟩
    · split <;> split <;> omega
    · split <;> split <;> omega
    have hn8 : (if (if ((ns.map V.int).length : Int) < 6 then ((ns.map V.int).length : Int) else 6) > 2 then (if ((ns.map V.int).length : Int) < 6 then ((ns.map V.int).length : Int) else 6) else 2).toNat ≤ 8 := by
      split <;> split <;> omega
    refine for_range (lo := 0) (n := _) (fun i σ' H' => (∃ x1 x2 x3 x4 x5 x6 x7 x8 x9 x10 x11 x12 x13, σ' = [some (.ref a), x1, x2, x3, x4, x5, x6, x7, x8, x9, x10, x11, x12, x13]) ∧ Same H H') ⟨⟨_, _, _, _, _, _, _, _, _, _, _, _, _, rfl⟩, Same.refl _⟩ ?_ ?_
    · rintro i σ' Hs hi ⟨⟨x1, x2, x3, x4, x5, x6, x7, x8, x9, x10, x11, x12, x13, rfl⟩, S⟩
      have hi8 : i < 8 := Nat.lt_of_lt_of_le hi hn8
      refine ⟨_, rfl, _, rfl, a, ns, i, (by rw [Int.zero_add] <;> rfl), S.seq hs, by omega, fun z => ⟨z, rfl, fun p Hb hp sm bx => ?_⟩⟩
      -- the primes, mixed
      refine ⟨_, rfl, by show 6 ≤ sizeLine; decide, fun q0 h0 => ⟨p, q0, 0, rfl, bx.keep (same_new h0), by omega, upd_same, fun l0 ms H0 hl0 e0 len0 pr0 G0 B0 => ?_⟩⟩
      refine ⟨3, rfl, l0, _, rfl, SqL.of e0, fun q1 h1 => ?_⟩
      have pq1 := B0.ne h1
      have g1 : Grow p Hb (upd H0 q1 (.lst (cutV (ms.map V.int) none (some 3)))) := ((Grow.of (same_new h0)).trans G0).trans (Grow.of (same_new h1))
      have b1 := B0.keep (same_new (o := .lst (cutV (ms.map V.int) none (some 3))) h1)
      have e1 : (upd H0 q1 (.lst (cutV (ms.map V.int) none (some 3)))) q1 = some (.lst (cutV (ms.map V.int) none (some 3))) := upd_same
      have few : (cutV (ms.map V.int) none (some 3)).length ≤ 6 := Nat.le_trans (cutV_length _ _ _) (by rw [List.length_map]; omega)
      refine ⟨q1, rfl, ⟨_, SqL.of e1⟩, ?_⟩
      generalize upd H0 q1 (.lst (cutV (ms.map V.int) none (some 3))) = H1 at g1 b1 e1 ⊢
      refine for_list (K := K) (a := q1) (xs := cutV (ms.map V.int) none (some 3)) (fun j σ' H' => j ≤ 6 ∧ (∃ x3 x4 x5 x6 x7 x8 x9 x10 x11 x12 x13, σ' = [some (.ref a), some (.int (0 + (i : Int))), some (.ref p), x3, x4, x5, x6, x7, x8, x9, x10, x11, x12, x13]) ∧ Grow p H1 H' ∧ Bx H' p (10 + 400 * j)) ⟨by omega, ⟨_, _, _, _, _, _, _, _, _, _, _, rfl⟩, Grow.refl, b1.more (by omega)⟩ (fun j σ' H' _ h => SqL.of (h.2.2.1 _ _ pq1.symm e1)) ?_ ?_
      · rintro j y σ' Ht hj ⟨j6, ⟨x3, x4, x5, x6, x7, x8, x9, x10, x11, x12, x13, rfl⟩, gt, bt⟩
        obtain ⟨m, rfl, hm⟩ : ∃ m, y = V.int m ∧ m ∈ primesL := by
          have h2 := List.mem_of_getElem? hj
          unfold cutV at h2
          obtain ⟨m, h3, h4⟩ := List.mem_map.mp (List.mem_of_mem_drop (List.mem_of_mem_take h2))
          exact ⟨m, h4.symm, pr0 m h3⟩
        have jlt : j < 6 := by
          have := (List.getElem?_eq_some_iff.mp hj).1
          omega
        have mp := prime_pos hm
        have pm : isPr (.int m) = true := decide_eq_true hm
        refine ⟨_, rfl, p, 6, 10 + 400 * j, rfl, by decide, by decide, bt, by omega, fun r1 Ha r10 r11 Ga Ba => ⟨_, rfl, p, 6, 10 + 400 * j + 1, rfl, by decide, by decide, Ba, by omega, fun r2 Hc r20 r21 Gc Bc => ⟨_, rfl, p, 6, 10 + 400 * j + 2, rfl, by decide, by decide, Bc, by omega, fun r3 Hd r30 r31 Gd Bd => ?_⟩⟩⟩
        obtain ⟨hg, rfl⟩ : ∃ n : Nat, r1 = (n : Int) := ⟨r1.toNat, by omega⟩
        obtain ⟨wi, rfl⟩ : ∃ n : Nat, r2 = (n : Int) := ⟨r2.toNat, by omega⟩
        obtain ⟨fa, rfl⟩ : ∃ n : Nat, r3 = (n : Int) := ⟨r3.toNat, by omega⟩
        refine ⟨by show 3 ≤ sizeLine; decide, fun tq htq => ⟨tq, _, rfl, SqT.of upd_same, rfl, _, _, rfl, _, _, rfl, _, _, rfl, rfl, ?_⟩⟩
        have kq := same_new (o := .tup [.int (hg : Int), .int (wi : Int), .int (fa : Int)]) htq
        have Bq := Bd.keep kq
        have Gq : Grow p H1 (upd Hd tq (.tup [.int (hg : Int), .int (wi : Int), .int (fa : Int)])) := (((gt.trans Ga).trans Gc).trans Gd).trans (Grow.of kq)
        -- the sheets
        refine ⟨_, rfl, _, rfl, _, rfl, _, rfl, p, m, hg, wi, 10 + 400 * j + 3, rfl, hm, by omega, by omega, Bq, by omega, fun l1 ds1 Hf hl1 a1 n1 ro1 Gf Bf => ?_⟩
        refine ⟨_, rfl, _, rfl, _, rfl, _, rfl, p, m, wi, fa, 10 + 400 * j + 103, rfl, hm, by omega, by omega, Bf, by omega, fun l2 ds2 Hg hl2 a2 n2 ro2 Gg Bg => ?_⟩
        refine ⟨by show 2 ≤ sizeLine; decide, fun tr htr => ⟨tr, _, rfl, SqT.of upd_same, rfl, _, _, rfl, _, _, rfl, rfl, ?_⟩⟩
        have kr := same_new (o := .tup [.ref l1, .ref l2]) htr
        have Br := Bg.keep kr
        have a1r := (a1.keep Gg.del).keep (del_new (p := p) (o := .tup [.ref l1, .ref l2]) htr)
        have a2r := a2.keep (del_new (p := p) (o := .tup [.ref l1, .ref l2]) htr)
        have Gr := ((Gq.trans Gf).trans Gg).trans (Grow.of kr)
        -- the vector
        refine ⟨_, rfl, _, rfl, _, rfl, p, m, hg, 10 + 400 * j + 203, rfl, hm, by omega, Br, by omega, fun l3 vs Hi hl3 e3 n3 s3 Gi Bi => ?_⟩
        have gi := Gr.trans Gi
        have c1 : Any Hi (.ref l1) (.list ds1) := (a1r.keep Gi.del).keep same_del
        have c2 : Any Hi (.ref l2) (.list ds2) := (a2r.keep Gi.del).keep same_del
        have c3 : Any Hi (.ref l3) (.list (vs.map .int)) := ints_row3 e3
        clear a1r a2r a1 a2 Br Bg Bf Bq Bd Bc Ba Gr Gi Gq Gf Gg Ga Gc Gd kr kq htr htq hl1 hl2 hl3
        obtain ⟨xs1, ex1, al1⟩ : ∃ xs, Hi l1 = some (.lst xs) ∧ AnyL Hi xs ds1 := by cases c1 with | lst e a => exact ⟨_, e, a⟩
        obtain ⟨xs2, ex2, al2⟩ : ∃ xs, Hi l2 = some (.lst xs) ∧ AnyL Hi xs ds2 := by cases c2 with | lst e a => exact ⟨_, e, a⟩
        have R3 : RowI hg (.list (vs.map .int)) := ⟨vs, .inl rfl, n3, s3⟩
        have R3t : RowI hg (.tuple (vs.map .int)) := ⟨vs, .inr rfl, n3, s3⟩
        have rv1 := fun d hd => rowI_vec (ro1 d hd) (by omega)
        have rv2 := fun d hd => rowI_vec (ro2 d hd) (by omega)
        have F1 : Fit (.list ds1) := fit_of (ds := ds1) rfl (by omega) (fun x hx => rowI_sm (ro1 x hx)) fun x hx => (rv1 x hx).2.1
        have F1t : Fit (.tuple ds1) := fit_of (ds := ds1) rfl (by omega) (fun x hx => rowI_sm (ro1 x hx)) fun x hx => (rv1 x hx).2.1
        have F2 : Fit (.list ds2) := fit_of (ds := ds2) rfl (by omega) (fun x hx => rowI_sm (ro2 x hx)) fun x hx => (rv2 x hx).2.1
        have F2t : Fit (.tuple ds2) := fit_of (ds := ds2) rfl (by omega) (fun x hx => rowI_sm (ro2 x hx)) fun x hx => (rv2 x hx).2.1
        have F3 := fit_row R3 (by omega)
        have F3t := fit_row R3t (by omega)
        have L3 : (itemsD (.list (vs.map .int))).length = hg := (rowI_vec R3 (by omega)).2.2.1
        have L3t : (itemsD (.tuple (vs.map .int))).length = hg := (rowI_vec R3t (by omega)).2.2.1
        have V3 : isVecD (itemsD (.list (vs.map .int))).length (.list (vs.map .int)) = true := by rw [L3]; exact (rowI_vec R3 (by omega)).1
        have V3t : isVecD (itemsD (.tuple (vs.map .int))).length (.tuple (vs.map .int)) = true := by rw [L3t]; exact (rowI_vec R3t (by omega)).1
        have M1 : isMatD hg wi (.list ds1) = true := by rw [← n1]; exact mat_of rfl rfl fun x hx => (rv1 x hx).1
        have M1t : isMatD hg wi (.tuple ds1) = true := by rw [← n1]; exact mat_of rfl rfl fun x hx => (rv1 x hx).1
        have M2 : isMatD wi fa (.list ds2) = true := by rw [← n2]; exact mat_of rfl rfl fun x hx => (rv2 x hx).1
        have M2t : isMatD wi fa (.tuple ds2) = true := by rw [← n2]; exact mat_of rfl rfl fun x hx => (rv2 x hx).1
        have T1 : Tm 2 (.list ds1) := tm_list (by omega) fun d hd => (rv1 d hd).2.2.2.1
        have T2 : Tm 2 (.list ds2) := tm_list (by omega) fun d hd => (rv2 d hd).2.2.2.1
        have T3 : Tm 2 (.list (vs.map .int)) := (rowI_vec R3 (by omega)).2.2.2.1.up (by decide)
        obtain ⟨t1', t2', t3'⟩ := tm_ok (tm_three T1 T2 T3) (by decide)
        have pos : 0 < m := by omega
        have RT : RowI wi (tupI (mixL m (.list (vs.map .int)) (.list ds1) wi)) := mix_row pos mp.2
        have RW : ∀ e, RowI fa (tupI (mixL m e (.list ds2) fa)) := fun e => mix_row pos mp.2
        have FT := fit_row RT (by omega)
        have LT : (itemsD (tupI (mixL m (.list (vs.map .int)) (.list ds1) wi))).length = wi := (rowI_vec RT (by omega)).2.2.1
        have VT : isVecD (itemsD (tupI (mixL m (.list (vs.map .int)) (.list ds1) wi))).length (tupI (mixL m (.list (vs.map .int)) (.list ds1) wi)) = true := by rw [LT]; exact (rowI_vec RT (by omega)).1
        have layT := (rowI_vec RT (by omega)).2.2.2.2
        have dpT : (tupI (mixL m (.list (vs.map .int)) (.list ds1) wi)).depth ≤ 64 := Nat.le_trans (rowI_vec RT (by omega)).2.2.2.1.dp (by decide)
        have memW : ∀ x, x ∈ ds1.map (fun e => tupI (mixL m e (.list ds2) fa)) → RowI fa x := fun x hx => by
          obtain ⟨e, _, rfl⟩ := List.mem_map.mp hx
          exact RW e
        have LW : (ds1.map fun e => tupI (mixL m e (.list ds2) fa)).length = hg := by rw [List.length_map, n1]
        have FW : Fit (.list (ds1.map fun e => tupI (mixL m e (.list ds2) fa))) := fit_of (ds := ds1.map fun e => tupI (mixL m e (.list ds2) fa)) rfl (by omega) (fun x hx => rowI_sm (memW x hx)) fun x hx => (rowI_vec (memW x hx) (by omega)).2.1
        have MW : isMatD hg fa (.list (ds1.map fun e => tupI (mixL m e (.list ds2) fa))) = true := by rw [← LW]; exact mat_of rfl rfl fun x hx => (rowI_vec (memW x hx) (by omega)).1
        have layW : (PyData.list (ds1.map fun e => tupI (mixL m e (.list ds2) fa))).canLay0 = true := lay_list fun x hx => (rowI_vec (memW x hx) (by omega)).2.2.2.2
        have dpW : (PyData.list (ds1.map fun e => tupI (mixL m e (.list ds2) fa))).depth ≤ 64 := Nat.le_trans (tm_list (n := 1) (by omega) fun x hx => (rowI_vec (memW x hx) (by omega)).2.2.2.1).dp (by decide)
        -- what is shown
        refine ⟨_, rfl, _, rfl, _, rfl, by show 3 ≤ sizeLine; decide, fun l4 hl4 => ⟨l4, .list [.list ds1, .list ds2, .list (vs.map .int)], rfl, .lst upd_same (.cons (c1.keep (same_new hl4)) (.cons (c2.keep (same_new hl4)) (.cons (c3.keep (same_new hl4)) .nil))), t1', t2', t3', ?_⟩⟩
        have k4 := same_new (o := .lst [.ref l1, .ref l2, .ref l3]) hl4
        -- told and whole
        refine ⟨_, rfl, _, rfl, _, rfl, _, rfl, _, _, _, .int m, _, _, _, rfl, .int m, (c3.keep k4), (c1.keep k4), F3, F1, (by omega), nb pm, (fun _ => nb V3), (fun _ _ => nb (by rw [L3]; exact M1)), fun p1' e1' _ _ _ t1 Hj ht1 sj et1 => ?_⟩
        cases e1'
        have kj := k4.trans sj
        refine ⟨_, rfl, _, rfl, _, rfl, _, rfl, _, _, _, .int m, _, _, _, rfl, .int m, (c1.keep kj), (c2.keep kj), F1, F2, (by omega), nb pm, (fun _ => nb (by show isMatD ds2.length fa (.list ds2) = true; rw [n2]; exact M2)), (fun _ _ => nb (by show isMatD ds1.length ds2.length (.list ds1) = true; rw [n1, n2]; exact M1)), fun p2' e2' _ _ _ l5 acc Hk hl5 sk ek al => ⟨_, _, rfl, ?_⟩⟩
        cases e2'
        have kk := kj.trans sk
        have cT : Any Hk (.ref t1) (tupI (mixL m (.list (vs.map .int)) (.list ds1) wi)) := (Any.tup et1 (ints_anyL _)).keep sk
        have alW : AnyL Hk acc (ds1.map fun e => tupI (mixL m e (.list ds2) fa)) := anyL_keep same_del al
        have cW : Any Hk (.ref l5) (.list (ds1.map fun e => tupI (mixL m e (.list ds2) fa))) := .lst ek alW
        -- by the law's own sums
        refine ⟨_, rfl, _, rfl, _, rfl, _, rfl, _, rfl, m, .ref l3, .ref l1, _, _, wi, rfl, by omega, c3.keep kk, c1.keep kk, F3.top, F1, (by show isVecD ds1.length _ = true; rw [n1, ← L3]; exact V3), (by show isMatD ds1.length wi _ = true; rw [n1]; exact M1), by omega, fun t2 Hl ht2 sl et2 => ?_⟩
        refine ne_same (d := tupI (mixL m (.list (vs.map .int)) (.list ds1) wi)) (cT.keep sl) (.tup et2 (ints_anyL _)) layT dpT ⟨_, rfl, iteF ?_⟩
        refine ⟨_, rfl, _, rfl, _, rfl, m, .ref t1, _, wi, rfl, cT.keep sl, mixL_len .., by omega, mixL_range pos, fun Hm smm => ⟨_, rfl, iteF ?_⟩⟩
        have km := sl.trans smm
        -- of tuples
        refine ⟨_, rfl, _, rfl, l3, _, rfl, .inl ⟨SqL.of (km _ _ (kk _ _ e3)), fun q2 h2 => ?_⟩⟩
        have k2 := same_new (o := .tup (vs.map V.int)) h2
        refine ⟨_, rfl, l1, _, rfl, .inl ⟨SqL.of (k2 _ _ (km _ _ (kk _ _ ex1))), fun q3 h3 => ?_⟩⟩
        have k3 := same_new (o := .tup xs1) h3
        have kn := (km.trans k2).trans k3
        refine ⟨_, rfl, _, _, _, .int m, _, _, _, rfl, .int m, (.tup (k3 _ _ upd_same) (ints_anyL vs)), (.tup upd_same (anyL_keep (kk.trans kn) al1)), F3t, F1t, (by omega), nb pm, (fun _ => nb V3t), (fun _ _ => nb (by rw [L3t]; exact M1t)), fun p3' e3' _ _ _ t3 Hn ht3 sn et3 => ⟨_, rfl, ?_⟩⟩
        cases e3'
        have ko := kn.trans sn
        refine ne_same (d := tupI (mixL m (.list (vs.map .int)) (.list ds1) wi)) (.tup et3 (ints_anyL _)) (cT.keep ko) layT dpT ⟨_, rfl, iteF ?_⟩
        -- the whole, row by row
        refine ⟨_, rfl, _, .ty "list", _, _, _, rfl, .ty _, any_ty (cW.keep ko), (show PySem.W.kitOne K (.type "list") (.type "list") = some true from kit_ty (by decide +kernel)), _, rfl, iteF ?_⟩
        refine ⟨_, rfl, _, rfl, l1, true, xs1, rfl, SqL.of (ko _ _ (kk _ _ ex1)), fun D hD => ?_⟩
        have ln1 := anyL_len al1
        refine lc_same (walk_seq (k := true)) (by omega) hD (fun H' s' => SqL.of (s' _ _ (ko _ _ (kk _ _ ex1)))) (fun i => tupI (mixL m (ds1[i]?.getD .none) (.list ds2) fa)) ?_ ?_
        · rintro t x H2 ht hx s2 ⟨o, hd⟩
          refine ⟨rfl, fun k' hk => ?_⟩
          obtain ⟨e, he, ae⟩ := anyL_at al1 hx
          have hem := List.mem_of_getElem? he
          have kx := (kk.trans ko).trans s2
          refine ⟨_, rfl, _, rfl, _, rfl, _, rfl, m, x, .ref l2, e, .list ds2, fa, rfl, by omega, ae.keep kx, c2.keep kx, (rv1 e hem).2.1, F2, (by show isVecD ds2.length e = true; rw [n2]; exact (rv1 e hem).1), (by show isMatD ds2.length fa _ = true; rw [n2]; exact M2), by omega, fun t9 H9 ht9 s9 et9 => hk _ _ s9 ?_⟩
          rw [he]
          exact .tup (by rw [del_ne (ne_of_none hd ht9).symm]; exact et9) (ints_anyL _)
        intro H2 acc2 s2 ha2 hal2
        rw [ln1, map_get (fun e => tupI (mixL m e (.list ds2) fa)) .none] at hal2
        have kp := ko.trans s2
        refine ne_same (d := .list (ds1.map fun e => tupI (mixL m e (.list ds2) fa))) (cW.keep kp) (.lst ha2 (anyL_keep same_del hal2)) layW dpW ⟨_, rfl, iteF ?_⟩
        -- all are kept
        refine ⟨_, rfl, l5, true, acc, rfl, SqL.of (kp _ _ ek), fun D3 hD3 => ?_⟩
        have lnW := anyL_len alW
        refine lc_filter (walk_seq (k := true)) (by omega) hD3 (fun H' s' => SqL.of (s' _ _ (kp _ _ ek))) (fun _ => false) ?_ ?_
        · refine fun t x H3 ht hx s3 => ⟨rfl, fun k' hk => ?_, fun k' H' hk => ⟨_, rfl, hk⟩⟩
          obtain ⟨dx, hdx, ax⟩ := anyL_at alW hx
          obtain ⟨e, _, rfl⟩ := List.mem_map.mp (List.mem_of_getElem? hdx)
          exact ⟨_, rfl, _, rfl, _, rfl, m, x, _, fa, rfl, ax.keep (kp.trans s3), mixL_len .., by omega, mixL_range pos, fun H4 s4 => ⟨_, rfl, hk _ s4⟩⟩
        intro H3 acc3 s3 ha3 hal3
        have em3 : acc3 = [] := by
          have : acc3.isEmpty = true := by rw [hal3]; simp
          simpa using this
        subst em3
        have kr := kp.trans s3
        refine ⟨by show 0 ≤ sizeLine; decide, fun q4 h4 => ?_⟩
        have ks := kr.trans (same_new (o := .lst []) h4)
        refine ne_same (d := .list []) (.lst (same_new h4 _ _ ha3) .nil) (.lst upd_same .nil) (by decide) (by decide) ⟨_, rfl, iteF ?_⟩
        -- leading twice
        refine ⟨_, rfl, _, rfl, _, rfl, _, rfl, _, _, _, .int m, _, _, _, rfl, .int m, (c3.keep (kk.trans ks)), (cW.keep ks), F3, FW, (by omega), nb pm, (fun _ => nb V3), (fun _ _ => nb (by rw [L3]; exact MW)), fun p4' e4' _ _ _ t4 Hp ht4 sp4 et4 => ?_⟩
        cases e4'
        have kt := ks.trans sp4
        refine ⟨_, rfl, _, rfl, _, rfl, _, rfl, _, _, _, .int m, _, _, _, rfl, .int m, (cT.keep kt), (c2.keep (kk.trans kt)), FT, F2, (by omega), nb pm, (fun _ => nb VT), (fun _ _ => nb (by rw [LT]; exact M2)), fun p5' e5' _ _ _ t5 Hq ht5 sq5 et5 => ?_⟩
        cases e5'
        have ku := kt.trans sq5
        have tw : mixL m (.list (vs.map .int)) (.list (ds1.map fun e => tupI (mixL m e (.list ds2) fa))) fa = mixL m (tupI (mixL m (.list (vs.map .int)) (.list ds1) wi)) (.list ds2) fa :=
          mix_twice (d1 := .list ds1) pos L3 n1 (fun e he => (rv1 e he).2.2.1) n2
        rw [tw] at et4
        have R5 : RowI fa (tupI (mixL m (tupI (mixL m (.list (vs.map .int)) (.list ds1) wi)) (.list ds2) fa)) := mix_row pos mp.2
        refine ne_same (d := tupI (mixL m (tupI (mixL m (.list (vs.map .int)) (.list ds1) wi)) (.list ds2) fa)) (.tup (sq5 _ _ et4) (ints_anyL _)) (.tup et5 (ints_anyL _)) (rowI_vec R5 (by omega)).2.2.2.2 (Nat.le_trans (rowI_vec R5 (by omega)).2.2.2.1.dp (by decide)) ⟨_, rfl, iteF ?_⟩
        have kv := kk.trans ku
        refine ⟨_, rfl, _, rfl, _, rfl, by show 3 ≤ sizeLine; decide, fun l6 hl6 => ⟨l6, .list [.list ds1, .list ds2, .list (vs.map .int)], rfl, .lst upd_same (.cons ((c1.keep kv).keep (same_new hl6)) (.cons ((c2.keep kv).keep (same_new hl6)) (.cons ((c3.keep kv).keep (same_new hl6)) .nil))), t1', t2', t3', ?_⟩⟩
        refine ⟨_, rfl, rfl, _, rfl, ?_⟩
        rw [str_same]
        refine iteF ?_
        have kw := ku.trans (same_new (o := .lst [.ref l1, .ref l2, .ref l3]) hl6)
        -- one thing more
        have ekw := kw _ _ ek
        refine ⟨_, rfl, .inl ⟨rfl, _, SqL.of ekw⟩, l5, acc, .str "more", rfl, rfl, ekw, Nat.lt_of_le_of_lt (by omega : acc.length ≤ 1000) (by decide), ?_⟩
        have kz : ∀ o, Same Hj (upd (upd Hq l6 (.lst [.ref l1, .ref l2, .ref l3])) l5 o) := fun o z u ez => by
          rw [upd_ne (ne_of_none ez hl5)]
          exact kw _ _ (sk _ _ ez)
        have kzi := fun o => kj.trans (kz o)
        have alZ : ∀ o, AnyL (upd (upd Hq l6 (.lst [.ref l1, .ref l2, .ref l3])) l5 o) acc (ds1.map fun e => tupI (mixL m e (.list ds2) fa)) := fun o => anyL_keep (fun z u ez => by
          by_cases y : z = l5
          · rw [y, del_same] at ez
            cases ez
          · rw [del_ne y] at ez
            rw [upd_ne y]
            exact kw _ _ ez) al
        have eZ : (upd (upd Hq l6 (.lst [.ref l1, .ref l2, .ref l3])) l5 (.lst (acc ++ [.str "more"]))) l5 = some (.lst (acc ++ [.str "more"])) := upd_same
        refine ⟨_, rfl, _, rfl, l1, _, rfl, .inl ⟨SqL.of (kzi _ _ _ ex1), fun q5 h5 => ?_⟩⟩
        have k5 := same_new (o := .tup xs1) h5
        refine ⟨_, rfl, l2, _, rfl, .inl ⟨SqL.of (k5 _ _ (kzi _ _ _ ex2)), fun q6 h6 => ?_⟩⟩
        have k6 := same_new (o := .tup xs2) h6
        refine ⟨_, rfl, _, _, _, .int m, _, _, _, rfl, .int m, (.tup (k6 _ _ upd_same) (anyL_keep (((kzi _).trans k5).trans k6) al1)), (.tup upd_same (anyL_keep (((kzi _).trans k5).trans k6) al2)), F1t, F2t, (by omega), nb pm, (fun _ => nb (by show isMatD ds2.length fa (.tuple ds2) = true; rw [n2]; exact M2t)), (fun _ _ => nb (by show isMatD ds1.length ds2.length (.tuple ds1) = true; rw [n1, n2]; exact M1t)), fun p6' e6' _ _ _ l7 acc7 Hr hl7 sr7 er7 al7 => ?_⟩
        cases e6'
        have k7 := (k5.trans k6).trans sr7
        refine ⟨_, rfl, _, rfl, _, rfl, l5, _, rfl, SqL.of (k7 _ _ eZ), fun q8 h8 => ?_⟩
        have k8 := same_new (o := .lst (cutV (acc ++ [.str "more"]) none (some (-1)))) h8
        refine ne_same (d := .list (ds1.map fun e => tupI (mixL m e (.list ds2) fa))) (.lst (k8 _ _ er7) (anyL_keep (same_del.trans k8) al7)) (.lst (by rw [upd_same, cut_last]) (anyL_keep (k7.trans k8) (alZ _))) layW dpW ⟨_, rfl, iteF ?_⟩
        have kfin := (kzi (.lst (acc ++ [.str "more"]))).trans (k7.trans k8)
        exact ⟨by omega, ⟨_, _, _, _, _, _, _, _, _, _, _, rfl⟩, gi.trans (Grow.of kfin), (Bi.keep kfin).more (by omega)⟩
      · rintro σ' H' ⟨j6, ⟨x3, x4, x5, x6, x7, x8, x9, x10, x11, x12, x13, rfl⟩, gt, bt⟩
        exact ⟨⟨_, _, _, _, _, _, _, _, _, _, _, _, _, rfl⟩, S.trans (sm.grow hp (g1.trans gt))⟩
    · rintro σ' H' ⟨⟨x1, x2, x3, x4, x5, x6, x7, x8, x9, x10, x11, x12, x13, rfl⟩, S⟩
      refine ⟨by show 0 ≤ sizeLine; decide, fun q1 h1 => ⟨by show 0 ≤ sizeLine; decide, fun q2 h2 => ?_⟩⟩
      refine ⟨_, _, _, .int 5, _, _, 3, rfl, .int 5, Any.tup (same_new h2 _ _ upd_same) .nil, Any.lst upd_same .nil, fit_flat rfl, fit_flat rfl, by decide, nb rfl, (fun _ => nb (by decide)), (fun _ _ => nb (by decide)), fun p1' e1' _ _ _ t1 H3 ht1 s3 et1 => ?_⟩
      cases e1'
      refine ⟨by show 3 ≤ sizeLine; decide, fun q3 h3 => ?_⟩
      refine eq_same (d := .tuple ([0, 0, 0].map .int)) (.tup (same_new h3 _ _ et1) (ints_anyL [0, 0, 0])) (.tup upd_same (ints_anyL [0, 0, 0])) (lay_tup (lay_ints _)) (by decide) ⟨_, rfl, iteT ?_⟩
      refine ⟨by show 0 ≤ sizeLine; decide, fun q4 h4 => ⟨by show 0 ≤ sizeLine; decide, fun q5 h5 => ⟨by show 2 ≤ sizeLine; decide, fun q6 h6 => ⟨by show 0 ≤ sizeLine; decide, fun q7 h7 => ?_⟩⟩⟩⟩
      have k5 := same_new (o := .tup []) h5
      have k6 := same_new (o := .lst [.ref q4, .ref q5]) h6
      have k7 := same_new (o := .lst []) h7
      refine ⟨_, _, _, .int 3, .list [.tuple [], .tuple []], _, 1, rfl, .int 3, Any.lst (k7 _ _ upd_same) (.cons (.tup (k7 _ _ (k6 _ _ (k5 _ _ upd_same))) .nil) (.cons (.tup (k7 _ _ (k6 _ _ upd_same)) .nil) .nil)), Any.lst upd_same .nil, ⟨fit1_of (ds := [.tuple [], .tuple []]) rfl (by decide) (by decide), fun e he => ?_⟩, fit_flat rfl, by decide, nb rfl, (fun _ => nb (by decide)), (fun _ _ => nb (by decide)), fun p2' e2' _ _ _ l acc H8 hl s8 e8 al => ?_⟩
      · have z : e = .tuple [] := by
          have he' : e ∈ [PyData.tuple [], PyData.tuple []] := he
          simpa using he'
        rw [z]
        exact fit1_flat rfl
      cases e2'
      refine ⟨by show 1 ≤ sizeLine; decide, fun q8 h8 => ⟨by show 1 ≤ sizeLine; decide, fun q9 h9 => ⟨by show 2 ≤ sizeLine; decide, fun q10 h10 => ?_⟩⟩⟩
      have k8 := same_new (o := .tup [.int 0]) h8
      have k9 := same_new (o := .tup [.int 0]) h9
      have k10 := same_new (o := .lst [.ref q8, .ref q9]) h10
      have al2 : AnyL (del H8 l) acc [.tuple ([0].map .int), .tuple ([0].map .int)] := al
      refine eq_same (d := .list [.tuple ([0].map .int), .tuple ([0].map .int)]) (.lst (k10 _ _ (k9 _ _ (k8 _ _ e8))) (anyL_keep (same_del.trans ((k8.trans k9).trans k10)) al2)) (.lst upd_same (.cons (.tup (k10 _ _ (k9 _ _ upd_same)) (ints_anyL [0])) (.cons (.tup (k10 _ _ upd_same) (ints_anyL [0])) .nil))) (lay_list fun d hd => ?_) (by decide) (q _)
      have hd' : d ∈ [PyData.tuple ([0].map .int), PyData.tuple ([0].map .int)] := hd
      have z : d = PyData.tuple ([0].map .int) := by simpa using hd'
      rw [z]
      exact lay_tup (lay_ints _)
end
end K3

set_option Elab.async false
set_option linter.all false
set_option maxRecDepth 100000
set_option maxHeartbeats 8000000
/-! K3I: the end. -/
namespace K3
open PySem PySem.Spec PyProof.Rows L2 Rw
abbrev sIniP : Stmt := inClass (top 2) 0
abbrev sIniV : Stmt := inClass (top 3) 0
abbrev sIniM : Stmt := inClass (top 4) 0
theorem scIniP : FnScope ["self", "value"] ["self", "value"] (defScope sIniP) := ⟨rfl, rfl, rfl, by decide +kernel, rfl, by decide +kernel, by decide +kernel⟩
theorem scIniV : FnScope ["self", "value"] ["self", "value"] (defScope sIniV) := ⟨rfl, rfl, rfl, by decide +kernel, rfl, by decide +kernel, by decide +kernel⟩
theorem scIniM : FnScope ["self", "value"] ["self", "value"] (defScope sIniM) := ⟨rfl, rfl, rfl, by decide +kernel, rfl, by decide +kernel, by decide +kernel⟩
theorem isP : IsIni sIniP := ⟨_, _, _, _, rfl, rfl, rfl⟩
theorem isV : IsIni sIniV := ⟨_, _, _, _, rfl, rfl, rfl⟩
theorem isM : IsIni sIniM := ⟨_, _, _, _, rfl, rfl, rfl⟩
/-- what is asked of the written part -/
structure Asked (K : PySem.W.Frag) (CR CP CV CM aI : Addr) (kI : List (Int × Value)) : Prop where
  ta : TabIHere K "INVERSES" aI kI
  hI : ∀ i, (lookI kI i).isSome = decide (i ∈ primesL)
  eP : ErrHere K "InvalidPrime" "InvalidPrime.__init__" sIniP CR CP
  eV : ErrHere K "InvalidVector" "InvalidVector.__init__" sIniV CR CV
  eM : ErrHere K "InvalidMatrix" "InvalidMatrix.__init__" sIniM CR CM
  d1 : DefHere K "is_number" sNum
  d2 : DefHere K "is_prime" sPrime
  d3 : DefHere K "check_prime" sCheck
  d4 : DefHere K "is_list" sList
  d5 : DefHere K "is_vector" sVec
  d6 : DefHere K "is_matrix" sMat
  d7 : DefHere K "has_width" sWid
  d8 : DefHere K "mixed" sMixed
  d9 : DefHere K "led" sLed
  d10 : DefHere K "joined" sJoined
  d11 : DefHere K "_law_cell" sCell
  d12 : DefHere K "_law_box" sBox
  d13 : DefHere K "_law_take" sTake
  d14 : DefHere K "_law_mixed" sMix
  d15 : DefHere K "_law_led" sLedL
  d16 : DefHere K "_law_numbers_of" sNums
  d17 : DefHere K "_law_sheet" sSheet
  d18 : DefHere K "_law_kept" sKept
  d19 : DefHere K "law" sLaw
  z1 : PySem.W.nsIn K mainGlobals "isinstance" = some none
  z2 : PySem.W.nsIn K mainGlobals "int" = some none
  z3 : PySem.W.nsIn K mainGlobals "bool" = some none
  z4 : PySem.W.nsIn K mainGlobals "list" = some none
  z5 : PySem.W.nsIn K mainGlobals "tuple" = some none
  z6 : PySem.W.nsIn K mainGlobals "len" = some none
  z7 : PySem.W.nsIn K mainGlobals "all" = some none
  z8 : PySem.W.nsIn K mainGlobals "sum" = some none
  z9 : PySem.W.nsIn K mainGlobals "zip" = some none
  z10 : PySem.W.nsIn K mainGlobals "range" = some none
  z11 : PySem.W.nsIn K mainGlobals "max" = some none
  z12 : PySem.W.nsIn K mainGlobals "min" = some none
  z13 : PySem.W.nsIn K mainGlobals "repr" = some none
theorem all_mk {l : PySem.W.OpenLaw} {w : World} {K : PySem.W.Frag} {h : Heap} {mg : Str → Option Value} {fa CR CP CV CM aI : Addr} {kI : List (Int × Value)} (X : K.In h) (G : h.Ns mainGlobals mg) (hfa : mg "law" = some (.ref fa)) (Z : Asked K CR CP CV CM aI kI) :
    ∃ fd : FuncData, (∀ (s : Shared) (v : Value), BindsTo s fd ⟨[v], []⟩ [("_law_script", v)]) ∧ ∀ base : Heap, K.In base → base.Ns mainGlobals mg → FnG l.prog w K mg base CX0 10 fa fd ["_law_script"] (spLaw K) := by
  have T : Txt K w mg aI CP CV CM kI := by
    refine ⟨PySem.W.mg_none_of X G Z.z1, PySem.W.mg_none_of X G Z.z2, PySem.W.mg_none_of X G Z.z3, PySem.W.mg_none_of X G Z.z4, PySem.W.mg_none_of X G Z.z5, PySem.W.mg_none_of X G Z.z6, PySem.W.mg_none_of X G Z.z7, PySem.W.mg_none_of X G Z.z8, PySem.W.mg_none_of X G Z.z9, PySem.W.mg_none_of X G Z.z10, PySem.W.mg_of X G Z.ta.1, Z.ta.2, Z.hI, ?_, ?_, ?_⟩
    · exact Z.eP.err X G scIniP isP fun _ _ _ _ _ _ us hl => match us, hl with | [_, _], _ => rfl
    · exact Z.eV.err X G scIniV isV fun _ _ _ _ _ _ us hl => match us, hl with | [_, _], _ => rfl
    · exact Z.eM.err X G scIniM isM fun _ _ _ _ _ _ us hl => match us, hl with | [_, _], _ => rfl
  have D1 := Z.d1.df (ps := ["value"]) X G fun _ _ _ _ _ _ us hl => match us, hl with | [_], _ => rfl
  have D2 := Z.d2.df (ps := ["value"]) X G fun _ _ _ _ _ _ us hl => match us, hl with | [_], _ => rfl
  have D3 := Z.d3.df (ps := ["prime"]) X G fun _ _ _ _ _ _ us hl => match us, hl with | [_], _ => rfl
  have D4 := Z.d4.df (ps := ["value"]) X G fun _ _ _ _ _ _ us hl => match us, hl with | [_], _ => rfl
  have D5 := Z.d5.df (ps := ["value", "length"]) X G fun _ _ _ _ _ _ us hl => match us, hl with | [_, _], _ => rfl
  have D6 := Z.d6.df (ps := ["value", "height", "width"]) X G fun _ _ _ _ _ _ us hl => match us, hl with | [_, _, _], _ => rfl
  have D7 := Z.d7.df (ps := ["value", "width"]) X G fun _ _ _ _ _ _ us hl => match us, hl with | [_, _], _ => rfl
  have D8 := Z.d8.df (ps := ["prime", "factors", "rows", "width"]) X G fun _ _ _ _ _ _ us hl => match us, hl with | [_, _, _, _], _ => rfl
  have D9 := Z.d9.df (ps := ["prime", "vector", "matrix", "width"]) X G fun _ _ _ _ _ _ us hl => match us, hl with | [_, _, _, _], _ => rfl
  have D10 := Z.d10.df (ps := ["prime", "one", "other", "width"]) X G fun _ _ _ _ _ _ us hl => match us, hl with | [_, _, _, _], _ => rfl
  have D11 := Z.d11.df (ps := ["_law_script", "_law_k"]) X G fun _ _ _ _ _ _ us hl => match us, hl with | [_, _], _ => rfl
  have D12 := Z.d12.df (ps := ["_law_cell_here"]) X G fun _ _ _ _ _ _ us hl => match us, hl with | [_], _ => rfl
  have D13 := Z.d13.df (ps := ["_law_box_here", "_law_many"]) X G fun _ _ _ _ _ _ us hl => match us, hl with | [_, _], _ => rfl
  have D14 := Z.d14.df (ps := ["_law_box_here", "_law_some"]) X G fun _ _ _ _ _ _ us hl => match us, hl with | [_, _], _ => rfl
  have D15 := Z.d15.df (ps := ["_law_p", "_law_vector", "_law_sheet_here", "_law_wide"]) X G fun _ _ _ _ _ _ us hl => match us, hl with | [_, _, _, _], _ => rfl
  have D16 := Z.d16.df (ps := ["_law_box_here", "_law_p", "_law_many"]) X G fun _ _ _ _ _ _ us hl => match us, hl with | [_, _, _], _ => rfl
  have D17 := Z.d17.df (ps := ["_law_box_here", "_law_p", "_law_high", "_law_wide"]) X G fun _ _ _ _ _ _ us hl => match us, hl with | [_, _, _, _], _ => rfl
  have D18 := Z.d18.df (ps := ["_law_p", "_law_told", "_law_wide"]) X G fun _ _ _ _ _ _ us hl => match us, hl with | [_, _, _], _ => rfl
  obtain ⟨f, g, oc, od, kV, dc, pm, an, cd, ct, sl, lk, hc, hk⟩ := Z.d19
  have e := hfa.symm.trans (PySem.W.mg_of X G g)
  cases e
  refine ⟨PySem.W.fnOf "law" "law" (defArgs sLaw) (defBody sLaw) (defScope sLaw) .none kV dc pm an cd ct, fun s v => .of_eq rfl, fun base KB _ => ?_⟩
  have G1 : Own l.prog w K mg base CX0 1 "is_number" ["value"] [] spNum := D1.own fun f fd F => okNum F T
  have G2 : Own l.prog w K mg base CX0 2 "is_prime" ["value"] [] spPrime := D2.own fun f fd F => okPrime F T G1
  have G3 : Own l.prog w K mg base (L2.CX l.prog w) 4 "check_prime" ["prime"] [] (spCheck CP) := D3.own fun f fd F => okCheck F T G2
  have G4 : Own l.prog w K mg base CX0 1 "is_list" ["value"] [] spList := D4.own fun f fd F => okList F T
  have G5 : Own l.prog w K mg base CX0 2 "is_vector" ["value", "length"] [] spVec := D5.own fun f fd F => okVec F T G4
  have G6 : Own l.prog w K mg base CX0 3 "is_matrix" ["value", "height", "width"] [] spMat := D6.own fun f fd F => okMat F T G4 G5
  have G7 : Own l.prog w K mg base CX0 4 "has_width" ["value", "width"] [] spWid := D7.own fun f fd F => okWid F T G4 G6
  have G8 : Own l.prog w K mg base CX0 1 "mixed" ["prime", "factors", "rows", "width"] [] spMixed := D8.own fun f fd F => okMixed F T
  have G9 : Own l.prog w K mg base (L2.CX l.prog w) 6 "led" ["prime", "vector", "matrix", "width"] [] (spLed CP CV CM) := D9.own fun f fd F => okLed F T G3 G4 G5 G6 G8
  have G10 : Own l.prog w K mg base (L2.CX l.prog w) 6 "joined" ["prime", "one", "other", "width"] [] (spJoined CP CM) := D10.own fun f fd F => okJoined F T G3 G7 G8
  have G11 : Own l.prog w K mg base CX0 1 "_law_cell" ["_law_script", "_law_k"] [] (spCellR K) := D11.own fun f fd F => okCell F T.len
  have G12 : Own l.prog w K mg base CX0 1 "_law_box" ["_law_cell_here"] [] spBoxR := D12.own fun f fd F => okBox F (PySem.W.mg_none_of X G Z.z11) T.int
  have G13 : Own l.prog w K mg base CX0 1 "_law_take" ["_law_box_here", "_law_many"] [] spTakeR := D13.own fun f fd F => okTake F T.int
  have G14 : Own l.prog w K mg base CX0 2 "_law_mixed" ["_law_box_here", "_law_some"] [] spMix6 := D14.own fun f fd F => okMix F T G13
  have G15 : Own l.prog w K mg base CX0 1 "_law_led" ["_law_p", "_law_vector", "_law_sheet_here", "_law_wide"] [] spMixed := D15.own fun f fd F => okLedL F T
  have G16 : Own l.prog w K mg base CX0 2 "_law_numbers_of" ["_law_box_here", "_law_p", "_law_many"] [] spNums := D16.own fun f fd F => okNums F T G13
  have G17 : Own l.prog w K mg base CX0 3 "_law_sheet" ["_law_box_here", "_law_p", "_law_high", "_law_wide"] [] spSheet3 := D17.own fun f fd F => okSheet F T G13 G16
  have G18 : Own l.prog w K mg base CX0 1 "_law_kept" ["_law_p", "_law_told", "_law_wide"] [] spKept := D18.own fun f fd F => okKept F T
  exact okLaw (fun_mk (st := sLaw) lk hc hk) ⟨T.range, PySem.W.mg_none_of X G Z.z13, PySem.W.mg_none_of X G Z.z11, PySem.W.mg_none_of X G Z.z12, T.len, T.tuple, T.list, T.isi⟩ ⟨G11, G12, G13, G14, G16, G17, G15, G18, G9, G10⟩
end K3

set_option Elab.async false
open PySem PySem.W PyProof.Rows
set_option maxRecDepth 100000
set_option maxHeartbeats 0
open_top k3head for PySem.Challenge.rw_maprows_k03_vectors_led_by_matrices

open PySem PySem.W PyProof.Rows in
set_option maxRecDepth 100000 in
set_option maxHeartbeats 0 in
set_option pp.maxSteps 200 in
theorem PySem.Challenge.cw_maprows_k03_vectors_led_by_matrices_holds : PySem.Challenge.rw_maprows_k03_vectors_led_by_matrices.Holds := by
  refine k3head ?walk
  k_fill
  refine Rw.walkG (l := PySem.Challenge.rw_maprows_k03_vectors_led_by_matrices) (n := 63) (k := 10) (x := "_law_script") (sp := K3.spLaw) rfl (by decide) rfl rfl ⟨rfl, by decide, by decide⟩ (fun w h Y => PySem.W.kIn_of Y) ?F (fun K H a ns hl _ hs => ⟨a, ns, rfl, hs, hl, fun _ => rfl⟩)
  intro w mg fa h KX G hmg
  refine' K3.all_mk KX G hmg ?Z
  case' Z => refine' ⟨?ta, ?hI, ?eP, ?eV, ?eM, ?d1, ?d2, ?d3, ?d4, ?d5, ?d6, ?d7, ?d8, ?d9, ?d10, ?d11, ?d12, ?d13, ?d14, ?d15, ?d16, ?d17, ?d18, ?d19, ?z1, ?z2, ?z3, ?z4, ?z5, ?z6, ?z7, ?z8, ?z9, ?z10, ?z11, ?z12, ?z13⟩
  (case ta => refine' Rw.TabIHere.of ?g ?k ?t ?z; (case g => k_is); (case k => k_is); (case t => exact .cons rfl rfl rfl (.cons rfl rfl rfl (.cons rfl rfl rfl (.cons rfl rfl rfl (.cons rfl rfl rfl (.cons rfl rfl rfl .nil)))))); (case z => first | rfl | k_is))
  (case hI => exact fun i => Rw.prime_tab (us := []) i)
  (case eP => refine' Rw.ErrHere.of ?g ?xl ?sa ?ga ?gg ?no ?ini ?ty ?l ?c ?k ?kc ?ex ?tc ?hd; (case g => k_is); (case xl => k_is); (case sa => k_is); (case ga => k_is); (case gg => k_is); (case no => k_is); (case ini => k_is); (case ty => k_is); (case l => k_is); (case c => k_is); (case k => k_is); (case kc => k_is); (case ex => k_is); (case tc => k_is); (case hd => k_is))
  (case eV => refine' Rw.ErrHere.of ?g ?xl ?sa ?ga ?gg ?no ?ini ?ty ?l ?c ?k ?kc ?ex ?tc ?hd; (case g => k_is); (case xl => k_is); (case sa => k_is); (case ga => k_is); (case gg => k_is); (case no => k_is); (case ini => k_is); (case ty => k_is); (case l => k_is); (case c => k_is); (case k => k_is); (case kc => k_is); (case ex => k_is); (case tc => k_is); (case hd => k_is))
  (case eM => refine' Rw.ErrHere.of ?g ?xl ?sa ?ga ?gg ?no ?ini ?ty ?l ?c ?k ?kc ?ex ?tc ?hd; (case g => k_is); (case xl => k_is); (case sa => k_is); (case ga => k_is); (case gg => k_is); (case no => k_is); (case ini => k_is); (case ty => k_is); (case l => k_is); (case c => k_is); (case k => k_is); (case kc => k_is); (case ex => k_is); (case tc => k_is); (case hd => k_is))
  (case d1 => refine' Rw.DefHere.of ?g ?l ?c ?k; (case g => k_is); (case l => k_is); (case c => k_is); (case k => k_is))
  (case d2 => refine' Rw.DefHere.of ?g ?l ?c ?k; (case g => k_is); (case l => k_is); (case c => k_is); (case k => k_is))
  (case d3 => refine' Rw.DefHere.of ?g ?l ?c ?k; (case g => k_is); (case l => k_is); (case c => k_is); (case k => k_is))
  (case d4 => refine' Rw.DefHere.of ?g ?l ?c ?k; (case g => k_is); (case l => k_is); (case c => k_is); (case k => k_is))
  (case d5 => refine' Rw.DefHere.of ?g ?l ?c ?k; (case g => k_is); (case l => k_is); (case c => k_is); (case k => k_is))
  (case d6 => refine' Rw.DefHere.of ?g ?l ?c ?k; (case g => k_is); (case l => k_is); (case c => k_is); (case k => k_is))
  (case d7 => refine' Rw.DefHere.of ?g ?l ?c ?k; (case g => k_is); (case l => k_is); (case c => k_is); (case k => k_is))
  (case d8 => refine' Rw.DefHere.of ?g ?l ?c ?k; (case g => k_is); (case l => k_is); (case c => k_is); (case k => k_is))
  (case d9 => refine' Rw.DefHere.of ?g ?l ?c ?k; (case g => k_is); (case l => k_is); (case c => k_is); (case k => k_is))
  (case d10 => refine' Rw.DefHere.of ?g ?l ?c ?k; (case g => k_is); (case l => k_is); (case c => k_is); (case k => k_is))
  (case d11 => refine' Rw.DefHere.of ?g ?l ?c ?k; (case g => k_is); (case l => k_is); (case c => k_is); (case k => k_is))
  (case d12 => refine' Rw.DefHere.of ?g ?l ?c ?k; (case g => k_is); (case l => k_is); (case c => k_is); (case k => k_is))
  (case d13 => refine' Rw.DefHere.of ?g ?l ?c ?k; (case g => k_is); (case l => k_is); (case c => k_is); (case k => k_is))
  (case d14 => refine' Rw.DefHere.of ?g ?l ?c ?k; (case g => k_is); (case l => k_is); (case c => k_is); (case k => k_is))
  (case d15 => refine' Rw.DefHere.of ?g ?l ?c ?k; (case g => k_is); (case l => k_is); (case c => k_is); (case k => k_is))
  (case d16 => refine' Rw.DefHere.of ?g ?l ?c ?k; (case g => k_is); (case l => k_is); (case c => k_is); (case k => k_is))
  (case d17 => refine' Rw.DefHere.of ?g ?l ?c ?k; (case g => k_is); (case l => k_is); (case c => k_is); (case k => k_is))
  (case d18 => refine' Rw.DefHere.of ?g ?l ?c ?k; (case g => k_is); (case l => k_is); (case c => k_is); (case k => k_is))
  (case d19 => refine' Rw.DefHere.of ?g ?l ?c ?k; (case g => k_is); (case l => k_is); (case c => k_is); (case k => k_is))
  (case z1 => k_is)
  (case z2 => k_is)
  (case z3 => k_is)
  (case z4 => k_is)
  (case z5 => k_is)
  (case z6 => k_is)
  (case z7 => k_is)
  (case z8 => k_is)
  (case z9 => k_is)
  (case z10 => k_is)
  (case z11 => k_is)
  (case z12 => k_is)
  (case z13 => k_is)
#print axioms PySem.Challenge.cw_maprows_k03_vectors_led_by_matrices_holds
