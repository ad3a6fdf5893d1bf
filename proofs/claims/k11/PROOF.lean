import PyProof.Rows.All
import Wide.All
import OpenK.AllK
import Wide.FinOn
import PyProof.RowDictHeap
import PyProof.ReprRoads
import HandS.ForMost
import HandS.ForExc
import HandS.ExcInit
import HandS.ExcField
import HandS.IsInst
import HandS.Wide
import HandS.Defaults
import HandS.Conv
import KE.GoesMore
import KE.GoesZip
import HandS.Zip0
import HandS.Walk
import KE.GoesEnum
import PySem.Challenge.RW_maprows_k11_rows_refused
import HandS.Property
import PyProof.P3Eq
import PyProof.StrLawsRepr
import HandS.TryOnly
import PyProof.NeKinds
import HandS.Evl
set_option Elab.async false
set_option linter.all false
set_option maxRecDepth 100000
set_option maxHeartbeats 4000000
/-! TkA: own rules that all laws of this program share: a def called where no repr runs (FnG), the end of a row from it, repr of data, try with several named clauses. -/
namespace Rw
open PySem PySem.Spec PyProof.Rows L2

/-! ### defs that are called where no repr is under way -/
theorem guards_deep (A : Around) (e : Env) : (A.deeper e).guards = A.guards := by rfl
/-- FnOk, but only where no repr is under way -/
structure FnG (P : Program) (w : World) (K : PySem.W.Frag) (mg : Str → Option Value) (base : Heap) (CX : CXT) (k : Nat) (f : Addr) (fd : FuncData) (ps : List Str) (sp : Sp) : Prop where
  many : ∀ vs H Q E, sp vs H Q E → vs.length = ps.length
  go : ∀ (A : Around) (fr : List Env) (s : Shared) (H : Hp) (ar : Args) (us : List Value) (vs : List V) (Q : VK) (E : XK), A.guards = some [] → Room k A → Env0 P w K mg base A fr s H →
    BindsTo s fd ar (ps.zip us) → Vals vs us → sp vs H Q E → codeAny (model P w) A (.call (.ref f) ar) (CR CX fr P w H s Q E) s

section
variable {P : Program} {w : World} {K : PySem.W.Frag} {mg : Str → Option Value} {base : Heap} {CX : CXT}
theorem fnG_of {k : Nat} {f : Addr} {name qual : Str} {pa : Arguments} {bd : List Stmt} {sc : Scope} {dV kV doc pm cdv ct oc : Value} {an od : Option Addr} {osl : Array (Option Value)} {N ps : List Str} {sp : Sp}
    (lk : K.lookup f = some ⟨oc, od, .func (PySem.W.fnOf name qual pa bd sc dV kV doc pm an cdv ct), osl⟩) (hcd : PySem.W.codeIn K cdv qual = true) (S : FnScope N ps sc)
    (many : ∀ vs H Q E, sp vs H Q E → vs.length = ps.length)
    (walk : ∀ (A : Around) (fr : List Env) (s : Shared) (H : Hp) (vs : List V) (Q : VK) (E : XK), A.guards = some [] → Room k (A.deeper (envOfC qual sc s.heap.objs.size f cdv)) → sp vs H Q E →
      ∃ t, PSs (cxOf CX P w K mg base N qual sc f cdv A fr s H E) bd t ∧ t { nx := fun _ H' => Q .non H', rt := Q } (start N vs) H) :
    FnG P w K mg base CX (k + 1) f (PySem.W.fnOf name qual pa bd sc dV kV doc pm an cdv ct) ps sp := by
  constructor
  · exact many
  intro A fr s H ar us vs Q E gu room ev bnd rel prom
  have cnt := many vs H Q E prom
  have kin : K.In s.heap := PySem.W.Frag.In.keeps ev.mod.kin (fun b o e => (ev.bs b o e).1)
  have lim : s.heap.NoLimit := Heap.NoLimit.keeps ev.mod.nolimit (fun b o e => (ev.bs b o e).1)
  refine codeAny_call_function (Room.depth room) (kin f _ lk) rfl S.co S.gen rfl (PySem.W.codeRec_of kin hcd) ?_
  refine bnd _ _ _ _ ?_
  refine wpAny_newFunctionEnv_cells S.kind ?_ ?_
  · intro y hy
    obtain ⟨n, v⟩ := y
    have hp := (List.of_mem_zip hy).1
    cases S.par n hp with
    | inl q => exact Or.inl q
    | inr q => exact Or.inr ⟨q, PySem.W.cellsFrom_some sc.names (s.heap.objs.size + 1) [] (Or.inl q)⟩
  intro env he s1 x
  subst he
  refine And.intro (lim.keeps (InCallC.toInCall x).keep) ?_
  refine codeAny_func ?_
  have start_ok := inv_start (CX := CX) (E := E) (f := f) (cd := cdv) S room.hd ev cnt rel x
  obtain ⟨t, ht, hq⟩ := walk A fr s H vs Q E gu (Room.deeper room _) prom
  refine wpAny_mono (PSs.run ht [] s1 (start N vs) H _ start_ok hq) ?_ (fun _ _ z => z)
  intro fl s2 hs
  cases fl with
  | ret u =>
    obtain ⟨v, σ2, H2, J, rv, q⟩ := hs
    exact Exists.intro v ⟨H2, J.os, J.bare, J.base, J.hok, rv, q⟩
  | next =>
    obtain ⟨σ2, H2, J, q⟩ := hs
    exact Exists.intro V.non ⟨H2, J.os, J.bare, J.base, J.hok, rfl, q⟩
  | brk => exact (hs.choose_spec.choose_spec.2).elim
  | cont => exact (hs.choose_spec.choose_spec.2).elim
/-- a def of the text: its body's term and reading, where no repr is under way -/
theorem funG {x qual : Str} {st : Stmt} {f : Addr} {fd : FuncData} {N ps : List Str} {k : Nat} {sp : Sp} (F : Fun K x qual st f fd) (S : FnScope N ps (defScope st)) (many : ∀ vs H Q E, sp vs H Q E → vs.length = ps.length)
    (walk : ∀ (cdv : Value) (A : Around) (fr : List Env) (s : Shared) (H : Hp) (vs : List V) (Q : VK) (E : XK), (cxOf CX0 P w K mg base N qual (defScope st) f cdv A fr s H E).A.guards = some [] →
      Room k (A.deeper (envOfC qual (defScope st) s.heap.objs.size f cdv)) → sp vs H Q E →
      ∃ t, PSs (cxOf CX0 P w K mg base N qual (defScope st) f cdv A fr s H E).nox (defBody st) t ∧ t { nx := fun _ H' => Q .non H', rt := Q } (start N vs) H) : FnG P w K mg base CX0 (k + 1) f fd ps sp := by
  obtain ⟨oc, od, kV, doc, pm, an, cdv, ct, osl, rfl, lk, hcd⟩ := F.ex
  refine fnG_of lk hcd S many ?_
  intro A fr s H vs Q E gu room prom
  obtain ⟨t, d, q⟩ := walk cdv A fr s H vs Q E gu room prom
  exact ⟨t, PSs.nox d, q⟩
end

section
variable {X : Cx} {CX : CXT} {k : Nat} {f : Addr} {fd : FuncData} {ps : List Str} {sp : Sp} {dvs : List V} {ds : List Value} {E : XK} {x : Str} {p pos : Pos} {e : Expr} {es : List Expr} {t : TA}
/-- f(e, ..) of such a def -/
theorem pe_callG (F : FnG X.prog X.w X.K X.mg X.base CX k f fd ps sp) (gu : X.A.guards = some []) (room : Room k X.A) (hg : Gl X x) (hm : X.mg x = some (.ref f)) (hk : PySem.W.keepIn X.K (.ref f) = true)
    (bnd : Binds X.K fd ps ds) (hd : Vals dvs ds) (hx : Passes CX X E) (ha : PA X (e :: es) t) (hdb : (x == ("__debug__" : Str)) = false := by decide)
    (he : starEach (e :: es) X.env = (false, eval e X.env) :: starEach es X.env := by rfl) (hpl : (backTo pos (starEach es X.env)).any (·.1) = false := by rfl) :
    PE X (.Call (.Name x p) (e :: es) [] pos) (tCall sp dvs E t) := by
  constructor
  intro pins s σ H Q I h
  refine wpAny_Call_Name_kw (ld_glob I hg hm ?_ hdb)
  refine PySem.W.callWith_K (h₀ := X.base) I.ok.mod.kin hk ?_ he hpl
  refine thn (PA.run ha pos pins s σ H _ I h) ?_
  intro us s1 hh
  obtain ⟨vs, H1, I1, r, q⟩ := hh
  refine ⟨I1.kIn, ?_⟩
  have r2 : Vals (vs ++ dvs) (us ++ ds) := Vals.append r hd
  have cnt : (us ++ ds).length = ps.length := (r2.length).symm.trans (F.many _ _ _ _ q)
  refine wpAny_call (codeAny_mono (F.go X.A X.stack s1 H1 ⟨us, []⟩ (us ++ ds) (vs ++ dvs) Q E gu room I1.env0 (bnd s1 us I1.kIn cnt) r2 q) ?_)
  intro res s2 hq
  cases res with
  | error er => exact hx pins σ H1 s1 er s2 I1 hq
  | ok fl =>
    cases fl with
    | ret u => exact Inv.after I1 hq
    | next => exact hq.elim
    | brk => exact hq.elim
    | cont => exact hq.elim
end
end Rw

set_option Elab.async false
set_option linter.all false
set_option maxRecDepth 100000
set_option maxHeartbeats 4000000
/-! TkB: the end of a law's row from a def that is called where no repr is under way. -/
namespace Rw
open PySem PySem.Spec PyProof.Rows L2

/-- nothing is tracked in H but perhaps a -/
def Lone (H : Hp) (a : Addr) : Prop := ∀ b, H b ≠ none → b = a

section
variable {P : Program} {w : World} {K : PySem.W.Frag} {mg mb : Str → Option Value} {s : Shared} {a : Addr} {H : Hp} {o : Obj}
theorem lone_base {b : Addr} {u : Obj} (e : s.heap.get? b = some u) (n : H b = none) : (hidT s.heap H).get? b = some u := hidT_get e n
theorem lone_free (A : Lone H a) {b : Addr} (n : b ≠ a) : H b = none := by
  cases q : H b with
  | none => rfl
  | some u => exact (n (A b (by rw [q]; exact fun z => nomatch z))).elim
theorem lone_dict (A : Lone H a) (ha : s.heap.get? a = some o) (hd : ∀ es n, o.data ≠ .dict es n) {b : Addr} {u : Obj} {es : Array DictEntry} {n : Nat} (e : s.heap.get? b = some u) (d : u.data = .dict es n) : H b = none :=
  lone_free A fun z => by
    rw [z, ha] at e
    cases e
    exact hd es n d
theorem lone_ns (A : Lone H a) (ha : s.heap.get? a = some o) (hd : ∀ es n, o.data ≠ .dict es n) {b : Addr} {m : Str → Option Value} (h : s.heap.Ns b m) : (hidT s.heap H).Ns b m := by
  obtain ⟨u, es, n, e, d, r⟩ := h
  exact ⟨u, es, n, lone_base e (lone_dict A ha hd e d), d, r⟩
theorem lone_mod (A : Lone H a) (ha : s.heap.get? a = some o) (hd : ∀ es n, o.data ≠ .dict es n) (KX : K.In s.heap) (hK : H a ≠ none → K.lookup a = none) (g : s.heap.Ns mainGlobals mg) (b : s.heap.Ns builtinsNs mb)
    (bb : ∀ x : Str, x ≠ "__name__" → mb x = bootBuiltins x) (lim : s.heap.NoLimit) : Mod K mg (hidT s.heap H) := by
  have kin : K.In (hidT s.heap H) := fun c u e => by
    refine lone_base (KX c u e) ?_
    by_cases z : c = a
    · cases q : H a with
      | none => rw [z]; exact q
      | some y =>
        rw [z, hK (by rw [q]; exact fun z => nomatch z)] at e
        cases e
    · exact lone_free A z
  refine ⟨kin, lone_ns A ha hd g, ⟨mb, lone_ns A ha hd b, bb⟩, ?_⟩
  obtain ⟨mc, h1, h2⟩ := lim
  exact ⟨mc, lone_ns A ha hd h1, h2⟩

/-- what a law's run leaves, from its promise -/
theorem lone_run {CX : CXT} {k : Nat} {fa : Addr} {fd : FuncData} {x : Str} {sp : Sp} (A : Lone H a) (ha : s.heap.get? a = some o) (hd : ∀ es n, o.data ≠ .dict es n) (KX : K.In s.heap) (hK : H a ≠ none → K.lookup a = none)
    (g : s.heap.Ns mainGlobals mg) (b : s.heap.Ns builtinsNs mb) (bb : ∀ x : Str, x ≠ "__name__" → mb x = bootBuiltins x) (lim : s.heap.NoLimit) (hg : s.gens = #[]) (only : Only H) (hok : HOk P w H s.heap) (gu : callerA.guards = some []) (hr : Room k callerA)
    (F : ∀ base : Heap, K.In base → base.Ns mainGlobals mg → FnG P w K mg base CX k fa fd [x] sp) (bnd : ∀ (s : Shared) (u : Value), BindsTo s fd ⟨[u], []⟩ [(x, u)])
    (hs : sp [.ref a] H (fun v _ => v = .bl true) fun _ _ _ => False) (hCX : ∀ e s', CX [] H s (fun _ _ _ => False) e s' → False) :
    codeAny (model P w) callerA (.call (.ref fa) ⟨[.ref a], []⟩) (fun r s' => r = .ok (.ret (.bool true)) ∧ OldK s.heap s'.heap ∧ s'.os = s.os ∧ AllBare s'.gens) s := by
  have M := lone_mod A ha hd KX hK g b bb lim
  have ev : Env0 P w K mg (hidT s.heap H) callerA [] s H := by
    refine ⟨rfl, M, fun c u e => of_hidT e, Nat.le_of_eq (hidT_size _ _), True.intro, ?_, hok, .of_eq hg⟩
    intro c hc
    cases hc
  refine codeAny_mono ((F _ M.kin M.glob).go callerA [] s H ⟨[.ref a], []⟩ [.ref a] [.ref a] _ _ gu hr ev (bnd s (.ref a)) (.cons rfl .nil) hs) ?_
  intro r s' h
  cases r with
  | error e => exact False.elim (hCX e s' h)
  | ok fl =>
    cases fl with
    | next => exact h.elim
    | brk => exact h.elim
    | cont => exact h.elim
    | ret u =>
      obtain ⟨v, H', os, bare, un, hok', r', q⟩ := h
      have ev : v = V.bl true := q
      rw [ev] at r'
      cases (show u = Value.bool true from r')
      refine ⟨rfl, OldK.of_keep ?_, os, bare⟩
      intro c u e
      cases q : H c with
      | none => exact un.keep c u e q (fun z => nomatch z) (fun z => nomatch z)
      | some y =>
        cases only c with
        | inl z =>
          rw [q] at z
          cases z
        | inr z =>
          obtain ⟨ob, xs, z⟩ := z
          have e1 := (hok c _ z).1
          have e2 := (hok' c _ (un.frzs c ob _ z)).1
          rw [e] at e1
          cases e1
          exact e2

theorem lawG {CX : CXT} {k : Nat} {fa : Addr} {fd : FuncData} {x : Str} {sp : Sp} {vs : List Value} {ns : List Int} (KX : K.In s.heap) (g : s.heap.Ns mainGlobals mg) (b : s.heap.Ns builtinsNs mb)
    (bb : ∀ x : Str, x ≠ "__name__" → mb x = bootBuiltins x) (lim : s.heap.NoLimit) (hg : s.gens = #[]) (ha : s.heap.get? a = some { cls := .type "list", data := .seq vs.toArray }) (hi : IntsAre vs ns) (hl : ns.length ≤ sizeLine)
    (gu : callerA.guards = some []) (hr : Room k callerA) (F : ∀ base : Heap, K.In base → base.Ns mainGlobals mg → FnG P w K mg base CX k fa fd [x] sp) (bnd : ∀ (s : Shared) (u : Value), BindsTo s fd ⟨[u], []⟩ [(x, u)])
    (hs : ∀ H : Hp, Only H → SqL K H a (ns.map V.int) → sp [.ref a] H (fun v _ => v = .bl true) fun _ _ _ => False) (hCX : ∀ H e s', CX [] H s (fun _ _ _ => False) e s' → False) :
    codeAny (model P w) callerA (.call (.ref fa) ⟨[.ref a], []⟩) (fun r s' => r = .ok (.ret (.bool true)) ∧ OldK s.heap s'.heap ∧ s'.os = s.os ∧ AllBare s'.gens) s := by
  have rv := vals_ints hi
  have nd : ∀ es n, ({ cls := .type "list", data := .seq vs.toArray } : Obj).data ≠ .dict es n := fun es n z => nomatch z
  cases hk : K.lookup a with
  | some o =>
    have e := KX a o hk
    rw [ha] at e
    cases e
    have sq : SqL K (fun _ => none) a (ns.map V.int) := Or.inr ⟨_, vs.toArray, _, hk, rfl, rfl, rfl, (by rw [List.size_toArray, hi.length]; exact hl), (by simpa using rv)⟩
    have on : Only (fun _ => none) := fun _ => Or.inl rfl
    exact lone_run (H := fun _ => none) (fun b z => absurd rfl z) ha nd KX (fun z => absurd rfl z) g b bb lim hg on (fun c u z => nomatch z) gu hr F bnd (hs _ on sq) (hCX _)
  | none =>
    have on : Only (upd (fun _ => none) a (.frz { cls := .type "list", data := .seq vs.toArray } (.lst (ns.map V.int)))) := fun c => by
      by_cases z : c = a
      · rw [z]
        exact Or.inr ⟨_, _, upd_same⟩
      · exact Or.inl (upd_ne z)
    refine lone_run (a := a) (fun c z => ?_) ha nd KX (fun _ => hk) g b bb lim hg on (fun c u z => ?_) gu hr F bnd (hs _ on (.inl (.inr ⟨_, upd_same⟩))) (hCX _)
    · by_cases y : c = a
      · exact y
      · exact (z (upd_ne y)).elim
    · by_cases y : c = a
      · rw [y, upd_same] at z
        cases z
        rw [y]
        exact ⟨ha, by rw [List.length_map]; exact hl, vs, _, rv, ha⟩
      · rw [upd_ne y] at z
        cases z
end

/-- the row's walk -/
theorem walkG {l : PySem.W.OpenLaw} {n k : Nat} {q : Program} {loose : List Str} {XP : (Str → Option Value) → Heap → Prop} {YP : World → Heap → Prop} {d : DefRec} {K : Params → PySem.W.Frag} {sp : PySem.W.Frag → Sp} {x : Str}
    (hn : l.most = some n) (hn2 : n ≤ sizeLine) (hdf : d.params.defaults = []) (gu : callerA.guards = some []) (hr : Room k callerA) (hY : ∀ (w : World) (h : Heap), YP w h → (K w.params).In h)
    (F : ∀ (w : World) (mg : Str → Option Value) (fa : Addr) (h : Heap), (K w.params).In h → h.Ns mainGlobals mg → mg d.name = some (.ref fa) →
      ∃ fd : FuncData, (∀ (s : Shared) (u : Value), BindsTo s fd ⟨[u], []⟩ [(x, u)]) ∧ ∀ base : Heap, (K w.params).In base → base.Ns mainGlobals mg → FnG l.prog w (K w.params) mg base CX0 k fa fd [x] (sp (K w.params)))
    (hs : ∀ (K : PySem.W.Frag) (H : Hp) (a : Addr) (ns : List Int), ns.length ≤ n → Only H → SqL K H a (ns.map V.int) → sp K [.ref a] H (fun v _ => v = .bl true) fun _ _ _ => False) :
    PySem.W.WalkO q loose XP YP l.row.toRowW d [] (fun f vs => PySem.call f vs) := by
  refine Att.attach_call hn hdf ?_
  intro w s0 s1 mg mb fa o pm cd doc a vs ns G Y ho hd hcd hmg hobj hints hlen hg
  have KX := hY w s1.heap Y
  obtain ⟨fd, bnd, FF⟩ := F w mg fa s1.heap KX G.T.g hmg
  exact lawG KX G.T.g G.T.b G.T.builtins G.T.nolimit hg hobj hints (Nat.le_trans hlen hn2) gu hr FF bnd (fun H on sq => hs (K w.params) H a ns hlen on sq) (fun _ _ _ z => z)
end Rw

set_option Elab.async false
set_option linter.all false
set_option maxRecDepth 100000
set_option maxHeartbeats 4000000
/-! TkC: data with dicts among them; repr of data. -/
namespace Rw
open PySem PySem.Spec PyProof.Rows L2

/-- how a dict's key reads -/
def keyD : Key → PyData
  | .inl i => .int i
  | .inr x => .str x
mutual
/-- what v is, as data: lists and tuples that are tracked, dicts with keys that are ints or texts -/
inductive Any (H : Hp) : V → PyData → Prop
  | non : Any H .non .none
  | bl (b : Bool) : Any H (.bl b) (.bool b)
  | int (i : Int) : Any H (.int i) (.int i)
  | str (x : Str) : Any H (.str x) (.str x)
  | lst {a : Addr} {xs : List V} {ds : List PyData} : H a = some (.lst xs) → AnyL H xs ds → Any H (.ref a) (.list ds)
  | tup {a : Addr} {xs : List V} {ds : List PyData} : H a = some (.tup xs) → AnyL H xs ds → Any H (.ref a) (.tuple ds)
  | dct {a : Addr} {kvs : List (Key × V)} {ds : List (PyData × PyData)} : H a = some (.dK kvs) → AnyK H kvs ds → Any H (.ref a) (.dict ds)
inductive AnyL (H : Hp) : List V → List PyData → Prop
  | nil : AnyL H [] []
  | cons {v : V} {vs : List V} {d : PyData} {ds : List PyData} : Any H v d → AnyL H vs ds → AnyL H (v :: vs) (d :: ds)
inductive AnyK (H : Hp) : List (Key × V) → List (PyData × PyData) → Prop
  | nil : AnyK H [] []
  | cons {k : Key} {v : V} {vs : List (Key × V)} {d : PyData} {ds : List (PyData × PyData)} : Any H v d → AnyK H vs ds → AnyK H ((k, v) :: vs) ((keyD k, d) :: ds)
end

/-! ### how such data is shown -/
section
variable {prog : Program} {w : World} {h : Heap}
/-- u lies as the data d in h, and is shown by repr -/
def Shows (prog : Program) (w : World) (h : Heap) (u : Value) (d : PyData) : Prop := ∃ as, Reads h u d as ∧ ∃ bs, ReadAtMost h d.depth bs ∧ ReprK prog w bs h d.depth u d.shown
def ShowsL (prog : Program) (w : World) (h : Heap) (us : List Value) (ds : List PyData) : Prop := ∃ as, ReadsAll h us ds as ∧ ∃ bs, ReadAtMost h (PyData.depthAll ds) bs ∧ ReprAllK prog w bs h (PyData.depthAll ds) us (PyData.shownAll ds)
theorem shows_flat {u : Value} {d : PyData} (r : Reads h u d []) (k : ReprIs prog w u d.shown) : Shows prog w h u d := ⟨[], r, [], fun _ z => (nomatch z), ReprK.of_is k [] h d.depth⟩
theorem showsL_nil : ShowsL prog w h [] [] := ⟨[], .nil, [], fun _ z => (nomatch z), by simp only [PyData.shownAll]; exact .nil⟩
theorem showsL_cons {u : Value} {d : PyData} {us : List Value} {ds : List PyData} (x : Shows prog w h u d) (y : ShowsL prog w h us ds) : ShowsL prog w h (u :: us) (d :: ds) := by
  obtain ⟨a1, r1, b1, m1, k1⟩ := x
  obtain ⟨a2, r2, b2, m2, k2⟩ := y
  have e : PyData.depthAll (d :: ds) = max d.depth (PyData.depthAll ds) := by simp only [PyData.depthAll]
  have l1 : d.depth ≤ max d.depth (PyData.depthAll ds) := Nat.le_max_left _ _
  have l2 : PyData.depthAll ds ≤ max d.depth (PyData.depthAll ds) := Nat.le_max_right _ _
  refine ⟨a1 ++ a2, .cons r1 r2, b1 ++ b2, ?_, ?_⟩
  · rw [e]
    exact ReadAtMost.append (m1.mono l1) (m2.mono l2)
  · rw [e]
    simp only [PyData.shownAll]
    exact .cons (ReprK.level_le (ReprK.more k1 fun b z => List.mem_append_left b2 z) l1) (ReprAllK.more_le (fun b z => List.mem_append_right b1 z) l2 k2)
theorem shown_le {ds : List PyData} {n : Nat} (z : ∀ t ∈ PyData.shownAll ds, t.length ≤ n) : ∀ d ∈ ds, d.shown.length ≤ n := by
  induction ds with
  | nil => intro d hd; cases hd
  | cons c cs ih =>
    intro d hd
    simp only [PyData.shownAll] at z
    rcases List.mem_cons.mp hd with e | e
    · rw [e]
      exact z _ List.mem_cons_self
    · exact ih (fun t ht => z t (List.mem_cons_of_mem _ ht)) d e
/-- the parts of a list -/
structure ListAt (h : Heap) (a : Addr) (us : List Value) (o : Obj) (n : Nat) : Prop where
  get : h.get? a = some o
  cls : o.cls = .type "list"
  dat : o.data = .seq us.toArray n
structure TupleAt (h : Heap) (a : Addr) (us : List Value) (o : Obj) (n : Nat) : Prop where
  get : h.get? a = some o
  cls : o.cls = .type "tuple"
  dat : o.data = .seq us.toArray n
structure DictAt' (h : Heap) (a : Addr) (es : Array DictEntry) (o : Obj) (n : Nat) : Prop where
  get : h.get? a = some o
  cls : o.cls = .type "dict"
  dat : o.data = .dict es n
  off : (a == sysModules) = false
theorem list_reads {a : Addr} {us : List Value} {o : Obj} {n : Nat} {ds : List PyData} {as : List Addr} (L : ListAt h a us o n) (r : ReadsAll h us ds as) : Reads h (.ref a) (.list ds) (a :: as) := .list L.get L.cls L.dat r
theorem tuple_reads {a : Addr} {us : List Value} {o : Obj} {n : Nat} {ds : List PyData} {as : List Addr} (L : TupleAt h a us o n) (r : ReadsAll h us ds as) : Reads h (.ref a) (.tuple ds) as := .tuple L.get L.cls L.dat r
theorem off_of {a : Addr} {d : PyData} {as bs : List Addr} {m : Nat} (r : Reads h (.ref a) d as) (e : d.depth = m + 1) (k : ReadAtMost h m bs) : a ∉ bs := not_mem_of_deeper r (by omega) k
theorem shows_list {a : Addr} {us : List Value} {o : Obj} {n : Nat} {ds : List PyData} (L : ListAt h a us o n) (x : ShowsL prog w h us ds) : Shows prog w h (.ref a) (.list ds) := by
  obtain ⟨as, r, bs, m, k⟩ := x
  have R := list_reads L r
  have dp : (PyData.list ds).depth = PyData.depthAll ds + 1 := by simp only [PyData.depth]
  refine ⟨_, R, a :: bs, ReadAtMost.cons R (by omega) m, ?_⟩
  rw [dp]
  simp only [PyData.shown]
  cases us with
  | nil =>
    cases r
    simp only [PyData.shownAll, listText_nil]
    exact ReprK.listEmpty L.get L.cls L.dat
  | cons u us => exact ReprK.list L.get L.cls L.dat (off_of R dp m) (by simpa using k.length_eq) (fun i y e => k.item i y (by simpa using e))
theorem shows_tuple {a : Addr} {us : List Value} {o : Obj} {n : Nat} {ds : List PyData} (L : TupleAt h a us o n) (x : ShowsL prog w h us ds) : Shows prog w h (.ref a) (.tuple ds) := by
  obtain ⟨as, r, bs, m, k⟩ := x
  have R := tuple_reads L r
  have dp : (PyData.tuple ds).depth = PyData.depthAll ds + 1 := by simp only [PyData.depth]
  refine ⟨_, R, a :: bs, ReadAtMost.cons R (by omega) m, ?_⟩
  rw [dp]
  simp only [PyData.shown]
  exact ReprK.tuple L.get L.cls L.dat (off_of R dp m) k
theorem shows_dict {a : Addr} {es : Array DictEntry} {o : Obj} {n : Nat} {kvs : List (PyData × PyData)} (L : DictAt' h a es o n) (x : ShowsL prog w h (es.toList.map (·.key)) (kvs.map (·.1))) (y : ShowsL prog w h (es.toList.map (·.val)) (kvs.map (·.2))) :
    (∃ as, Reads h (.ref a) (.dict kvs) as) ∧ (∃ bs, ReadAtMost h (PyData.depthKv kvs) bs ∧ a ∉ bs ∧ ReprEntriesK prog w bs h (PyData.depthKv kvs) es.toList (PyData.shownKv kvs)) := by
  obtain ⟨a1, r1, b1, m1, k1⟩ := x
  obtain ⟨a2, r2, b2, m2, k2⟩ := y
  have R : Reads h (.ref a) (.dict kvs) (a :: a1 ++ a2) := .dict L.get L.cls L.dat r1 r2
  have dp : (PyData.dict kvs).depth = PyData.depthKv kvs + 1 := by simp only [PyData.depth]
  have m : ReadAtMost h (PyData.depthKv kvs) (b1 ++ b2) := ReadAtMost.append (m1.mono (PyData.depthAll_keys_le kvs)) (m2.mono (PyData.depthAll_vals_le kvs))
  refine ⟨⟨_, R⟩, b1 ++ b2, m, off_of R dp m, ?_⟩
  rw [PyData.shownKv_eq]
  have j1 := ReprAllK.more_le (fun b z => List.mem_append_left b2 z) (PyData.depthAll_keys_le kvs) k1
  have j2 := ReprAllK.more_le (fun b z => List.mem_append_right b1 z) (PyData.depthAll_vals_le kvs) k2
  exact ReprEntriesK.of_two es.toList _ _ j1 j2
theorem shows_dict' {a : Addr} {es : Array DictEntry} {o : Obj} {n : Nat} {kvs : List (PyData × PyData)} (L : DictAt' h a es o n) (x : ShowsL prog w h (es.toList.map (·.key)) (kvs.map (·.1))) (y : ShowsL prog w h (es.toList.map (·.val)) (kvs.map (·.2))) :
    Shows prog w h (.ref a) (.dict kvs) := by
  obtain ⟨⟨as, R⟩, bs, m, na, k⟩ := shows_dict L x y
  have dp : (PyData.dict kvs).depth = PyData.depthKv kvs + 1 := by simp only [PyData.depth]
  refine ⟨as, R, a :: bs, ReadAtMost.cons R (by omega) m, ?_⟩
  rw [dp]
  simp only [PyData.shown]
  exact ReprK.dict L.get L.cls L.dat L.off na k
end

section
variable {X : Cx} {pins : List (Addr × Obj)} {σ : L2.St} {H : Hp} {s : Shared}
theorem key_shows {P : Program} {w : World} {h : Heap} (k : Key) (v : Value) (hk : (mixKind P w).is k v = true) (hs : (keyD k).showable = true) (hz : (keyD k).shown.length ≤ sizeLine) : Shows P w h v (keyD k) := by
  rcases keyIs_shape hk with ⟨i, t, e1, e2⟩ | ⟨x, t, e1, e2⟩
  · subst e1 e2
    refine shows_flat (.int i t) ?_
    simp only [keyD, PyData.shown]
    exact ReprIs.int t (by simpa [keyD, PyData.showable] using hs)
  · subst e1 e2
    refine shows_flat (.str x t) ?_
    simp only [keyD, PyData.shown]
    exact ReprIs.str x t (by simpa only [keyD, PyData.shown] using hz)
theorem lst_at (I : Inv X pins σ H s) {a : Addr} {xs : List V} (e : H a = some (.lst xs)) : ∃ us o n, ListAt s.heap a us o n ∧ Vals xs us := by
  obtain ⟨_, its, n, rv, g⟩ := (show ObjOk X.prog X.w H s.heap a (.lst xs) from I.hok a _ e)
  exact ⟨its, _, n, ⟨g, rfl, rfl⟩, rv⟩
theorem tup_at (I : Inv X pins σ H s) {a : Addr} {xs : List V} (e : H a = some (.tup xs)) : ∃ us o n, TupleAt s.heap a us o n ∧ Vals xs us := by
  obtain ⟨_, its, rv, o, g, c, n, dt⟩ := (show ObjOk X.prog X.w H s.heap a (.tup xs) from I.hok a _ e)
  exact ⟨its, o, n, ⟨g, c, dt⟩, rv⟩
theorem dct_at (I : Inv X pins σ H s) {a : Addr} {kvs : List (Key × V)} (e : H a = some (.dK kvs)) : ∃ vs es o n, DictAt' s.heap a es o n ∧ KV kvs vs ∧ Pairs (mixKind X.prog X.w) es.toList vs := by
  obtain ⟨_, off, vs, rel, o, es, n, g, c, dt, _, p, _⟩ := (show ObjOk X.prog X.w H s.heap a (.dK kvs) from I.hok a _ e)
  exact ⟨vs, es, o, n, ⟨g, c.1, dt, off⟩, rel, p⟩
mutual
theorem any_shows (I : Inv X pins σ H s) : ∀ (d : PyData) (v : V) (u : Value), Any H v d → RelV v u → d.showable = true → d.shown.length ≤ sizeLine → Shows X.prog X.w s.heap u d
  | .none, v, u, h, r, _, _ => by
    cases h
    cases (show u = Value.none from r)
    exact shows_flat .none (by simp only [PyData.shown]; exact ReprIs.none)
  | .bool b, v, u, h, r, _, _ => by
    cases h
    cases (show u = Value.bool b from r)
    exact shows_flat (.bool b) (by simp only [PyData.shown]; exact ReprIs.bool b)
  | .int i, v, u, h, r, sh, _ => by
    cases h
    obtain ⟨t, e⟩ := (show ∃ t, u = Value.int i t from r)
    rw [e]
    exact shows_flat (.int i t) (by simp only [PyData.shown]; exact ReprIs.int t (by simpa [PyData.showable] using sh))
  | .str x, v, u, h, r, _, sz => by
    cases h
    obtain ⟨t, e⟩ := (show ∃ t, u = Value.str x t from r)
    rw [e]
    exact shows_flat (.str x t) (by simp only [PyData.shown]; exact ReprIs.str x t (by simpa only [PyData.shown] using sz))
  | .list ds, v, u, h, r, sh, sz => by
    cases h with
    | lst ea ha =>
      rename_i a xs
      cases (show u = Value.ref a from r)
      obtain ⟨us, o, n, L, rv⟩ := lst_at I ea
      have z : (listText (PyData.shownAll ds)).length ≤ sizeLine := by simpa only [PyData.shown] using sz
      exact shows_list L (any_showsL I ds xs us ha rv (by simpa [PyData.showable] using sh) fun t ht => Nat.le_trans (listText_mem_le ht) z)
  | .tuple ds, v, u, h, r, sh, sz => by
    cases h with
    | tup ea ha =>
      rename_i a xs
      cases (show u = Value.ref a from r)
      obtain ⟨us, o, n, L, rv⟩ := tup_at I ea
      have z : (tupleText (PyData.shownAll ds)).length ≤ sizeLine := by simpa only [PyData.shown] using sz
      exact shows_tuple L (any_showsL I ds xs us ha rv (by simpa [PyData.showable] using sh) fun t ht => Nat.le_trans (tupleText_mem_le ht) z)
  | .dict ds, v, u, h, r, sh, sz => by
    cases h with
    | dct ea ha =>
      rename_i a kvs
      cases (show u = Value.ref a from r)
      obtain ⟨vs, es, o, n, L, rel, p⟩ := dct_at I ea
      have z : (dictText (PyData.shownKv ds)).length ≤ sizeLine := by simpa only [PyData.shown] using sz
      obtain ⟨x, y⟩ := any_showsK I ds kvs vs es.toList ha rel p (by simpa [PyData.showable] using sh) fun t ht => Nat.le_trans (dictText_mem_le ht) z
      exact shows_dict' L x y
theorem any_showsL (I : Inv X pins σ H s) : ∀ (ds : List PyData) (vs : List V) (us : List Value), AnyL H vs ds → Vals vs us → PyData.showableAll ds = true → (∀ t ∈ PyData.shownAll ds, t.length ≤ sizeLine) → ShowsL X.prog X.w s.heap us ds
  | [], vs, us, h, r, _, _ => by
    cases h
    cases r
    exact showsL_nil
  | d :: ds, vs, us, h, r, sh, sz => by
    have sh' : d.showable = true ∧ PyData.showableAll ds = true := by simpa [PyData.showableAll] using sh
    simp only [PyData.shownAll] at sz
    cases h with
    | cons h1 h2 =>
      cases r with
      | cons r1 r2 => exact showsL_cons (any_shows I d _ _ h1 r1 sh'.1 (sz _ List.mem_cons_self)) (any_showsL I ds _ _ h2 r2 sh'.2 fun t ht => sz t (List.mem_cons_of_mem _ ht))
theorem any_showsK (I : Inv X pins σ H s) : ∀ (ds : List (PyData × PyData)) (kvs : List (Key × V)) (us : List (Key × Value)) (es : List DictEntry), AnyK H kvs ds → KV kvs us → Pairs (mixKind X.prog X.w) es us → PyData.showableKv ds = true →
    (∀ t ∈ PyData.shownKv ds, t.length ≤ sizeLine) → ShowsL X.prog X.w s.heap (es.map (·.key)) (ds.map (·.1)) ∧ ShowsL X.prog X.w s.heap (es.map (·.val)) (ds.map (·.2))
  | [], vs, us, es, h, r, p, _, _ => by
    cases h
    cases r
    cases p
    exact ⟨showsL_nil, showsL_nil⟩
  | (kd, d) :: ds, vs, us, es, h, r, p, sh, sz => by
    have sh' : (kd.showable = true ∧ d.showable = true) ∧ PyData.showableKv ds = true := by simpa [PyData.showableKv] using sh
    simp only [PyData.shownKv] at sz
    have top := sz _ List.mem_cons_self
    rw [strLen_append, strLen_append] at top
    cases h with
    | cons h1 h2 =>
      cases r with
      | cons r1 r2 =>
        rename_i k v vs' q us'
        obtain ⟨kq, uq⟩ := q
        obtain ⟨ek, r1⟩ := r1
        cases (show k = kq from ek)
        cases p with
        | cons hk hv hp =>
          obtain ⟨x, y⟩ := any_showsK I ds _ _ _ h2 r2 hp sh'.2 fun t ht => sz t (List.mem_cons_of_mem _ ht)
          refine ⟨showsL_cons (key_shows k _ hk sh'.1.1 (by omega)) x, ?_⟩
          have e := any_shows I d _ _ h1 r1 sh'.1.2 (by omega)
          rw [← hv] at e
          exact showsL_cons e y
end
/-- repr of data that lies at an address -/
def rRepr : List V → Hp → VK → Prop := fun xs H Q => ∃ (a : Addr) (d : PyData), xs = [.ref a] ∧ Any H (.ref a) d ∧ d.showable = true ∧ d.depth ≤ 60 ∧ d.shown.length ≤ sizeLine ∧ Q (.str d.shown) H
theorem call_repr (gu : X.A.guards = some []) (hu : X.A.units + 64 < cLine) : CallR X (.builtin "repr") rRepr := by
  intro pins s σ H xs us Q I r h
  obtain ⟨a, d, e, an, sh, dp, sz, q⟩ := h
  subst e
  obtain ⟨u, e, ru⟩ := vals1 r
  subst e
  cases (show u = Value.ref a from ru)
  have fin : ∀ h' u tk, (∀ b o, s.heap.get? b = some o → h'.get? b = some o) → EP X pins σ Q (.str d.shown u) { s with heap := h', toks := tk } := fun h' t tk keep => ⟨V.str d.shown, H, Inv.kept I keep, ⟨t, rfl⟩, q⟩
  have gu1 : X.A.in1.guards = some [] := gu
  have un1 : X.A.in1.units = X.A.units + 1 := rfl
  cases an with
  | lst ea ha =>
    rename_i xs ds
    obtain ⟨us, o, n, L, rv⟩ := lst_at I ea
    have z : (listText (PyData.shownAll ds)).length ≤ sizeLine := by simpa only [PyData.shown] using sz
    have D : (PyData.list ds).depth = PyData.depthAll ds + 1 := by simp only [PyData.depth]
    obtain ⟨as, rd, bs, m, k⟩ := any_showsL I ds xs us ha rv (by simpa [PyData.showable] using sh) fun t ht => Nat.le_trans (listText_mem_le ht) z
    have ty : s.TypeIs (.ref a) "list" := ⟨o, L.get, L.cls⟩
    refine call_repr_slot (by omega) ty F.slot_list_repr.toG ?_
    simp only [PyData.shown] at fin
    cases us with
    | nil =>
      cases rd
      simp only [PyData.shownAll, listText_nil] at fin
      exact call_list_repr_empty ty L.get L.dat ⟨_, _, rfl, fin s.heap _ _ fun _ _ z => z⟩
    | cons u us => exact call_list_reprK L.get L.cls L.dat (off_of (list_reads L rd) D m) (by simpa using k.length_eq) (fun i y e => k.item i y (by simpa using e)) gu1 (fun b _ => Clear.nil b) (by omega) (fun _ _ z => z) (fun h' t tk keep => ⟨_, _, rfl, fin h' t tk keep⟩) z
  | tup ea ha =>
    rename_i xs ds
    obtain ⟨us, o, n, L, rv⟩ := tup_at I ea
    have z : (tupleText (PyData.shownAll ds)).length ≤ sizeLine := by simpa only [PyData.shown] using sz
    have D : (PyData.tuple ds).depth = PyData.depthAll ds + 1 := by simp only [PyData.depth]
    obtain ⟨as, rd, bs, m, k⟩ := any_showsL I ds xs us ha rv (by simpa [PyData.showable] using sh) fun t ht => Nat.le_trans (tupleText_mem_le ht) z
    refine call_repr_slot (by omega) ⟨o, L.get, L.cls⟩ F.slot_tuple_repr ?_
    simp only [PyData.shown] at fin
    exact call_tuple_reprK L.get L.cls L.dat (off_of (tuple_reads L rd) D m) k gu1 (fun b _ => Clear.nil b) (by omega) (fun _ _ z => z) (fun h' t tk keep => ⟨_, _, rfl, fin h' t tk keep⟩) z
  | dct ea ha =>
    rename_i kvs ds
    obtain ⟨vs, es, o, n, L, rel, p⟩ := dct_at I ea
    have z : (dictText (PyData.shownKv ds)).length ≤ sizeLine := by simpa only [PyData.shown] using sz
    have D : (PyData.dict ds).depth = PyData.depthKv ds + 1 := by simp only [PyData.depth]
    obtain ⟨x, y⟩ := any_showsK I ds kvs vs es.toList ha rel p (by simpa [PyData.showable] using sh) fun t ht => Nat.le_trans (dictText_mem_le ht) z
    obtain ⟨_, bs, m, na, k⟩ := shows_dict L x y
    refine call_repr_slot (by omega) ⟨o, L.get, L.cls⟩ F.slot_dict_repr ?_
    simp only [PyData.shown] at fin
    exact call_dict_reprK L.get L.cls L.dat L.off na k gu1 (fun b _ => Clear.nil b) (by omega) (fun _ _ z => z) (fun h' t tk keep => ⟨_, _, rfl, fin h' t tk keep⟩) z
/-- repr of a truth value -/
def boolS (b : Bool) : Str := if b then "True" else "False"
theorem call_reprB : CallR X (.builtin "repr") (fun xs H Q => ∃ b, xs = [.bl b] ∧ Q (.str (boolS b)) H) := by
  intro pins s σ H xs us Q I r h
  obtain ⟨b, e, q⟩ := h
  subst e
  obtain ⟨u, e, ru⟩ := vals1 r
  subst e
  cases (show u = Value.bool b from ru)
  exact PySem.P.repr_of_bool ⟨V.str (boolS b), H, I.tok _, ⟨_, rfl⟩, q⟩
end
end Rw

set_option Elab.async false
set_option linter.all false
set_option maxRecDepth 100000
set_option maxHeartbeats 4000000
/-! TkD: try with several except clauses, each with a name or without. -/
namespace Rw
open PySem PySem.Spec PyProof.Rows L2

/-- a clause: its class, the slot of its name, its suite -/
structure Cl where
  c : Value
  slot : Option Nat
  ts : Addr → Value → Option Addr → TS
/-- the suite with the error at a, its name bound ahead of it and gone behind it -/
def Cl.run (q : Cl) (a : Addr) (cls : Value) (d : Option Addr) : TS := fun D σ H => match q.slot with
  | none => q.ts a cls d D σ H
  | some i => q.ts a cls d { nx := fun τ J => D.nx (τ.set i none) J, rt := D.rt, bk := fun τ J => D.bk (τ.set i none) J, ct := fun τ J => D.ct (τ.set i none) J } (σ.set i (some (.ref a))) H
/-- what the clauses wish of an error -/
def wCls (K : PySem.W.Frag) (Wo : WX) (D : Ends) : List Cl → WX
  | [] => Wo
  | q :: r => fun cls d σ H => ∃ b, PySem.W.exmOne K cls q.c = some b ∧ (b = true → ∀ a, H a = none → q.run a cls d D σ H) ∧ (b = false → wCls K Wo D r cls d σ H)
def SuiteOk (X : Cx) (sts : List Stmt) (ts : Addr → Value → Option Addr → TS) : Prop :=
  ∀ (a : Addr) (oe : Obj) (cls : Value) (d : Option Addr) (pn : List (Addr × Obj)), Zc cls d oe → (∃ vs, oe.data = .fields vs) → PSs (X.suite a ((a, oe) :: pn)) sts (ts a cls d)
inductive ClsOk (X : Cx) : List ExceptHandler → List Cl → Prop
  | nil : ClsOk X [] []
  | anon {x : Str} {c : Value} {ts : Addr → Value → Option Addr → TS} {st : Stmt} {sts : List Stmt} {np hp : Pos} {hs : List ExceptHandler} {l : List Cl} (hc : Names X x c) (ok : SuiteOk X (st :: sts) ts) (r : ClsOk X hs l) :
      ClsOk X (.ExceptHandler (some (.Name x np)) none (st :: sts) hp :: hs) (⟨c, none, ts⟩ :: l)
  | as {x n : Str} {i : Nat} {c : Value} {ts : Addr → Value → Option Addr → TS} {st : Stmt} {sts : List Stmt} {np hp : Pos} {hs : List ExceptHandler} {l : List Cl} (hi : X.N[i]? = some n) (hl : X.env.kindOf n = some .local) (hc : Names X x c)
      (ok : SuiteOk X (st :: sts) ts) (r : ClsOk X hs l) : ClsOk X (.ExceptHandler (some (.Name x np)) (some n) (st :: sts) hp :: hs) (⟨c, some i, ts⟩ :: l)

section
variable {X : Cx}
/-- what stands when an error has landed in this frame -/
structure Down (X : Cx) (B : Heap) (pins : List (Addr × Obj)) (σ : L2.St) (H : Hp) (a : Addr) (cls : Value) (d : Option Addr) (sI s : Shared) : Prop where
  inv : Inv X pins σ H sI
  nb : ∀ b o, sI.heap.get? b = some o → b ∉ frs X.stack → B.get? b = some o
  os : s.os = sI.os
  ag : AllBare s.gens
  free : H a = none
  up : sI.heap.UpToSlots s.heap
  fly : HandSPX.FlyingZ B (X.env :: X.outer) a (Zc cls d) s.heap
theorem Down.goes {B : Heap} {pins : List (Addr × Obj)} {σ : L2.St} {H : Hp} {a : Addr} {cls : Value} {d : Option Addr} {sI s : Shared} (W : Down X B pins σ H a cls d sI s) : Inv X pins σ H s :=
  Inv.landed W.inv W.nb W.fly.1 W.up W.os W.ag
theorem Down.more {B : Heap} {pins : List (Addr × Obj)} {σ : L2.St} {H : Hp} {a : Addr} {cls : Value} {d : Option Addr} {sI s : Shared} {h : Heap} (W : Down X B pins σ H a cls d sI s)
    (fl : HandSPX.FlyingZ B (X.env :: X.outer) a (Zc cls d) h) (u : s.heap.UpToSlots h) : Down X B pins σ H a cls d sI { s with heap := h } :=
  ⟨W.inv, W.nb, W.os, W.ag, W.free, Heap.UpToSlots.trans W.up u, fl⟩
/-- the error's own object: none of the frames -/
theorem Down.off {B : Heap} {pins : List (Addr × Obj)} {σ : L2.St} {H : Hp} {a : Addr} {cls : Value} {d : Option Addr} {sI s : Shared} (W : Down X B pins σ H a cls d sI s) (hf : X.env.frame = some X.env.locals) :
    a ≠ X.env.locals ∧ a ∉ X.fs := by
  obtain ⟨oe, vs, he, _, hd⟩ := W.fly.there
  have no : a ∉ frs (X.env :: X.outer) := fun hm => by
    obtain ⟨_, o, e, nf⟩ := Heap.FunFrames.mem W.fly.2.2.1 hm
    rw [he] at e
    cases e
    exact nf vs hd
  constructor
  · intro z
    exact no (List.mem_filterMap.mpr ⟨X.env, List.mem_cons_self, hf.trans (congrArg some z.symm)⟩)
  · intro hm
    obtain ⟨e, he, q⟩ := List.mem_filterMap.mp hm
    exact no (List.mem_filterMap.mpr ⟨e, List.mem_cons_of_mem X.env he, q⟩)
/-- in the suite -/
theorem Down.suite {B : Heap} {pins : List (Addr × Obj)} {σ : L2.St} {H : Hp} {a : Addr} {cls : Value} {d : Option Addr} {sI s : Shared} (W : Down X B pins σ H a cls d sI s) (hf : X.env.frame = some X.env.locals) :
    ∃ oe : Obj, s.heap.get? a = some oe ∧ Zc cls d oe ∧ (∃ vs, oe.data = .fields vs) ∧ Inv (X.suite a ((a, oe) :: (X.pn ++ pins))) [] σ H s := by
  obtain ⟨oe, vs, he, hz, hd⟩ := W.fly.there
  obtain ⟨n1, n2⟩ := W.off hf
  exact ⟨oe, he, hz, ⟨vs, hd⟩, Inv.suite W.goes he hd W.free n1 n2⟩

/-- the class of a clause is looked up, and asked -/
theorem Down.asks {B : Heap} {pins : List (Addr × Obj)} {σ : L2.St} {H : Hp} {a : Addr} {cls c : Value} {d : Option Addr} {sI s : Shared} {x : Str} {np : Pos} {b : Bool} {E : Value → Shared → Prop} {Q : Bool → Shared → Prop}
    (W : Down X B pins σ H a cls d sI s) (hf : X.env.frame = some X.env.locals) (hc : Names X x c) (hb : PySem.W.exmOne X.K cls c = some b) (q : Q b s) :
    wpAny (model X.prog X.w) (X.A.mark (some (.ref a))) (eval (.Name x np) X.env) (fun v s' => v = c ∧ s' = s) E s := by
  obtain ⟨oe, he, hz, _, S⟩ := W.suite hf
  obtain ⟨hg, hdbg, hm⟩ := hc
  rcases hm with hm | ⟨hm, hv, hn⟩
  · exact ld_glob (X := X.suite a ((a, oe) :: (X.pn ++ pins))) S hg hm ⟨rfl, rfl⟩ hdbg
  · exact ld_blt (X := X.suite a ((a, oe) :: (X.pn ++ pins))) S hg hm hv ⟨rfl, rfl⟩ hn hdbg

/-- the clauses, one after the other -/
theorem Down.clauses {B : Heap} {pins : List (Addr × Obj)} {σ : L2.St} {H : Hp} {a : Addr} {cls : Value} {d : Option Addr} {sI : Shared} {Wo : WX} {D : Ends} (hs : X.stack = X.env :: X.outer) (hf : X.env.frame = some X.env.locals) (hN : X.N.Nodup) (tk : Takes X Wo) :
    ∀ {hds : List ExceptHandler} {l : List Cl}, ClsOk X hds l → ∀ {s : Shared}, Down X B pins σ H a cls d sI s → wCls X.K Wo D l cls d σ H → wpAny (model X.prog X.w) X.A (handleBy (.ref a) X.env hds) (SP X pins D) X.xe s := by
  intro hds l hk
  induction hk with
  | nil =>
    intro s W wish
    refine wpAny_handleBy_nil ?_
    obtain ⟨_, _, _, oe, vs, T, oT, ts, he, hz, hd, h1, hr⟩ := id W.fly
    have nT : ¬ ((Value.ref T == Value.none) = true) := by simp
    unfold PySem.passOn
    refine wpAny_bind (wpAny_field he hd h1 ?_)
    rw [if_neg nT]
    have out : wpAny (model X.prog X.w) X.A (setFlight (.ref a) X.env.frame) (fun _ s4 => wpAny (model X.prog X.w) X.A (throw (.ref a) : Sem Flow) (SP X pins D) X.xe s4) X.xe s := by
      rw [hf]
      refine HandSPX.setFlight_upZ W.fly ?_
      intro h4 hh4 up4
      refine wpAny_throw (tk (.ref a) _ ⟨a, B, sI, pins, σ, H, cls, d, rfl, W.inv, W.nb, W.up.trans up4, ?_, W.free, W.os, W.ag, wish⟩)
      rw [hs]
      exact Or.inr (Or.inr hh4)
    first
      | exact wpAny_bind (wpAny_pure (wpAny_bind out))
      | exact wpAny_bind out
  | @anon x c ts st sts np hp hs' l' hc ok r ih =>
    intro s W wish
    obtain ⟨b, hb, yes, no⟩ := wish
    refine wpAny_handleBy_cons (codeAny_handlers_test ?_) (fun q => nomatch q)
    refine wpAny_mono (W.asks (E := fun _ _ => False) (Q := fun _ _ => True) hf hc hb True.intro) ?_ (fun _ _ z => z.elim)
    rintro v s' ⟨rfl, rfl⟩
    obtain ⟨oe, he, hz, hd, S⟩ := W.suite hf
    have LT : PySem.W.Looks (model X.prog X.w) s'.heap (typeOf (.ref a)) cls := fun A Q E s2 k q => wpAny_typeOf_ref (k a oe he) (by rw [hz.1]; exact q)
    refine (PySem.W.exm_one (M := model X.prog X.w) S.kIn LT hb).here ?_
    cases b with
    | false => exact ih W (no rfl)
    | true =>
      refine codeAny_handlers_suite (HandSPX.lands_againZ W.fly ?_)
      intro h4 fl4 up4
      obtain ⟨oe4, he4, hz4, hd4, S4⟩ := (W.more fl4 up4).suite hf
      refine wpAny_mono (PSs.run (ok a oe4 cls d (X.pn ++ pins) hz4 hd4) [] _ σ H D S4 (yes rfl a W.free)) ?_ (fun _ _ z => z.elim)
      intro fl s6 hsp
      have ok0 := W.inv.ok
      cases fl with
      | ret u =>
        obtain ⟨v6, σ6, H6, S6, r6, q6⟩ := hsp
        exact ⟨v6, σ6, H6, Inv.unsuite S6 ok0, r6, q6⟩
      | next =>
        obtain ⟨σ6, H6, S6, q6⟩ := hsp
        exact ⟨σ6, H6, Inv.unsuite S6 ok0, q6⟩
      | brk =>
        obtain ⟨σ6, H6, S6, q6⟩ := hsp
        exact ⟨σ6, H6, Inv.unsuite S6 ok0, q6⟩
      | cont =>
        obtain ⟨σ6, H6, S6, q6⟩ := hsp
        exact ⟨σ6, H6, Inv.unsuite S6 ok0, q6⟩
  | @as x n i c ts st sts np hp hs' l' hi hl hc ok r ih =>
    intro s W wish
    obtain ⟨b, hb, yes, no⟩ := wish
    refine wpAny_handleBy_cons (codeAny_handlers_test ?_) (fun q => nomatch q)
    refine wpAny_mono (W.asks (E := fun _ _ => False) (Q := fun _ _ => True) hf hc hb True.intro) ?_ (fun _ _ z => z.elim)
    rintro v s' ⟨rfl, rfl⟩
    obtain ⟨oe, he, hz, hd, S⟩ := W.suite hf
    have LT : PySem.W.Looks (model X.prog X.w) s'.heap (typeOf (.ref a)) cls := fun A Q E s2 k q => wpAny_typeOf_ref (k a oe he) (by rw [hz.1]; exact q)
    refine (PySem.W.exm_one (M := model X.prog X.w) S.kIn LT hb).here ?_
    cases b with
    | false => exact ih W (no rfl)
    | true =>
      refine codeAny_handlers_suite_as (HandSPX.lands_againZ W.fly ?_)
      intro h4 fl4 up4
      obtain ⟨oe4, he4, hz4, hd4, S4⟩ := (W.more fl4 up4).suite hf
      have ok0 := W.inv.ok
      refine store_ok (X := X.suite a ((a, oe4) :: (X.pn ++ pins))) (v := .ref a) S4 hN hi (Or.inl hl) rfl ?_ (Or.inr hl)
      intro s5 S5
      refine wpAny_mono (PSs.run (ok a oe4 cls d (X.pn ++ pins) hz4 hd4) [] s5 _ H _ S5 (yes rfl a W.free)) ?_ (fun _ _ z => z.elim)
      intro fl s6 hsp
      have gone : ∀ {τ : L2.St} {J : Hp} {Q : Shared → Prop}, Inv (X.suite a ((a, oe4) :: (X.pn ++ pins))) [] τ J s6 → (∀ s7, Inv X pins (τ.set i none) J s7 → Q s7) →
          wpAny (model X.prog X.w) X.A (do bindName X.env n .none; unbindBehindTheSuite X.env n hp) (fun _ s7 => Q s7) X.xe s6 := by
        intro τ J Q S6 hq
        exact gone_ok (Inv.unsuite S6 ok0) hN hi hl hq
      cases fl with
      | ret u =>
        obtain ⟨v6, σ6, H6, S6, r6, q6⟩ := hsp
        exact gone S6 (fun s7 J7 => ⟨v6, _, H6, J7, r6, q6⟩)
      | next =>
        obtain ⟨σ6, H6, S6, q6⟩ := hsp
        exact gone S6 (fun s7 J7 => ⟨_, H6, J7, q6⟩)
      | brk =>
        obtain ⟨σ6, H6, S6, q6⟩ := hsp
        exact gone S6 (fun s7 J7 => ⟨_, H6, J7, q6⟩)
      | cont =>
        obtain ⟨σ6, H6, S6, q6⟩ := hsp
        exact gone S6 (fun s7 J7 => ⟨_, H6, J7, q6⟩)

/-- try: body / except ..: .. / except ..: .. -/
theorem ps_tries {body : List Stmt} {h0 : ExceptHandler} {hds : List ExceptHandler} {l : List Cl} {pos : Pos} {tb : WX → TS} {Wo : WX} (hs : X.stack = X.env :: X.outer) (hf : X.env.frame = some X.env.locals) (hN : X.N.Nodup) (tk : Takes X Wo)
    (hb : ∀ (W : WX) (pn : List (Addr × Obj)) (xe : Value → Shared → Prop), Takes (X.tr pn xe) W → PassesOwn (model X.prog X.w) X.A X.env xe → PSs (X.tr pn xe) body (tb W)) (hh : ClsOk X (h0 :: hds) l) :
    PS X (.Try body (h0 :: hds) [] [] pos) (fun D σ H => tb (wCls X.K Wo D l) D σ H) := by
  constructor
  intro pins s σ H D I h
  have ok0 := I.ok
  have fr : X.A.frames = some (X.env :: X.outer) := (Cx.Ok.frames ok0).trans (congrArg some hs)
  refine wpAny_Try_except ?_
  have land : ∀ (u : Value) (s' : Shared), XE (X.tr (X.pn ++ pins) (fun e s₁ => wpAny (model X.prog X.w) X.A (noteFrame e X.env) (fun _ s₂ => wpAny (model X.prog X.w) X.A (setFlight e none) (fun _ s₃ =>
      wpAny (model X.prog X.w) X.A (handleBy e X.env (h0 :: hds)) (SP X pins D) X.xe s₃) X.xe s₂) X.xe s₁)) (wCls X.K Wo D l) u s' →
      wpAny (model X.prog X.w) X.A (noteFrame u X.env) (fun _ s₂ => wpAny (model X.prog X.w) X.A (setFlight u none) (fun _ s₃ => wpAny (model X.prog X.w) X.A (handleBy u X.env (h0 :: hds)) (SP X pins D) X.xe s₃) X.xe s₂) X.xe s' := by
    intro u s' xx
    obtain ⟨a, B, sI, pins', τ, J, cls, d, eu, I', nb, up, sky, na, os, ag, wish⟩ := xx
    subst eu
    have sky2 : Sky B (X.env :: X.outer) a (Zc cls d) X.env.locals s'.heap := hs ▸ sky
    refine Sky.land Zc.steady fr hf sky2 ?_
    intro h3 fl3 up3
    exact Down.clauses hs hf hN tk hh ⟨Inv.ofTry I' ok0, nb, os, ag, na, up.trans up3, fl3⟩ wish
  refine wpAny_mono (PSs.run (hb (wCls X.K Wo D l) (X.pn ++ pins) _ land PassesOwn.looking) [] s σ H D (Inv.toTry I _) h) ?_ (fun e s1 he => he)
  intro fl s1 hsp
  cases fl with
  | ret u =>
    obtain ⟨v, τ, J, I', r, q⟩ := hsp
    exact ⟨v, τ, J, Inv.ofTry I' ok0, r, q⟩
  | next =>
    obtain ⟨τ, J, I', q⟩ := hsp
    exact wpAny_execs_nil ⟨τ, J, Inv.ofTry I' ok0, q⟩
  | brk =>
    obtain ⟨τ, J, I', q⟩ := hsp
    exact ⟨τ, J, Inv.ofTry I' ok0, q⟩
  | cont =>
    obtain ⟨τ, J, I', q⟩ := hsp
    exact ⟨τ, J, Inv.ofTry I' ok0, q⟩
end
end Rw

set_option Elab.async false
set_option linter.all false
set_option maxRecDepth 100000
set_option maxHeartbeats 4000000
/-! TkE: own defs by name (Own, OwnG), own errors with one value (Err), data kept over heaps, the kinds of things. -/
namespace Rw
open PySem PySem.Spec PyProof.Rows L2

/-! ### a def by its name -/
/-- x names a def that keeps sp when it is called with all but the values dvs -/
structure Own (P : Program) (w : World) (K : PySem.W.Frag) (mg : Str → Option Value) (base : Heap) (CX : CXT) (k : Nat) (x : Str) (ps : List Str) (dvs : List V) (sp : Sp) : Prop where
  has : ∃ (f : Addr) (fd : FuncData) (ds : List Value), mg x = some (.ref f) ∧ PySem.W.keepIn K (.ref f) = true ∧ FnOk P w K mg base CX k f fd ps sp ∧ Binds K fd ps ds ∧ Vals dvs ds
structure OwnG (P : Program) (w : World) (K : PySem.W.Frag) (mg : Str → Option Value) (base : Heap) (CX : CXT) (k : Nat) (x : Str) (ps : List Str) (dvs : List V) (sp : Sp) : Prop where
  has : ∃ (f : Addr) (fd : FuncData) (ds : List Value), mg x = some (.ref f) ∧ PySem.W.keepIn K (.ref f) = true ∧ FnG P w K mg base CX k f fd ps sp ∧ Binds K fd ps ds ∧ Vals dvs ds
/-- where a def of the text stands behind the top -/
structure Df (K : PySem.W.Frag) (mg : Str → Option Value) (x : Str) (st : Stmt) (ps : List Str) : Prop where
  has : ∃ (f : Addr) (fd : FuncData), mg x = some (.ref f) ∧ Fun K x x st f fd ∧ Binds K fd ps []
section
variable {P : Program} {w : World} {K : PySem.W.Frag} {mg : Str → Option Value} {base : Heap} {CX : CXT} {k : Nat} {x : Str} {ps : List Str} {dvs : List V} {sp : Sp} {st : Stmt}
theorem Df.own (D : Df K mg x st ps) (h : ∀ (f : Addr) (fd : FuncData), Fun K x x st f fd → FnOk P w K mg base CX k f fd ps sp) : Own P w K mg base CX k x ps [] sp := by
  obtain ⟨f, fd, g, F, b⟩ := D.has
  exact ⟨f, fd, [], g, F.kp, h f fd F, b, .nil⟩
theorem Df.ownG (D : Df K mg x st ps) (h : ∀ (f : Addr) (fd : FuncData), Fun K x x st f fd → FnG P w K mg base CX k f fd ps sp) : OwnG P w K mg base CX k x ps [] sp := by
  obtain ⟨f, fd, g, F, b⟩ := D.has
  exact ⟨f, fd, [], g, F.kp, h f fd F, b, .nil⟩
end
section
variable {X : Cx} {CX : CXT} {k : Nat} {ps : List Str} {sp : Sp} {dvs : List V} {E : XK} {x : Str} {p pos : Pos} {e : Expr} {es : List Expr} {t : TA}
theorem pe_own (F : Own X.prog X.w X.K X.mg X.base CX k x ps dvs sp) (hr : Room k X.A) (hx : Passes CX X E) (ha : PA X (e :: es) t) (hg : Gl X x := by rfl) (hdb : (x == ("__debug__" : Str)) = false := by decide)
    (he : starEach (e :: es) X.env = (false, eval e X.env) :: starEach es X.env := by rfl) (hpl : (backTo pos (starEach es X.env)).any (·.1) = false := by rfl) : PE X (.Call (.Name x p) (e :: es) [] pos) (tCall sp dvs E t) := by
  obtain ⟨f, fd, ds, hm, hk, G, b, v⟩ := F.has
  exact pe_call G hr hg hm hk b v hx ha hdb he hpl
theorem pe_ownG (F : OwnG X.prog X.w X.K X.mg X.base CX k x ps dvs sp) (gu : X.A.guards = some []) (hr : Room k X.A) (hx : Passes CX X E) (ha : PA X (e :: es) t) (hg : Gl X x := by rfl) (hdb : (x == ("__debug__" : Str)) = false := by decide)
    (he : starEach (e :: es) X.env = (false, eval e X.env) :: starEach es X.env := by rfl) (hpl : (backTo pos (starEach es X.env)).any (·.1) = false := by rfl) : PE X (.Call (.Name x p) (e :: es) [] pos) (tCall sp dvs E t) := by
  obtain ⟨f, fd, ds, hm, hk, G, b, v⟩ := F.has
  exact pe_callG G gu hr hg hm hk b v hx ha hdb he hpl
/-- such a call in a try's body: what is raised is wished for at the slots -/
def tOwnS (sp : Sp) (dvs : List V) (W : WX) (t : TA) : TE := fun σ H Q => t σ H fun vs H1 => sp (vs ++ dvs) H1 Q (fun cls d H' => W cls d σ H')
theorem pe_ownS {W : WX} (F : Own X.prog X.w X.K X.mg X.base CX k x ps dvs sp) (hr : Room k X.A) (hx : ∀ σ, PassesAt CX X σ (fun cls d H' => W cls d σ H')) (ha : PA X (e :: es) t) (hg : Gl X x := by rfl) (hdb : (x == ("__debug__" : Str)) = false := by decide)
    (he : starEach (e :: es) X.env = (false, eval e X.env) :: starEach es X.env := by rfl) (hpl : (backTo pos (starEach es X.env)).any (·.1) = false := by rfl) : PE X (.Call (.Name x p) (e :: es) [] pos) (tOwnS sp dvs W t) := by
  obtain ⟨f, fd, ds, hm, hk, G, b, v⟩ := F.has
  constructor
  intro pins s σ H Q I h
  refine wpAny_Call_Name_kw (ld_glob I hg hm ?_ hdb)
  refine PySem.W.callWith_K (h₀ := X.base) I.ok.mod.kin hk ?_ he hpl
  refine thn (PA.run ha pos pins s σ H _ I h) ?_
  intro us s1 hh
  obtain ⟨vs, H1, I1, r, q⟩ := hh
  refine ⟨I1.kIn, ?_⟩
  have r2 : Vals (vs ++ dvs) (us ++ ds) := Vals.append r v
  have cnt : (us ++ ds).length = ps.length := (r2.length).symm.trans (G.len _ _ _ _ q)
  refine wpAny_call (codeAny_mono (G.run X.A X.stack s1 H1 ⟨us, []⟩ (us ++ ds) (vs ++ dvs) Q _ hr I1.env0 (b s1 us I1.kIn cnt) r2 q) ?_)
  intro res s2 hq
  cases res with
  | error er => exact hx σ pins H1 s1 er s2 I1 hq
  | ok fl =>
    cases fl with
    | ret u => exact Inv.after I1 hq
    | next => exact hq.elim
    | brk => exact hq.elim
    | cont => exact hq.elim
end

/-! ### own errors: a class with __init__(self, value): self.value = value -/
/-- x names such a class, at C -/
structure Err (K : PySem.W.Frag) (mg : Str → Option Value) (x : Str) (C : Addr) : Prop where
  g : mg x = some (.ref C)
  ox : OexC K C
  xf : XfC K C
  no : PySem.W.findIn K (.ref C) "value" = some none
  ini : ∃ (f : Addr) (q : Str) (st : Stmt) (fd : FuncData), PySem.W.findIn K (.ref C) "__init__" = some (some (.ref f)) ∧ PySem.W.typeIn K (.ref f) = some (.type "function") ∧ Fun K "__init__" q st f fd ∧ Binds K fd ["self", "value"] [] ∧
    FnScope ["self", "value"] ["self", "value"] (defScope st) ∧
    (∀ X : Cx, X.N = (["self", "value"] : List Str) → X.env.scope = defScope st → ∃ t : TS, PSs X (defBody st) t ∧ (∀ D σ H, tOst X.K "value" (tVar 0) (tVar 1) D σ H → t D σ H))
/-- an error of the class at C with the value v is let out, all else as it was -/
def Thrown (C : Addr) (v : V) (H : Hp) (E : XK) : Prop := ∀ (d : Addr) (H' : Hp), Same H H' → H d = none → H' d = some (.xd [(("value" : Str), v)]) → E (.ref C) (some d) H'
def spIni (K : PySem.W.Frag) (C : Addr) : Sp := fun vs H Q _ => ∃ (a : Addr) (v : V), vs = [.ref a, v] ∧ H a = some (exo a C none) ∧ ∀ dx, H dx = none → dx ≠ a → Q .non (upd (upd H dx (exd dx [(("value" : Str), v)])) a (exo a C (some dx)))
section
variable {P : Program} {w : World} {K : PySem.W.Frag} {mg : Str → Option Value} {base : Heap}
theorem Err.init {x : Str} {C : Addr} (T : Err K mg x C) : ∃ (f : Addr) (fd : FuncData), PySem.W.findIn K (.ref C) "__init__" = some (some (.ref f)) ∧ PySem.W.typeIn K (.ref f) = some (.type "function") ∧ Binds K fd ["self", "value"] [] ∧
    FnOk P w K mg base CX0 1 f fd ["self", "value"] (spIni K C) := by
  obtain ⟨f, q, st, fd, h1, h2, F, b, S, dv⟩ := T.ini
  refine ⟨f, fd, h1, h2, b, F.ok S (fun vs H Q E h => ?_) (fun cdv A outer s H vs Q E hr h => ?_)⟩
  · obtain ⟨a, v, e, _⟩ := h
    rw [e]
    rfl
  · obtain ⟨a, v, e, ea, k⟩ := h
    subst e
    obtain ⟨t, d, go⟩ := dv (cxOf CX0 P w K mg base ["self", "value"] q (defScope st) f cdv A outer s H E).nox rfl rfl
    refine ⟨t, d, go _ _ _ ?_⟩
    exact ⟨v, rfl, .ref a, rfl, a, C, rfl, T.ox, T.no, Or.inl ⟨ea, k⟩⟩
end
section
variable {X : Cx} {x : Str} {C : Addr} {e : Expr} {te : TE} {p pos pos2 : Pos} {W : WX}
/-- raise x(e) -/
def tThrow (K : PySem.W.Frag) (C : Addr) (W : WX) (te : TE) : TS := fun _ σ H => tMkO C (spIni K C) [] (tCons te tNil) σ H fun cls d H' => W cls d σ H'
theorem ps_throw (T : Err X.K X.mg x C) (hc : X.calm = true) (hr : Room 2 X.A) (tk : Takes X W) (he : PE X e te) (hg : Gl X x := by rfl) (hdb : (x == ("__debug__" : Str)) = false := by decide)
    (hs : starEach (e :: []) X.env = (false, eval e X.env) :: starEach [] X.env := by rfl) (hpl : (backTo pos (starEach [] X.env)).any (·.1) = false := by rfl) :
    PS X (.Raise (some (.Call (.Name x p) [e] [] pos)) none pos2) (tThrow X.K C W te) := by
  obtain ⟨f, fd, h1, h2, b, F⟩ := T.init (P := X.prog) (w := X.w) (base := X.base)
  exact ps_raise (pos := pos2) hc tk (pmk_oex (x := x) (p := p) (pos := pos) (dvs := []) (ds := []) T.ox h1 h2 F hr b .nil pass0 hg T.g (pa_cons he pa_nil hs) hdb hs hpl)
/-- what the reading of a raise asks, from Thrown -/
theorem thrown_go {K : PySem.W.Frag} {H : Hp} {E : XK} {v : V} (h : Thrown C v H E) : [v].length ≤ 1000 ∧ ∀ a, H a = none → spIni K C (.ref a :: ([v] ++ [])) (upd H a (exo a C none))
    (fun u H2 => u = .non ∧ ∃ (d : Addr) (fs : List (Str × V)), H2 a = some (exo a C (some d)) ∧ H2 d = some (exd d fs) ∧ H d = none ∧ E (.ref C) (some d) (upd (del H2 a) d (.xd fs))) (fun _ _ _ => False) := by
  refine ⟨by show 1 ≤ 1000; decide, fun a ha => ⟨a, v, rfl, upd_same, fun dx hd ne => ⟨rfl, dx, _, upd_same, by rw [upd_ne ne, upd_same], ?_, ?_⟩⟩⟩
  · rw [upd_ne ne] at hd
    exact hd
  · rw [upd_ne ne] at hd
    refine h dx _ (fun b o e => ?_) hd upd_same
    rw [upd_ne (ne_of_none e hd), del_ne (ne_of_none e ha), upd_ne (ne_of_none e ha), upd_ne (ne_of_none e hd), upd_ne (ne_of_none e ha)]
    exact e
end
end Rw

set_option Elab.async false
set_option linter.all false
set_option maxRecDepth 100000
set_option maxHeartbeats 4000000
/-! TkF: the kinds of data, what data is kept over heaps, numbers among the primes. -/
namespace Rw
open PySem PySem.Spec PyProof.Rows L2

/-! ### kinds -/
def kindS : PyData → String
  | .none => "NoneType" | .bool _ => "bool" | .int _ => "int" | .str _ => "str" | .list _ => "list" | .tuple _ => "tuple" | .dict _ => "dict"
def intish : PyData → Bool
  | .int _ => true | .bool _ => true | _ => false
def boolish : PyData → Bool
  | .bool _ => true | _ => false
def isIntD : PyData → Bool
  | .int _ => true | _ => false
section
variable {K : PySem.W.Frag} {H H' : Hp} {v : V} {d : PyData}
theorem any_ty (h : Any H v d) : TyX K H v (.type (kindS d)) := by
  cases h with
  | non => exact .base .non
  | bl b => exact .base (.bl b)
  | int i => exact .base (.int i)
  | str x => exact .base (.str x)
  | lst e _ => exact .base (.lst e)
  | tup e _ => exact .base (.tup e)
  | dct e _ => exact .base (.dK e)
theorem kit_int (d : PyData) : PySem.W.kitOne K (.type (kindS d)) (.type "int") = some (intish d) := by
  cases d with
  | none => exact kit_ty (show kitB "NoneType" "int" = some false by decide +kernel)
  | bool b => exact kit_ty (show kitB "bool" "int" = some true by decide +kernel)
  | int i => exact kit_ty (show kitB "int" "int" = some true by decide +kernel)
  | str x => exact kit_ty (show kitB "str" "int" = some false by decide +kernel)
  | list xs => exact kit_ty (show kitB "list" "int" = some false by decide +kernel)
  | tuple xs => exact kit_ty (show kitB "tuple" "int" = some false by decide +kernel)
  | dict kvs => exact kit_ty (show kitB "dict" "int" = some false by decide +kernel)
theorem kit_bool (d : PyData) : PySem.W.kitOne K (.type (kindS d)) (.type "bool") = some (boolish d) := by
  cases d with
  | none => exact kit_ty (show kitB "NoneType" "bool" = some false by decide +kernel)
  | bool b => exact kit_ty (show kitB "bool" "bool" = some true by decide +kernel)
  | int i => exact kit_ty (show kitB "int" "bool" = some false by decide +kernel)
  | str x => exact kit_ty (show kitB "str" "bool" = some false by decide +kernel)
  | list xs => exact kit_ty (show kitB "list" "bool" = some false by decide +kernel)
  | tuple xs => exact kit_ty (show kitB "tuple" "bool" = some false by decide +kernel)
  | dict kvs => exact kit_ty (show kitB "dict" "bool" = some false by decide +kernel)
theorem int_of (h : Any H v d) (e : isIntD d = true) : ∃ n, d = .int n ∧ v = .int n := by
  cases h with
  | int i => exact ⟨i, rfl, rfl⟩
  | _ => cases e
mutual
theorem any_keep (k : Same H H') : ∀ (d : PyData) (v : V), Any H v d → Any H' v d
  | .none, _, h => by
    cases h
    exact .non
  | .bool b, _, h => by
    cases h
    exact .bl b
  | .int i, _, h => by
    cases h
    exact .int i
  | .str x, _, h => by
    cases h
    exact .str x
  | .list ds, _, h => by
    cases h with
    | lst e a => exact .lst (k _ _ e) (any_keepL k ds _ a)
  | .tuple ds, _, h => by
    cases h with
    | tup e a => exact .tup (k _ _ e) (any_keepL k ds _ a)
  | .dict ds, _, h => by
    cases h with
    | dct e a => exact .dct (k _ _ e) (any_keepK k ds _ a)
theorem any_keepL (k : Same H H') : ∀ (ds : List PyData) (vs : List V), AnyL H vs ds → AnyL H' vs ds
  | [], _, h => by
    cases h
    exact .nil
  | d :: ds, _, h => by
    cases h with
    | cons a b => exact .cons (any_keep k d _ a) (any_keepL k ds _ b)
theorem any_keepK (k : Same H H') : ∀ (ds : List (PyData × PyData)) (vs : List (Key × V)), AnyK H vs ds → AnyK H' vs ds
  | [], _, h => by
    cases h
    exact .nil
  | (_, d) :: ds, _, h => by
    cases h with
    | cons a b => exact .cons (any_keep k d _ a) (any_keepK k ds _ b)
end
theorem Any.keep (h : Any H v d) (k : Same H H') : Any H' v d := any_keep k d v h
end

/-! ### all but one object -/
/-- what was tracked but at p is as it was -/
def Grow (p : Addr) (H H' : Hp) : Prop := ∀ b o, b ≠ p → H b = some o → H' b = some o
theorem Grow.refl {p : Addr} {H : Hp} : Grow p H H := fun _ _ _ e => e
theorem Grow.trans {p : Addr} {H H1 H2 : Hp} (a : Grow p H H1) (b : Grow p H1 H2) : Grow p H H2 := fun c o n e => b c o n (a c o n e)
theorem Grow.of {p : Addr} {H H' : Hp} (a : Same H H') : Grow p H H' := fun c o _ e => a c o e
theorem Grow.put {p : Addr} {H : Hp} {o : HO} : Grow p H (upd H p o) := fun c u n e => by
  rw [upd_ne n]
  exact e
theorem Grow.del {p : Addr} {H H' : Hp} (a : Grow p H H') : Same (del H p) (del H' p) := fun c o e => by
  by_cases z : c = p
  · rw [z, del_same] at e
    cases e
  · rw [del_ne z] at e
    rw [del_ne z]
    exact a c o z e
theorem same_del {p : Addr} {H : Hp} : Same (del H p) H := fun c o e => by
  by_cases z : c = p
  · rw [z, del_same] at e
    cases e
  · rw [del_ne z] at e
    exact e
theorem same_new {p : Addr} {H : Hp} {o : HO} (h : H p = none) : Same H (upd H p o) := fun c u e => by
  rw [upd_ne (ne_of_none e h)]
  exact e
theorem del_new {p q : Addr} {H : Hp} {o : HO} (h : H q = none) : Same (del H p) (del (upd H q o) p) := Grow.del (Grow.of (same_new h))
theorem ne_new {H : Hp} {p q : Addr} {o : HO} (hp : H p = some o) (h : H q = none) : q ≠ p := (ne_of_none hp h).symm

/-! ### the primes -/
def primesL : List Int := [2, 3, 5, 7, 11, 13]
def isPr : PyData → Bool
  | .int n => decide (n ∈ primesL)
  | _ => false
theorem inV_ints (n : Int) : ∀ l : List Int, inV (.int n) (l.map V.int) = decide (n ∈ l)
  | [] => rfl
  | a :: l => by
    show (eqV (.int a) (.int n) || inV (.int n) (l.map V.int)) = _
    rw [inV_ints n l]
    show ((a == n) || decide (n ∈ l)) = _
    by_cases h : a = n
    · subst h
      simp
    · have h2 : ¬ n = a := fun z => h z.symm
      simp [h, h2]
theorem flat_ints : ∀ l : List Int, (l.map V.int).all flatV = true
  | [] => rfl
  | a :: l => by
    show (true && (l.map V.int).all flatV) = true
    rw [flat_ints l] <;> rfl
theorem prime_cases {p : Int} (h : p ∈ primesL) : p = 2 ∨ p = 3 ∨ p = 5 ∨ p = 7 ∨ p = 11 ∨ p = 13 := by
  simpa [primesL] using h
theorem prime_pos {p : Int} (h : p ∈ primesL) : 2 ≤ p ∧ p ≤ 13 := by
  rcases prime_cases h with e | e | e | e | e | e <;> omega
/-- a number that is no multiple of the prime has an inverse -/
theorem has_inverse {p n : Int} (h : p ∈ primesL) (hn : n % p ≠ 0) : ∃ j : Nat, ((j : Int) + 1) < p ∧ ((1 + (j : Int)) * n) % p = 1 := by
  have key : ∀ (p : Int) (r : Int), p ∈ primesL → 0 ≤ r → r < p → r ≠ 0 → ∃ j : Nat, ((j : Int) + 1) < p ∧ ((1 + (j : Int)) * r) % p = 1 := by
    intro p r hp h0 h1 h2
    have c : ∀ p ∈ [2, 3, 5, 7, 11, 13], ∀ r ∈ List.range p, r ≠ 0 → ∃ j ∈ List.range 12, j + 1 < p ∧ ((1 + j) * r) % p = 1 := by decide +kernel
    obtain ⟨j, _, a, b⟩ := c p.toNat (by rcases prime_cases hp with e | e | e | e | e | e <;> subst e <;> decide) r.toNat (List.mem_range.mpr (by omega)) (by omega)
    refine ⟨j, by omega, ?_⟩
    have e1 : ((p.toNat : Nat) : Int) = p := Int.toNat_of_nonneg (by omega)
    have e2 : ((r.toNat : Nat) : Int) = r := Int.toNat_of_nonneg h0
    have b2 : ((((1 + j) * r.toNat % p.toNat : Nat)) : Int) = ((1 : Nat) : Int) := by rw [b]
    rw [Int.natCast_emod, Int.natCast_mul, e1, e2, Int.natCast_add] at b2
    exact b2
  have hp := prime_pos h
  obtain ⟨j, a, b⟩ := key p (n % p) h (Int.emod_nonneg n (by omega)) (Int.emod_lt_of_pos n (by omega)) hn
  refine ⟨j, a, ?_⟩
  rw [Int.mul_emod, Int.emod_emod_of_dvd n (Int.dvd_refl p), ← Int.mul_emod] at b
  exact b
theorem fmod_pos {a b : Int} (h : 0 < b) : a.fmod b = a % b := Int.fmod_eq_emod_of_nonneg a (by omega)
end Rw

set_option Elab.async false
set_option linter.all false
set_option maxRecDepth 100000
set_option maxHeartbeats 4000000
/-! TkG: what stands behind the top, as facts that the kernel is asked. -/
namespace Rw
open PySem PySem.Spec PyProof.Rows L2
/-- a def of the text stands at f under the name x -/
def DefAt (K : PySem.W.Frag) (x qual : Str) (st : Stmt) (f : Addr) : Prop :=
  ∃ (oc : Value) (od : Option Addr) (kV dc pm : Value) (an : Option Addr) (cd ct : Value) (sl : Array (Option Value)), K.lookup f = some ⟨oc, od, .func (PySem.W.fnOf x qual (defArgs st) (defBody st) (defScope st) .none kV dc pm an cd ct), sl⟩ ∧
    PySem.W.codeIn K cd qual = true ∧ PySem.W.keepIn K (.ref f) = true
def DefHere (K : PySem.W.Frag) (x : Str) (st : Stmt) : Prop := ∃ f : Addr, PySem.W.nsIn K mainGlobals x = some (some (.ref f)) ∧ DefAt K x x st f
/-- a def with defaults -/
def DflHere (K : PySem.W.Frag) (x : Str) (st : Stmt) (ds : List Value) : Prop :=
  ∃ (f T : Addr) (oc : Value) (od : Option Addr) (kV dc pm : Value) (an : Option Addr) (cd ct : Value) (sl : Array (Option Value)) (tc : Value) (td : Option Addr) (n : Nat) (ts : Array (Option Value)), PySem.W.nsIn K mainGlobals x = some (some (.ref f)) ∧
    K.lookup f = some ⟨oc, od, .func (PySem.W.fnOf x x (defArgs st) (defBody st) (defScope st) (.ref T) kV dc pm an cd ct), sl⟩ ∧ PySem.W.codeIn K cd x = true ∧ PySem.W.keepIn K (.ref f) = true ∧
    K.lookup T = some ⟨tc, td, .seq ds.toArray n, ts⟩
/-- an own error class x below the class at R, its __init__ is st -/
def ErrHere (K : PySem.W.Frag) (x q : Str) (st : Stmt) (R C : Addr) : Prop :=
  ∃ (f N : Addr) (nm qn : Str) (bs : List Value) (sn : List Str) (sub : List Value) (ab : Bool) (col : Option Bool) (dd : Option Addr) (m0 m1 m2 m3 m5 : Option Value), PySem.W.nsIn K mainGlobals x = some (some (.ref C)) ∧
    K.lookup C = some (excClassObj nm qn C N bs [.ref R, .type "ValueError", .type "Exception", .type "BaseException", .type "object"] true sn sub ab col dd m0 m1 m2 m3 m5 "ValueError.__new__") ∧
    PySem.W.findIn K (.ref C) "__setattr__" = some (some (.builtin "object.__setattr__")) ∧ PySem.W.findIn K (.ref C) "__getattribute__" = some (some (.builtin "BaseException.__getattribute__")) ∧ PySem.W.findIn K (.ref C) "__getattr__" = some none ∧
    PySem.W.findIn K (.ref C) "value" = some none ∧ PySem.W.findIn K (.ref C) "__init__" = some (some (.ref f)) ∧ PySem.W.typeIn K (.ref f) = some (.type "function") ∧ DefAt K "__init__" q st f ∧
    PySem.W.keepIn K (.ref C) = true ∧ PySem.W.subIn K (.ref C) (.type "BaseException") = some true ∧ PySem.W.typeIn K (.ref C) = some (.type "type") ∧ PySem.W.hasDictIn K C = true
section
variable {K : PySem.W.Frag} {mg : Str → Option Value} {h : Heap}
theorem DefHere.df {x : Str} {st : Stmt} {ps : List Str} (D : DefHere K x st) (X : K.In h) (G : h.Ns mainGlobals mg)
    (b : ∀ (kV doc pm : Value) (an : Option Addr) (cdv ct : Value) (us : List Value), us.length = ps.length → bindArgs (PySem.W.fnOf x x (defArgs st) (defBody st) (defScope st) .none kV doc pm an cdv ct) ⟨us, []⟩ = pure (ps.zip us)) : Df K mg x st ps := by
  obtain ⟨f, g, oc, od, kV, dc, pm, an, cd, ct, sl, l, c, k⟩ := D
  have F := fun_mk (st := st) l c k
  exact ⟨f, _, PySem.W.mg_of X G g, F, F.binds b⟩
theorem exm_of {A C : Addr} {b : Bool} (h1 : PySem.W.subIn K (.ref C) (.type "BaseException") = some true) (h2 : PySem.W.isClsIn K C = true) (h3 : PySem.W.typeIn K (.ref C) = some (.type "type")) (h4 : PySem.W.subIn K (.ref A) (.ref C) = some b) :
    PySem.W.exmOne K (.ref A) (.ref C) = some b := by
  have e1 : (PySem.W.subIn K (.ref C) (.type "BaseException") == some true) = true := by
    rw [h1] <;> rfl
  have h2' : (PySem.W.clsIn K C).isSome = true := h2
  have e2 : ((PySem.W.clsIn K C).isSome && PySem.W.typeIn K (.ref C) == some (.type "type")) = true := by
    rw [h2', h3] <;> rfl
  unfold PySem.W.exmOne
  rw [if_pos e1]
  show (if ((PySem.W.clsIn K C).isSome && PySem.W.typeIn K (.ref C) == some (.type "type")) = true then PySem.W.subIn K (.ref A) (.ref C) else none) = some b
  rw [if_pos e2]
  exact h4
/-- the body of __init__(self, value): self.value = value -/
def IsIni (st : Stmt) : Prop := ∃ p1 p2 p3 p4 : Pos, defBody st = [.Assign [.Attribute (.Name "self" p1) "value" p2] (.Name "value" p3) p4] ∧ (defScope st).names.lookup ("self" : Str) = some NameKind.local ∧ (defScope st).names.lookup ("value" : Str) = some NameKind.local
theorem ini_walk {st : Stmt} (I : IsIni st) (X : Cx) (hN : X.N = (["self", "value"] : List Str)) (hS : X.env.scope = defScope st) : ∃ t : TS, PSs X (defBody st) t ∧ (∀ D σ H, tOst X.K "value" (tVar 0) (tVar 1) D σ H → t D σ H) := by
  obtain ⟨p1, p2, p3, p4, e, l1, l2⟩ := I
  rw [e]
  refine ⟨_, pss_one (ps_ost (pe_var (i := 0) (by rw [hN]; rfl) (.inl (by rw [hS]; exact l1))) (pe_var (i := 1) (by rw [hN]; rfl) (.inl (by rw [hS]; exact l2)))), fun D σ H z => z⟩
theorem ErrHere.err {x q : Str} {st : Stmt} {R C : Addr} (E : ErrHere K x q st R C) (X : K.In h) (G : h.Ns mainGlobals mg) (S : FnScope ["self", "value"] ["self", "value"] (defScope st)) (I : IsIni st)
    (b : ∀ (kV doc pm : Value) (an : Option Addr) (cdv ct : Value) (us : List Value), us.length = 2 → bindArgs (PySem.W.fnOf "__init__" q (defArgs st) (defBody st) (defScope st) .none kV doc pm an cdv ct) ⟨us, []⟩ = pure ((["self", "value"] : List Str).zip us)) : Err K mg x C := by
  obtain ⟨f, N, nm, qn, bs, sn, sub, ab, col, dd, m0, m1, m2, m3, m5, g, l, sa, ga, gg, no, ini, ty, ⟨oc, od, kV, dc, pm, an, cd, ct, sl, lf, cf, kf⟩, kc, ex, tc, hd⟩ := E
  have F := fun_mk (x := "__init__") (qual := q) (st := st) lf cf kf
  exact {
    g := PySem.W.mg_of X G g
    ox := ⟨⟨nm, qn, N, bs, _, sn, sub, ab, col, dd, m0, m1, m2, m3, m5, l, rfl⟩, sa, ex, tc, kc⟩
    xf := ⟨ga, gg, ex, hd⟩
    no := no
    ini := ⟨f, q, st, _, ini, ty, F, F.binds b, S, ini_walk I⟩ }
/-- a tuple of ints of the text -/
def IntsHere (K : PySem.W.Frag) (x : Str) (a : Addr) (us : List Value) : Prop := ∃ (dd : Option Addr) (n : Nat) (sl : Array (Option Value)), PySem.W.nsIn K mainGlobals x = some (some (.ref a)) ∧ K.lookup a = some ⟨.type "tuple", dd, .seq us.toArray n, sl⟩
theorem IntsHere.sq {x : Str} {a : Addr} {us : List Value} {xs : List V} (E : IntsHere K x a us) (r : Vals xs us) (z : us.length ≤ sizeLine) (H : Hp) : SqT K H a xs := by
  obtain ⟨dd, n, sl, _, l⟩ := E
  exact Or.inr ⟨_, us.toArray, n, l, rfl, rfl, by simpa using z, by simpa using r⟩
/-! the same from its facts, the rest found by the kernel -/
theorem DefHere.of {x : Str} {st : Stmt} {f : Addr} {oc : Value} {od : Option Addr} {kV dc pm : Value} {an : Option Addr} {cd ct : Value} {sl : Array (Option Value)} (g : PySem.W.nsIn K mainGlobals x = some (some (.ref f)))
    (l : K.lookup f = some ⟨oc, od, .func (PySem.W.fnOf x x (defArgs st) (defBody st) (defScope st) .none kV dc pm an cd ct), sl⟩) (c : PySem.W.codeIn K cd x = true) (k : PySem.W.keepIn K (.ref f) = true) : DefHere K x st :=
  ⟨f, g, oc, od, kV, dc, pm, an, cd, ct, sl, l, c, k⟩
theorem DflHere.of {x : Str} {st : Stmt} {ds : List Value} {f T : Addr} {oc : Value} {od : Option Addr} {kV dc pm : Value} {an : Option Addr} {cd ct : Value} {sl : Array (Option Value)} {tc : Value} {td : Option Addr} {n : Nat} {ts : Array (Option Value)}
    (g : PySem.W.nsIn K mainGlobals x = some (some (.ref f))) (l : K.lookup f = some ⟨oc, od, .func (PySem.W.fnOf x x (defArgs st) (defBody st) (defScope st) (.ref T) kV dc pm an cd ct), sl⟩) (c : PySem.W.codeIn K cd x = true) (k : PySem.W.keepIn K (.ref f) = true)
    (t : K.lookup T = some ⟨tc, td, .seq ds.toArray n, ts⟩) : DflHere K x st ds := ⟨f, T, oc, od, kV, dc, pm, an, cd, ct, sl, tc, td, n, ts, g, l, c, k, t⟩
theorem ErrHere.of {x q : Str} {st : Stmt} {R C f N : Addr} {nm qn : Str} {bs : List Value} {sn : List Str} {sub : List Value} {ab : Bool} {col : Option Bool} {dd : Option Addr} {m0 m1 m2 m3 m5 : Option Value}
    {oc : Value} {od : Option Addr} {kV dc pm : Value} {an : Option Addr} {cd ct : Value} {sl : Array (Option Value)} (g : PySem.W.nsIn K mainGlobals x = some (some (.ref C)))
    (xl : K.lookup C = some (excClassObj nm qn C N bs [.ref R, .type "ValueError", .type "Exception", .type "BaseException", .type "object"] true sn sub ab col dd m0 m1 m2 m3 m5 "ValueError.__new__"))
    (sa : PySem.W.findIn K (.ref C) "__setattr__" = some (some (.builtin "object.__setattr__"))) (ga : PySem.W.findIn K (.ref C) "__getattribute__" = some (some (.builtin "BaseException.__getattribute__"))) (gg : PySem.W.findIn K (.ref C) "__getattr__" = some none)
    (no : PySem.W.findIn K (.ref C) "value" = some none) (ini : PySem.W.findIn K (.ref C) "__init__" = some (some (.ref f))) (ty : PySem.W.typeIn K (.ref f) = some (.type "function"))
    (l : K.lookup f = some ⟨oc, od, .func (PySem.W.fnOf "__init__" q (defArgs st) (defBody st) (defScope st) .none kV dc pm an cd ct), sl⟩) (c : PySem.W.codeIn K cd q = true) (k : PySem.W.keepIn K (.ref f) = true)
    (kc : PySem.W.keepIn K (.ref C) = true) (ex : PySem.W.subIn K (.ref C) (.type "BaseException") = some true) (tc : PySem.W.typeIn K (.ref C) = some (.type "type")) (hd : PySem.W.hasDictIn K C = true) : ErrHere K x q st R C :=
  ⟨f, N, nm, qn, bs, sn, sub, ab, col, dd, m0, m1, m2, m3, m5, g, xl, sa, ga, gg, no, ini, ty, ⟨oc, od, kV, dc, pm, an, cd, ct, sl, l, c, k⟩, kc, ex, tc, hd⟩
theorem IntsHere.of {x : Str} {a : Addr} {us : List Value} {dd : Option Addr} {n : Nat} {sl : Array (Option Value)} (g : PySem.W.nsIn K mainGlobals x = some (some (.ref a))) (l : K.lookup a = some ⟨.type "tuple", dd, .seq us.toArray n, sl⟩) : IntsHere K x a us := ⟨dd, n, sl, g, l⟩
end
end Rw

set_option Elab.async false
set_option linter.all false
set_option maxRecDepth 100000
set_option maxHeartbeats 4000000
/-! TkZ: zip of lists and tuples, in any order. -/
namespace Rw
open PySem PySem.Spec PyProof.Rows L2

/-- a list (true) or a tuple (false) -/
def SqB (K : PySem.W.Frag) (H : Hp) : Bool → Addr → List V → Prop
  | true, a, xs => SqL K H a xs
  | false, a, xs => SqT K H a xs
def itB (h : Heap) : Bool → Addr → Addr → Nat → Prop
  | true, it, l, i => h.IsListIter it l i
  | false, it, l, i => h.IsTupleIter it l i
def sqB (h : Heap) : Bool → Addr → Array Value → Prop
  | true, l, xs => h.IsList l xs
  | false, l, xs => h.IsTuple l xs
def nmB : Bool → String
  | true => "list_iterator"
  | false => "tuple_iterator"
section
variable {X : Cx} {pins : List (Addr × Obj)} {σ : L2.St} {H : Hp} {s : Shared} {h h' : Heap} {k : Bool} {a it : Addr} {i : Nat} {xs ys : List V}
theorem sqB_inv (I : Inv X pins σ H s) (q : SqB X.K H k a xs) : ∃ its : List Value, Vals xs its ∧ sqB s.heap k a its.toArray ∧ a < s.heap.objs.size := by
  cases k with
  | true =>
    obtain ⟨its, r, p, _⟩ := I.list q
    exact ⟨its, r, p.isList, p.lt⟩
  | false =>
    obtain ⟨its, r, p, _⟩ := I.tuple q
    obtain ⟨o, ho, _⟩ := id p
    exact ⟨its, r, p, Heap.lt_size ho⟩
theorem sqB_inj (I : Inv X pins σ H s) (q : SqB X.K H k a xs) (q' : SqB X.K H k a ys) : xs = ys := by
  cases k with
  | true => exact I.list_inj q q'
  | false => exact I.tuple_inj q q'
theorem itB_obj (t : itB h k it a i) : ∃ o, h.get? it = some o ∧ ∀ v, o.data ≠ .cell v := by
  cases k with
  | true =>
    obtain ⟨o, e, _, d⟩ := t
    exact ⟨o, e, fun v q => by rw [d] at q; cases q⟩
  | false =>
    obtain ⟨o, e, _, d⟩ := t
    exact ⟨o, e, fun v q => by rw [d] at q; cases q⟩
theorem itB_at (t : itB h k it a i) (e : ∀ o, h.get? it = some o → h'.get? it = some o) : itB h' k it a i := by
  cases k with
  | true => exact Heap.IsListIter.at t e
  | false => exact Heap.IsTupleIter.at t e
theorem drawsB {prog : Program} {w : World} {A : Around} (hh : A.handled = none) (k : Bool) (it l : Addr) (hne : l ≠ it) (items : Array Value) :
    Draws prog w A it [it, l] items.size (fun i v => items[i]? = some v) (fun i h => itB h k it l i ∧ sqB h k l items) := by
  cases k with
  | true => exact Draws.list hh it l hne items
  | false => exact Draws.tuple hh it l hne items
theorem sepB {z TI TO i1 i2 a b : Addr} (D : ZipApart z TI TO i1 i2 a b) : ZipSep2 z TI TO i1 i2 [i1, a] [i2, b] where
  TIz := D.TIz
  TOz := D.TOz
  TITO := D.TITO
  TIi1 := D.TIi1
  mem1 := List.mem_cons_self
  zf1 := by simp; exact ⟨D.i1z.symm, D.l1z.symm⟩
  Tf1 := by simp; exact ⟨D.TOi1, D.l1TO.symm⟩
  TIi2 := D.TIi2
  mem2 := List.mem_cons_self
  zf2 := by simp; exact ⟨D.i2z.symm, D.l2z.symm⟩
  Tf2 := by simp; exact ⟨D.TOi2, D.l2TO.symm⟩
  sep1_2 := by simp; exact ⟨D.i12, D.l2i1.symm⟩
  sep2_1 := by simp; exact ⟨D.i12.symm, D.l1i2.symm⟩
end

/-- the lists or tuples at a and b as they stand at each turn, the items in new pairs -/
def ItB (K : PySem.W.Frag) (k1 k2 : Bool) (a b : Addr) : It :=
  ⟨fun i H => ∃ (xs ys : List V) (x y : V), SqB K H k1 a xs ∧ SqB K H k2 b ys ∧ xs[i]? = some x ∧ ys[i]? = some y,
    fun i H v H' => ∃ T x y, v = .ref T ∧ H T = none ∧ H' = upd H T (.tup [x, y]) ∧ (∀ xs, SqB K H k1 a xs → xs[i]? = some x) ∧ ∀ ys, SqB K H k2 b ys → ys[i]? = some y,
    fun i H => ∃ xs ys : List V, SqB K H k1 a xs ∧ SqB K H k2 b ys ∧ i ≤ xs.length ∧ i ≤ ys.length ∧ (xs.length = i ∨ ys.length = i)⟩
theorem turn_zipB {P : Program} {w : World} {K : PySem.W.Frag} {k1 k2 : Bool} {elts : List Expr} {kk : Nat} {tpos : Pos} {a b z TI TO i1 i2 : Addr} (D : ZipApart z TI TO i1 i2 a b) :
    Turn P w K (.Tuple elts kk tpos) (ItB K k1 k2 a b) [z, TI, TO, i1, i2] z (fun i h => IsZip h z TI TO .none ∧ IsPair h TI (.ref i1) (.ref i2) ∧ (∃ x y, IsPair h TO x y) ∧ itB h k1 i1 a i ∧ itB h k2 i2 b i) where
  mem := by simp
  obj := fun i h st c hc => by
    obtain ⟨hz, hTI, ⟨x, y, hTO⟩, h1, h2⟩ := st
    have e' : c = z ∨ c = TI ∨ c = TO ∨ c = i1 ∨ c = i2 := by simpa using hc
    rcases e' with q | q | q | q | q
    · rw [q]; exact ⟨_, hz, fun v q => nomatch q⟩
    · rw [q]; exact ⟨_, hTI, fun v q => nomatch q⟩
    · rw [q]; exact ⟨_, hTO, fun v q => nomatch q⟩
    · rw [q]; exact itB_obj h1
    · rw [q]; exact itB_obj h2
  keep := fun i h h' st k => by
    obtain ⟨hz, hTI, ⟨x, y, hTO⟩, h1, h2⟩ := st
    exact ⟨k z (by simp) _ hz, k TI (by simp) _ hTI, ⟨x, y, k TO (by simp) _ hTO⟩, itB_at h1 fun o q => k i1 (by simp) o q, itB_at h2 fun o q => k i2 (by simp) o q⟩
  item := by
    intro X hP hw hK hc i pins s σ H E I hf st hg
    subst hP hw hK
    obtain ⟨hz, hTI, ⟨x0, y0, hTO⟩, h1, h2⟩ := st
    obtain ⟨xs, ys, x, y, hqx, hqy, hx, hy⟩ := hg
    obtain ⟨its, rv, p, _⟩ := sqB_inv I hqx
    obtain ⟨its2, rv2, p2, _⟩ := sqB_inv I hqy
    obtain ⟨u, hu, ru⟩ := rv.get hx
    obtain ⟨u2, hu2, ru2⟩ := rv2.get hy
    have hzl : z < s.heap.objs.size := Heap.lt_size hz
    have hd : X.A.in1.handled = none := I.ok.hd hc
    have g1 : i < its.toArray.size := by
      have := (List.getElem?_eq_some_iff.mp hu).1
      simpa using this
    have g2 : i < its2.toArray.size := by
      have := (List.getElem?_eq_some_iff.mp hu2).1
      simpa using this
    refine wpAny_pyNext_zipD2_item (sepB D) (drawsB hd k1 i1 a D.l1i1 its.toArray) (drawsB hd k2 i2 b D.l2i2 its2.toArray) hz hTI hTO ⟨h1, p⟩ ⟨h2, p2⟩ g1 g2 fun x1 x2 h' tk e1 e2 z' TO' t1 t2 hT hsz hk => ?_
    have hx1 : x1 = u := by
      have q : its[i]? = some x1 := by simpa using e1
      rw [hu] at q
      exact (Option.some.inj q).symm
    have hx2 : x2 = u2 := by
      have q : its2[i]? = some x2 := by simpa using e2
      rw [hu2] at q
      exact (Option.some.inj q).symm
    subst hx1 hx2
    refine ⟨_, rfl, wpAny_letOwnedTupleGo_zip (s := { s with heap := h', toks := tk }) z' fun h'' z'' sb => ?_⟩
    have hT2 : h''.get? s.heap.objs.size = some { cls := .type "tuple", data := .seq #[x1, x2] } := (sb.2 _ (Nat.ne_of_gt hzl)).trans hT
    have new : ObjOk X.prog X.w (upd H s.heap.objs.size (.tup [x, y])) h'' s.heap.objs.size (.tup [x, y]) :=
      ⟨by show 2 ≤ sizeLine; decide, [x1, x2], .cons ru (.cons ru2 .nil), ⟨_, hT2, rfl, _, rfl⟩⟩
    have I1 : Inv X pins σ (upd H s.heap.objs.size (.tup [x, y])) { s with heap := h'', toks := tk } :=
      I.turnedNew (t' := tk) (ch := [z, TI, TO, i1, i2]) (fun c o hb q => (sb.2 c (fun q' => hb (by simp [q']))).trans (hk c o (fun q' => hb (by simp [q'])) (fun q' => hb (by simp [q'])) (fun q' => hb (by simp [q'])) (fun q' => hb (by simp [q'])) q)) hf (Nat.le_refl _) new
    refine ⟨.ref s.heap.objs.size, _, I1, rfl, ⟨_, x, y, rfl, I.hok.fresh (Nat.le_refl _), rfl, fun l hl => by rw [sqB_inj I hl hqx]; exact hx, fun l hl => by rw [sqB_inj I hl hqy]; exact hy⟩, ⟨z'', ?_, ⟨x1, x2, ?_⟩, ?_, ?_⟩, fun c hcm => ?_⟩
    · exact (sb.2 _ D.TIz).trans (hk _ _ D.TIz D.TITO D.TIi1 D.TIi2 hTI)
    · exact (sb.2 _ D.TOz).trans TO'
    · exact itB_at t1.1 fun o q => (sb.2 _ D.i1z).trans q
    · exact itB_at t2.1 fun o q => (sb.2 _ D.i2z).trans q
    · have hlt : c < s.heap.objs.size := by
        have e' : c = z ∨ c = TI ∨ c = TO ∨ c = i1 ∨ c = i2 := by simpa using hcm
        rcases e' with q | q | q | q | q
        · rw [q]; exact hzl
        · rw [q]; exact Heap.lt_size hTI
        · rw [q]; exact Heap.lt_size hTO
        · rw [q]; obtain ⟨_, e1, _⟩ := itB_obj h1; exact Heap.lt_size e1
        · rw [q]; obtain ⟨_, e2, _⟩ := itB_obj h2; exact Heap.lt_size e2
      rw [upd_ne (Nat.ne_of_lt hlt)]
      exact (hf c hcm).1
  done := by
    intro X hP hw hK hc i pins s σ H E I hf st hg
    subst hP hw hK
    obtain ⟨hz, hTI, ⟨x0, y0, hTO⟩, h1, h2⟩ := st
    obtain ⟨xs, ys, hqx, hqy, l1, l2, hend⟩ := hg
    obtain ⟨its, rv, p, _⟩ := sqB_inv I hqx
    obtain ⟨its2, rv2, p2, _⟩ := sqB_inv I hqy
    have m1 := rv.length
    have m2 := rv2.length
    have hd : X.A.in1.handled = none := I.ok.hd hc
    have z1 : its.toArray.size = its.length := by simp
    have z2 : its2.toArray.size = its2.length := by simp
    exact wpAny_pyNext_zipD2_end (sepB D) (drawsB hd k1 i1 a D.l1i1 its.toArray) (drawsB hd k2 i2 b D.l2i2 its2.toArray) hz hTI hTO ⟨h1, p⟩ ⟨h2, p2⟩ (by omega) (by omega) (by omega) fun h' tk hk => ⟨rfl, I.turnedL (t' := tk) (ch := [z, TI, TO, i1, i2]) (fun c o hb q =>
      hk c o (fun q' => hb (by simp [q'])) (fun q' => hb (by simp [q'])) (fun q' => hb (by simp [q'])) (fun q' => hb (by simp [q'])) q) hf⟩
  self := fun A i s Q E st h => wpAny_pyIter_zip st.1 h

abbrev zipBH1 (k1 : Bool) (h : Heap) (l1 : Addr) : Heap := h.push { cls := .type (nmB k1), data := .fields #[.ref l1, .int 0 0] }
abbrev zipBH2 (k1 k2 : Bool) (h : Heap) (l1 l2 : Addr) : Heap := (zipBH1 k1 h l1).push { cls := .type (nmB k2), data := .fields #[.ref l2, .int 0 0] }
abbrev zipBH3 (k1 k2 : Bool) (h : Heap) (l1 l2 : Addr) : Heap := (zipBH2 k1 k2 h l1 l2).push { cls := .type "tuple", data := .seq #[.ref h.objs.size, .ref (zipBH1 k1 h l1).objs.size] }
abbrev zipBH4 (k1 k2 : Bool) (h : Heap) (l1 l2 : Addr) : Heap := (zipBH3 k1 k2 h l1 l2).push { cls := .type "tuple", data := .seq #[.none, .none] }
abbrev zipBH5 (k1 k2 : Bool) (h : Heap) (l1 l2 : Addr) : Heap := (zipBH4 k1 k2 h l1 l2).push { cls := .type "zip", data := .fields #[.none, .bool false, .bool false, .ref (zipBH2 k1 k2 h l1 l2).objs.size, .ref (zipBH3 k1 k2 h l1 l2).objs.size] }
theorem meets_zipB_lt (l1 l2 : Addr) (xs ys : Array Value) :
    Meets (Builtin.«zip.__new__» ⟨[.type "zip", .ref l1, .ref l2], []⟩) (fun _ R s => s.heap.IsList l1 xs ∧ s.heap.IsTuple l2 ys ∧
      R (.ok (.ret (.ref (zipBH4 true false s.heap l1 l2).objs.size))) { s with heap := zipBH5 true false s.heap l1 l2 }) :=
  .of_wp fun prog w A R s h => by
    obtain ⟨hp, g, d, tk, os⟩ := s; obtain ⟨hl1, hl2, h⟩ := h
    have hsub := sub_zip
    have hL1 : Heap.IsList (Shared.heap ⟨hp, g, d, tk, os⟩) l1 xs := hl1
    have hL2 : Heap.IsTuple (Shared.heap ⟨hp.push { cls := .type "list_iterator", data := .fields #[.ref l1, .int 0 0] }, g, d, tk, os⟩) l2 ys := Heap.IsTuple.push hl2 _
    wp_walk using wpAny_pyIter_list hL1, wpAny_pyIter_tuple hL2
    exact ⟨_, rfl, h⟩
theorem meets_zipB_tl (l1 l2 : Addr) (xs ys : Array Value) :
    Meets (Builtin.«zip.__new__» ⟨[.type "zip", .ref l1, .ref l2], []⟩) (fun _ R s => s.heap.IsTuple l1 xs ∧ s.heap.IsList l2 ys ∧
      R (.ok (.ret (.ref (zipBH4 false true s.heap l1 l2).objs.size))) { s with heap := zipBH5 false true s.heap l1 l2 }) :=
  .of_wp fun prog w A R s h => by
    obtain ⟨hp, g, d, tk, os⟩ := s; obtain ⟨hl1, hl2, h⟩ := h
    have hsub := sub_zip
    have hL1 : Heap.IsTuple (Shared.heap ⟨hp, g, d, tk, os⟩) l1 xs := hl1
    have hL2 : Heap.IsList (Shared.heap ⟨hp.push { cls := .type "tuple_iterator", data := .fields #[.ref l1, .int 0 0] }, g, d, tk, os⟩) l2 ys := Heap.IsList.push hl2 _
    wp_walk using wpAny_pyIter_tuple hL1, wpAny_pyIter_list hL2
    exact ⟨_, rfl, h⟩
theorem meets_zipB (k1 k2 : Bool) (l1 l2 : Addr) (xs ys : Array Value) :
    Meets (Builtin.«zip.__new__» ⟨[.type "zip", .ref l1, .ref l2], []⟩) (fun _ R s => sqB s.heap k1 l1 xs ∧ sqB s.heap k2 l2 ys ∧
      R (.ok (.ret (.ref (zipBH4 k1 k2 s.heap l1 l2).objs.size))) { s with heap := zipBH5 k1 k2 s.heap l1 l2 }) := by
  cases k1 <;> cases k2
  · exact RZ.meets_zipT_new l1 l2 xs ys
  · exact meets_zipB_tl l1 l2 xs ys
  · exact meets_zipB_lt l1 l2 xs ys
  · exact meets_zip_new l1 l2 xs ys
theorem itB_new {h : Heap} {k : Bool} {it l : Addr} (e : h.get? it = some { cls := .type (nmB k), data := .fields #[.ref l, .int 0 0] }) : itB h k it l 0 := by
  cases k with
  | true => exact ⟨_, e, rfl, rfl⟩
  | false => exact ⟨_, e, rfl, rfl⟩
section
variable {prog : Program} {w : World} {A : Around} {E : Value → Shared → Prop} {s : Shared}
theorem call_zipB {k1 k2 : Bool} {l1 l2 : Addr} {xs ys : Array Value} {Q : Value → Shared → Prop} (hl1 : sqB s.heap k1 l1 xs) (hl2 : sqB s.heap k2 l2 ys)
    (h : ∀ h', IsZip h' (s.heap.objs.size + 4) (s.heap.objs.size + 2) (s.heap.objs.size + 3) .none → IsPair h' (s.heap.objs.size + 2) (.ref s.heap.objs.size) (.ref (s.heap.objs.size + 1)) →
      IsPair h' (s.heap.objs.size + 3) .none .none → itB h' k1 s.heap.objs.size l1 0 → itB h' k2 (s.heap.objs.size + 1) l2 0 → h'.objs.size = s.heap.objs.size + 5 →
      (∀ c o, s.heap.get? c = some o → h'.get? c = some o) → Q (.ref (s.heap.objs.size + 4)) { s with heap := h' }) :
    wpAny (model prog w) A (call (.type "zip") [.ref l1, .ref l2]) Q E s := by
  refine callType_new F.called_zip (by decide) (F.typeCall_zip_2 _ _) (F.newCall_zip_2 _ _) (fun obj => F.args_object_init_3 obj _ _) F.entry_zip_new
    (meets_zipB k1 k2 l1 l2 xs ys) ⟨hl1, hl2, ?_⟩
  have z1 : (zipBH1 k1 s.heap l1).objs.size = s.heap.objs.size + 1 := Heap.size_push ..
  have z2 : (zipBH2 k1 k2 s.heap l1 l2).objs.size = s.heap.objs.size + 2 := by rw [Heap.size_push, z1]
  have z3 : (zipBH3 k1 k2 s.heap l1 l2).objs.size = s.heap.objs.size + 3 := by rw [Heap.size_push, z2]
  have z4 : (zipBH4 k1 k2 s.heap l1 l2).objs.size = s.heap.objs.size + 4 := by rw [Heap.size_push, z3]
  have z5 : (zipBH5 k1 k2 s.heap l1 l2).objs.size = s.heap.objs.size + 5 := by rw [Heap.size_push, z4]
  have g5 : (zipBH5 k1 k2 s.heap l1 l2).get? (zipBH4 k1 k2 s.heap l1 l2).objs.size = some _ := Heap.get?_push_size _ rfl
  have g4 : (zipBH5 k1 k2 s.heap l1 l2).get? (zipBH3 k1 k2 s.heap l1 l2).objs.size = some _ := Heap.get?_push_of_some _ (Heap.get?_push_size _ rfl)
  have g3 : (zipBH5 k1 k2 s.heap l1 l2).get? (zipBH2 k1 k2 s.heap l1 l2).objs.size = some _ := Heap.get?_push_of_some _ (Heap.get?_push_of_some _ (Heap.get?_push_size _ rfl))
  have g2 : (zipBH5 k1 k2 s.heap l1 l2).get? (zipBH1 k1 s.heap l1).objs.size = some _ := Heap.get?_push_of_some _ (Heap.get?_push_of_some _ (Heap.get?_push_of_some _ (Heap.get?_push_size _ rfl)))
  have g1 : (zipBH5 k1 k2 s.heap l1 l2).get? s.heap.objs.size = some _ := Heap.get?_push_of_some _ (Heap.get?_push_of_some _ (Heap.get?_push_of_some _ (Heap.get?_push_of_some _ (Heap.get?_push_size _ rfl))))
  show _ ∧ _
  rw [z2, z3, z4] at g5
  rw [z1, z2] at g3
  rw [z3] at g4
  rw [z1] at g2
  rw [z4]
  exact ⟨⟨_, g5, rfl⟩, h _ g5 g3 g4 (itB_new g1) (itB_new g2) z5 fun c o x =>
    Heap.get?_push_of_some _ (Heap.get?_push_of_some _ (Heap.get?_push_of_some _ (Heap.get?_push_of_some _ (Heap.get?_push_of_some _ x))))⟩
end
def iZipB (K : PySem.W.Frag) (ta : TA) : TI := fun σ H R => ta σ H fun vs H1 => ∃ a b k1 k2 xs ys, vs = [.ref a, .ref b] ∧ SqB K H1 k1 a xs ∧ SqB K H1 k2 b ys ∧ R (ItB K k1 k2 a b) H1
theorem pi_zipB {X : Cx} {e e2 : Expr} {ta : TA} {p pos tpos : Pos} {elts : List Expr} {kk : Nat} (hg : Gl X "zip") (hm : X.mg "zip" = none) (ha : PA X [e, e2] ta)
    (hs : starEach [e, e2] X.env = (false, eval e X.env) :: starEach [e2] X.env := by rfl) (hpl : (backTo pos (starEach [e2] X.env)).any (·.1) = false := by rfl) :
    PI X (.Tuple elts kk tpos) (.Call (.Name "zip" p) [e, e2] [] pos) (iZipB X.K ta) := by
  refine ⟨fun pins s σ H R I h => ?_⟩
  refine Call_ (ld_blt I hg hm PyProof.Rows.boot_zip (PyProof.Rows.callWith_type1 (thn (ha.run pos pins s σ H _ I h) fun us s1 ⟨vs, H1, I1, r1, q1⟩ => ?_) hs hpl))
  obtain ⟨a, b, k1, k2, xs, ys, ex, hqx, hqy, q⟩ := q1
  subst ex
  cases r1 with
  | cons r rr =>
    cases rr with
    | cons r' rr =>
      cases rr
      cases r
      cases r'
      obtain ⟨its, rv, p1, la⟩ := sqB_inv I1 hqx
      obtain ⟨its2, rv2, p2, lb⟩ := sqB_inv I1 hqy
      refine call_zipB p1 p2 fun h' hz hTI hTO h1 h2 hsz hk => wpAny_pyIter_zip hz ?_
      have I2 : Inv X pins σ H1 { s1 with heap := h' } := I1.kept (t' := s1.toks) hk
      refine ⟨s1.heap.objs.size + 4, [s1.heap.objs.size + 4, s1.heap.objs.size + 2, s1.heap.objs.size + 3, s1.heap.objs.size, s1.heap.objs.size + 1], _, _, H1, rfl, I2, turn_zipB (PySem.W.ktu_apart s1.heap.objs.size a b la lb), ⟨hz, hTI, ⟨_, _, hTO⟩, h1, h2⟩, fun c hcm => ?_, q⟩
      have e' : c = s1.heap.objs.size + 4 ∨ c = s1.heap.objs.size + 2 ∨ c = s1.heap.objs.size + 3 ∨ c = s1.heap.objs.size ∨ c = s1.heap.objs.size + 1 := by simpa using hcm
      have hle : s1.heap.objs.size ≤ c := by
        rcases e' with z | z | z | z | z
        · rw [z]; exact Nat.le_add_right _ _
        · rw [z]; exact Nat.le_add_right _ _
        · rw [z]; exact Nat.le_add_right _ _
        · rw [z]; exact Nat.le_refl _
        · rw [z]; exact Nat.le_add_right _ _
      exact I1.fpOk hle (I1.hok.fresh hle)
end Rw

set_option Elab.async false
set_option linter.all false
set_option maxRecDepth 100000
set_option maxHeartbeats 4000000
/-! TkL: lists and tuples as data, comprehensions that make data of data. -/
namespace Rw
open PySem PySem.Spec PyProof.Rows L2

/-! ### lists and tuples as data -/
def isSeqD : PyData → Bool
  | .list _ => true | .tuple _ => true | _ => false
def itemsD : PyData → List PyData
  | .list ds => ds | .tuple ds => ds | _ => []
def isVecD (n : Int) (d : PyData) : Bool := isSeqD d && (decide (((itemsD d).length : Int) = n) && (itemsD d).all isIntD)
def isMatD (h w : Int) (d : PyData) : Bool := isSeqD d && (decide (((itemsD d).length : Int) = h) && (itemsD d).all (isVecD w))
/-- not too long, the ints not too great -/
structure Fit1 (d : PyData) : Prop where
  len : (itemsD d).length ≤ 1000
  sm : ∀ n, PyData.int n ∈ itemsD d → n.natAbs.log2 < 400
structure Fit (d : PyData) : Prop where
  top : Fit1 d
  sub : ∀ e, e ∈ itemsD d → Fit1 e
section
variable {K : PySem.W.Frag} {H H' : Hp} {v : V} {d : PyData} {xs : List V} {ds : List PyData}
theorem kit_seq (d : PyData) : PySem.W.kitAny K (.type (kindS d)) [.type "list", .type "tuple"] = some (isSeqD d) := by
  have z : PySem.W.kitAny K (.type (kindS d)) [] = some false := rfl
  have l0 : ∀ a, kitB a "list" = some false → kitB a "tuple" = some false → PySem.W.kitAny K (.type a) [.type "list", .type "tuple"] = some false := fun a p q =>
    kitAny_cons (b := false) (kit_ty p) (fun _ => kitAny_cons (b := false) (kit_ty q) (fun _ => z) (fun e => by cases e)) (fun e => by cases e)
  cases d with
  | none => exact l0 "NoneType" (by decide +kernel) (by decide +kernel)
  | bool b => exact l0 "bool" (by decide +kernel) (by decide +kernel)
  | int b => exact l0 "int" (by decide +kernel) (by decide +kernel)
  | str b => exact l0 "str" (by decide +kernel) (by decide +kernel)
  | dict b => exact l0 "dict" (by decide +kernel) (by decide +kernel)
  | list b => exact kitAny_cons (b := true) (kit_ty (show kitB "list" "list" = some true by decide +kernel)) (fun e => by cases e) (fun _ => rfl)
  | tuple b => exact kitAny_cons (b := false) (kit_ty (show kitB "tuple" "list" = some false by decide +kernel)) (fun _ => kitAny_cons (b := true) (kit_ty (show kitB "tuple" "tuple" = some true by decide +kernel)) (fun e => by cases e) (fun _ => rfl)) (fun e => by cases e)
theorem anyL_len : ∀ {xs : List V} {ds : List PyData}, AnyL H xs ds → xs.length = ds.length
  | _, _, .nil => rfl
  | _, _, .cons _ b => congrArg (· + 1) (anyL_len b)
theorem anyL_at : ∀ {xs : List V} {ds : List PyData} {i : Nat} {x : V}, AnyL H xs ds → xs[i]? = some x → ∃ d, ds[i]? = some d ∧ Any H x d
  | _, _, i, x, .nil, h => by simp at h
  | _, _, 0, x, .cons a _, h => by
    cases h
    exact ⟨_, rfl, a⟩
  | _, _, i + 1, x, .cons _ b, h => by
    obtain ⟨d, h1, h2⟩ := anyL_at (i := i) b (by simpa using h)
    exact ⟨d, by simpa using h1, h2⟩
theorem anyL_of : ∀ {xs : List V} {ds : List PyData} {i : Nat} {d : PyData}, AnyL H xs ds → ds[i]? = some d → ∃ x, xs[i]? = some x ∧ Any H x d
  | _, _, i, x, .nil, h => by simp at h
  | _, _, 0, x, .cons a _, h => by
    cases h
    exact ⟨_, rfl, a⟩
  | _, _, i + 1, x, .cons _ b, h => by
    obtain ⟨d, h1, h2⟩ := anyL_of (i := i) b (by simpa using h)
    exact ⟨d, by simpa using h1, h2⟩
theorem anyL_keep (k : Same H H') (h : AnyL H xs ds) : AnyL H' xs ds := any_keepL k ds xs h
theorem anyL_snoc : ∀ {xs : List V} {ds : List PyData} {x : V} {d : PyData}, AnyL H xs ds → Any H x d → AnyL H (xs ++ [x]) (ds ++ [d])
  | _, _, _, _, .nil, b => .cons b .nil
  | _, _, _, _, .cons a r, b => .cons a (anyL_snoc r b)
theorem anyL_ints : ∀ {ns : List Int} {xs : List V}, AnyL H xs (ns.map .int) → xs = ns.map V.int
  | [], _, h => by
    cases h
    rfl
  | n :: ns, _, h => by
    cases h with
    | cons a b =>
      cases a
      rw [anyL_ints b] <;> rfl
theorem anyL_bools : ∀ {ns : List Bool} {xs : List V}, AnyL H xs (ns.map .bool) → xs = ns.map V.bl
  | [], _, h => by
    cases h
    rfl
  | n :: ns, _, h => by
    cases h with
    | cons a b =>
      cases a
      rw [anyL_bools b] <;> rfl
theorem anyL_flags {g : PyData → Bool} {ds : List PyData} {xs : List V} (h : AnyL H xs (ds.map fun d => PyData.bool (g d))) : xs = (ds.map g).map V.bl := by
  refine anyL_bools (H := H) ?_
  rw [List.map_map]
  exact h
theorem ints_anyL : ∀ (ns : List Int), AnyL H (ns.map V.int) (ns.map .int)
  | [] => .nil
  | n :: ns => .cons (.int n) (ints_anyL ns)
/-- data that is a list or a tuple, with its items -/
theorem seq_of (h : Any H v d) (e : isSeqD d = true) : ∃ (k : Bool) (a : Addr) (xs : List V), v = .ref a ∧ (∀ {H' : Hp}, Same H H' → ∀ K, SqB K H' k a xs) ∧ AnyL H xs (itemsD d) := by
  cases h with
  | lst ea ha => exact ⟨true, _, _, rfl, fun k K => SqL.of (k _ _ ea), ha⟩
  | tup ea ha => exact ⟨false, _, _, rfl, fun k K => SqT.of (k _ _ ea), ha⟩
  | _ => cases e
theorem SqB.or {k : Bool} {a : Addr} (h : SqB K H k a xs) : SqL K H a xs ∨ SqT K H a xs := by
  cases k with
  | true => exact .inl h
  | false => exact .inr h
theorem vec_ints : ∀ {ds : List PyData}, ds.all isIntD = true → ∃ ns : List Int, ds = ns.map .int
  | [], _ => ⟨[], rfl⟩
  | d :: ds, h => by
    simp only [List.all_cons, Bool.and_eq_true] at h
    obtain ⟨ns, e⟩ := vec_ints h.2
    cases d with
    | int n => exact ⟨n :: ns, by rw [e] <;> rfl⟩
    | _ => cases h.1
end

/-! ### walks -/
def ItS (K : PySem.W.Frag) : Bool → Addr → It
  | true, a => Itl K a
  | false, a => Itt K a
def iSeq (K : PySem.W.Frag) (tl : TE) : TI := fun σ H R => tl σ H fun x H1 => ∃ a k xs, x = .ref a ∧ SqB K H1 k a xs ∧ R (ItS K k a) H1
theorem pi_seq {X : Cx} {tg l : Expr} {tl : TE} (hl : PE X l tl) : PI X tg l (iSeq X.K tl) := by
  refine ⟨fun pins s σ H R I h => ?_⟩
  refine thn (hl.run pins s σ H _ I h) fun v s1 ⟨x, H1, I1, r1, q1⟩ => ?_
  obtain ⟨a, k, xs, e, hq, q⟩ := q1
  subst e
  cases r1
  cases k with
  | true =>
    obtain ⟨its, rv, p, hz⟩ := I1.list hq
    refine wpAny_pyIter_list p.isList ?_
    refine ⟨s1.heap.objs.size, [s1.heap.objs.size], _, _, H1, rfl, I1.kept (t' := s1.toks) fun b o e => Heap.get?_push_of_some _ e, turn_list a _, ⟨_, Heap.get?_push_size _ rfl, rfl, rfl⟩, fun b hb => ?_, q⟩
    have e : b = s1.heap.objs.size := by simpa using hb
    subst e
    exact I1.fpOk (Nat.le_refl _) (I1.hok.fresh (Nat.le_refl _))
  | false =>
    obtain ⟨its, rv, p, hz⟩ := I1.tuple hq
    refine wpAny_pyIter_tuple (show s1.heap.IsTuple a its.toArray from p) ?_
    refine ⟨s1.heap.objs.size, [s1.heap.objs.size], _, _, H1, rfl, I1.kept (t' := s1.toks) fun b o e => Heap.get?_push_of_some _ e, turn_tuple a _, ⟨_, Heap.get?_push_size _ rfl, rfl, rfl⟩, fun b hb => ?_, q⟩
    have e : b = s1.heap.objs.size := by simpa using hb
    subst e
    exact I1.fpOk (Nat.le_refl _) (I1.hok.fresh (Nat.le_refl _))
section
variable {K : PySem.W.Frag} {k : Bool} {a : Addr} {xs : List V}
theorem walk_seq : Walk (ItS K k a) xs.length (fun H => SqB K H k a xs) (fun i H x H' => H' = H ∧ xs[i]? = some x) := by
  cases k with
  | true => exact walk_list
  | false => exact walk_tup
theorem walk_rng {n : Nat} : Walk (Itr 0 n) n (fun _ => True) (fun i H x H' => H' = H ∧ x = .int (i : Int)) :=
  walk_range.mono (fun _ z => z) fun i H x H' _ _ y => ⟨y.1, by
    have e := y.2
    simpa using e⟩
theorem walk_zipB {k1 k2 : Bool} {a b : Addr} {xs ys : List V} {n : Nat} (h1 : xs.length = n) (h2 : ys.length = n) : Walk (ItB K k1 k2 a b) n (fun H => SqB K H k1 a xs ∧ SqB K H k2 b ys) (YPair (fun i => xs[i]?) (fun i => ys[i]?)) := by
  refine ⟨fun i H hi q => ?_, fun H q => ⟨xs, ys, q.1, q.2, by omega, by omega, .inl h1⟩, fun i H v H' _ q y => ?_⟩
  · have g1 : i < xs.length := by omega
    have g2 : i < ys.length := by omega
    exact ⟨xs, ys, xs[i], ys[i], q.1, q.2, by simp [g1], by simp [g2]⟩
  · obtain ⟨T, x, z, h1, h2, h3, h4, h5⟩ := y
    exact ⟨T, x, z, h1, h2, h3, h4 xs q.1, h5 ys q.2⟩
end
theorem del_upd {H : Hp} {D : Addr} {o : HO} : del (upd H D o) D = del H D := by
  funext c
  by_cases e : c = D
  · rw [e, del_same, del_same]
  · rw [del_ne e, del_ne e, upd_ne e]
/-- new data of each turn, nothing else changed -/
theorem lc_same {J : It} {n : Nat} {G : Hp → Prop} {P : Nat → V → Prop} (w : Walk J n G (fun i H x H' => H' = H ∧ P i x)) {j : Nat} {σ : L2.St} {vs : List Nat} {te : TE} {H1 : Hp} {D : Addr} {Q : Hp → Prop} (hn : n ≤ 1000) (hD : H1 D = none) (hG : ∀ H, Same H1 H → G H) (f : Nat → PyData)
    (hs : ∀ i x H, i < n → P i x → Same H1 H → (∃ o, H D = some o) → wipe ((wipe σ vs).set j (some x)) vs = wipe σ vs ∧ ∀ k : VK, (∀ y H', Same H H' → Any (del H' D) y (f i) → k y H') → te ((wipe σ vs).set j (some x)) H k)
    (hq : ∀ H acc, Same H1 H → H D = some (.lst acc) → AnyL (del H D) acc ((List.range n).map f) → Q H) :
    ∃ W : Nat → Nat → Hp → Prop, (∃ m, W 0 m (upd H1 D (.lst []))) ∧ ∀ i m H, W i m H →
      (J.stop i H ∧ Q H) ∨ (J.go i H ∧ ∃ Nx : Hp → Prop, (∀ H', Nx H' → ∃ m', m' < m ∧ W (i + 1) m' H') ∧ ∀ x H', J.yld i H x H' → gName j x (wipe σ vs) H' fun σ2 H2 => wipe σ2 vs = wipe σ vs ∧ tYes σ2 H2 fun b H3 =>
        if b = true then te σ2 H3 fun y H4 => ∃ acc, H4 D = some (.lst acc) ∧ acc.length < sizeLine ∧ Nx (upd H4 D (.lst (acc ++ [y]))) else Nx H3) := by
  refine lc_it w (Qd := Q) (Pv := fun i H => Same H1 H ∧ ∃ acc, H D = some (.lst acc) ∧ acc.length = i ∧ AnyL (del H D) acc ((List.range i).map f)) ⟨same_new hD, [], upd_same, rfl, .nil⟩ (fun i H _ h => hG H h.1) ?_ ?_
  · rintro i x H H' hi ⟨s1, acc, ha, hl, an⟩ ⟨rfl, hp⟩
    obtain ⟨e1, e2⟩ := hs i x H' hi hp s1 ⟨_, ha⟩
    refine ⟨e1, ?_⟩
    show te _ _ _
    refine e2 _ fun y H4 s2 hy => ?_
    refine ⟨acc, s2 _ _ ha, Nat.lt_of_lt_of_le (by omega : acc.length < 1000) (by decide), ?_, acc ++ [y], upd_same, by rw [List.length_append, hl] <;> rfl, ?_⟩
    · intro b o e
      have ne : b ≠ D := ne_of_none e hD
      rw [upd_ne ne]
      exact s2 _ _ (s1 _ _ e)
    · rw [del_upd, List.range_succ, List.map_append]
      exact anyL_snoc (anyL_keep (Grow.del (Grow.of s2)) an) hy
  · rintro H ⟨s1, acc, ha, hl, an⟩
    exact hq H acc s1 ha an
theorem map_get {α β : Type} (g : α → β) (dd : α) : ∀ l : List α, (List.range l.length).map (fun i => g (l[i]?.getD dd)) = l.map g := by
  intro l
  apply List.ext_getElem
  · simp
  · intro i h1 h2
    simp at h1 h2
    simp [h1]
end Rw

set_option Elab.async false
set_option linter.all false
set_option maxRecDepth 100000
set_option maxHeartbeats 4000000
/-! TkQ: enumerate of a list or a tuple. -/
namespace Rw
open PySem PySem.Spec PyProof.Rows L2

set_option maxHeartbeats 1000000 in
theorem meets_enum_new1 {v : Value} {o : Obj} {H : Heap → Prop} (B : Begins v o H) :
    Meets (Builtin.«enumerate.__new__» ⟨[.type "enumerate", v], []⟩) (fun _ R s => H s.heap ∧
      R (.ok (.ret (.ref (s.heap.push o).objs.size))) { s with heap := (s.heap.push o).push { cls := .type "enumerate", data := .fields #[.none, .bool false, .ref s.heap.objs.size, rawInt 0, .none, .none] } }) :=
  .of_wp fun prog w A R s h => by
    obtain ⟨hp, g, d, tk, os⟩ := s; obtain ⟨h1, h⟩ := h
    have hsub := sub_enumerate
    have q1 : ∀ {A' : Around} {E : Value → Shared → Prop} {Q : Value → Shared → Prop}, Q (.ref hp.objs.size) ⟨hp.push o, g, d, tk, os⟩ → wpAny (model prog w) A' (pyIter v) Q E ⟨hp, g, d, tk, os⟩ :=
      fun q => B.iter prog w _ _ ⟨hp, g, d, tk, os⟩ _ h1 q
    wp_walk using q1
    refine wpAny_stack_any fun st => wpAny_pure ?_
    split
    · rename_i c _ _ _ _ _
      cases (c == Value.type "enumerate")
      · wp_walk using q1
        exact ⟨_, rfl, h⟩
      · wp_walk using q1
        exact ⟨_, rfl, h⟩
    · wp_walk using q1
      exact ⟨_, rfl, h⟩
section
variable {prog : Program} {w : World} {A : Around} {E : Value → Shared → Prop} {s : Shared}
theorem call_enum1 {v : Value} {o : Obj} {H : Heap → Prop} {Q : Value → Shared → Prop} (B : Begins v o H) (h1 : H s.heap)
    (h : ∀ h', IsEnum h' (s.heap.objs.size + 1) s.heap.objs.size 0 .none → h'.get? s.heap.objs.size = some o → h'.objs.size = s.heap.objs.size + 2 →
      (∀ b o, s.heap.get? b = some o → h'.get? b = some o) → Q (.ref (s.heap.objs.size + 1)) { s with heap := h' }) :
    wpAny (model prog w) A (call (.type "enumerate") [v]) Q E s := by
  refine callType_new F.called_enumerate (by decide) (F.typeCall_enumerate_1 _) (F.newCall_enumerate_1 _) (fun obj => F.args_object_init_2 obj _) F.entry_enumerate_new
    (meets_enum_new1 B) ⟨h1, ?_⟩
  have hz : (s.heap.push o).objs.size = s.heap.objs.size + 1 := Heap.size_push ..
  show _ ∧ _
  rw [hz]
  have he : IsEnum ((s.heap.push o).push { cls := .type "enumerate", data := .fields #[.none, .bool false, .ref s.heap.objs.size, rawInt 0, .none, .none] }) (s.heap.objs.size + 1) s.heap.objs.size 0 .none := by
    have := Heap.get?_push_size (s.heap.push o) (o := { cls := .type "enumerate", data := .fields #[.none, .bool false, .ref s.heap.objs.size, rawInt 0, .none, .none] }) rfl
    rw [hz] at this; exact this
  refine ⟨⟨_, he, rfl⟩, h _ he (Heap.get?_push_of_some _ (Heap.get?_push_size _ B.free)) (by rw [Heap.size_push, hz]) fun b o x => Heap.get?_push_of_some _ (Heap.get?_push_of_some _ x)⟩
end
def itObjB (k : Bool) (a : Addr) : Obj := { cls := .type (nmB k), data := .fields #[.ref a, .int 0 0] }
theorem begins_B (k : Bool) (a : Addr) (items : Array Value) : Begins (.ref a) (itObjB k a) fun h => sqB h k a items := by
  cases k with
  | true => exact begins_list a items
  | false => exact begins_tuple a items

/-- the list or tuple at a as it stands at each turn, each item in a new pair -/
def ItEB (K : PySem.W.Frag) (k : Bool) (a : Addr) : It :=
  ⟨fun i H => ∃ (xs : List V) (x : V), SqB K H k a xs ∧ xs[i]? = some x, fun i H v H' => ∃ T x, v = .ref T ∧ H T = none ∧ H' = upd H T (.tup [.int (i : Nat), x]) ∧ ∀ xs, SqB K H k a xs → xs[i]? = some x, fun i H => ∃ xs : List V, SqB K H k a xs ∧ xs.length = i⟩
theorem turn_enumB {P : Program} {w : World} {K : PySem.W.Frag} {k : Bool} {elts : List Expr} {kk : Nat} {tpos : Pos} (a e it : Addr) :
    Turn P w K (.Tuple elts kk tpos) (ItEB K k a) [e, it] e (fun i h => (∃ old, IsEnum h e it ((i : Nat) : Int) old) ∧ itB h k it a i ∧ e ≠ it ∧ a ≠ it ∧ e ≠ a) where
  mem := by simp
  obj := fun i h st b hb => by
    obtain ⟨⟨old, he⟩, hi, _⟩ := st
    have e' : b = e ∨ b = it := by simpa using hb
    rcases e' with z | z
    · rw [z]; exact ⟨_, he, fun v q => nomatch q⟩
    · rw [z]; exact itB_obj hi
  keep := fun i h h' st k => let ⟨⟨old, he⟩, hi, hne⟩ := st; ⟨⟨old, k e (by simp) _ he⟩, itB_at hi fun o q => k it (by simp) o q, hne⟩
  item := by
    intro X hP hw hK hc i pins s σ H E I hf st hg
    subst hP hw hK
    obtain ⟨⟨old, he⟩, hit, hne, hna, hea⟩ := st
    obtain ⟨xs, x, hq, hx⟩ := hg
    obtain ⟨its, rv, p, _⟩ := sqB_inv I hq
    obtain ⟨u, hu, ru⟩ := rv.get hx
    have hel : e < s.heap.objs.size := Heap.lt_size he
    have hil : it < s.heap.objs.size := by obtain ⟨_, q, _⟩ := itB_obj hit; exact Heap.lt_size q
    have hd : X.A.in1.handled = none := I.ok.hd hc
    have g1 : i < its.toArray.size := by
      have := (List.getElem?_eq_some_iff.mp hu).1
      simpa using this
    have hef : e ∉ [it, a] := by simp; exact ⟨hne, hea⟩
    refine wpAny_pyNext_enum_itemD (drawsB hd k it a hna its.toArray) he ⟨hit, p⟩ g1 hne hef fun x1 h' tk e1 ho hs' hT hsz hk => ?_
    have hx1 : x1 = u := by
      have q : its[i]? = some x1 := by simpa using e1
      rw [hu] at q
      exact (Option.some.inj q).symm
    subst hx1
    refine ⟨_, rfl, wpAny_letOwnedTupleGo_enum (s := { s with heap := h', toks := tk + 1 }) ho fun h'' he' sb => ?_⟩
    have hT2 : h''.get? s.heap.objs.size = some { cls := .type "tuple", data := .seq #[.int i tk, x1] } := (sb.2 _ (Nat.ne_of_gt hel)).trans hT
    have new : ObjOk X.prog X.w (upd H s.heap.objs.size (.tup [.int (i : Nat), x])) h'' s.heap.objs.size (.tup [.int (i : Nat), x]) :=
      ⟨by show 2 ≤ sizeLine; decide, [.int i tk, x1], .cons ⟨_, rfl⟩ (.cons ru .nil), ⟨_, hT2, rfl, _, rfl⟩⟩
    have I1 : Inv X pins σ (upd H s.heap.objs.size (.tup [.int (i : Nat), x])) { s with heap := h'', toks := tk + 1 } :=
      I.turnedNew (t' := tk + 1) (ch := [e, it]) (fun b ob hb q => (sb.2 b (fun z => hb (by simp [z]))).trans (hk b ob (fun z => hb (by simp [z])) (fun z => hb (by simp [z])) q)) hf (Nat.le_refl _) new
    refine ⟨.ref s.heap.objs.size, _, I1, rfl, ⟨_, x, rfl, I.hok.fresh (Nat.le_refl _), rfl, fun ys hy => by rw [sqB_inj I hy hq]; exact hx⟩, ⟨⟨x1, ?_⟩, itB_at hs'.1 fun o q => (sb.2 it (Ne.symm hne)).trans q, hne, hna, hea⟩, fun b hb => ?_⟩
    · have e1 : ((i + 1 : Nat) : Int) = (i : Int) + 1 := by omega
      rw [e1]; exact he'
    · have hb' : b < s.heap.objs.size := by
        have e' : b = e ∨ b = it := by simpa using hb
        rcases e' with z | z
        · rw [z]; exact hel
        · rw [z]; exact hil
      rw [upd_ne (Nat.ne_of_lt hb')]
      exact (hf b hb).1
  done := by
    intro X hP hw hK hc i pins s σ H E I hf st hg
    subst hP hw hK
    obtain ⟨⟨old, he⟩, hit, hne, hna, hea⟩ := st
    obtain ⟨xs, hq, hx⟩ := hg
    obtain ⟨its, rv, p, _⟩ := sqB_inv I hq
    obtain ⟨f0, f1, f2, f3, f4, f5⟩ := hf it (by simp)
    have hl := rv.length
    have hd : X.A.in1.handled = none := I.ok.hd hc
    have z1 : its.toArray.size = its.length := by simp
    have e1 : its.toArray.size = i := by omega
    refine wpAny_pyNext_enum_endD (drawsB hd k it a hna its.toArray) he (by rw [e1]; exact ⟨hit, p⟩) fun h' eb => ⟨rfl, I.turned (t' := s.toks) (fun b o hb q => eb b o hb q) f0 f1 f3 f4 f5⟩
  self := fun A i s Q E st h => let ⟨⟨_, he⟩, _⟩ := st; wpAny_pyIter_enum he h
def iEnumB (K : PySem.W.Frag) (ta : TA) : TI := fun σ H R => ta σ H fun vs H1 => ∃ a k xs, vs = [.ref a] ∧ SqB K H1 k a xs ∧ R (ItEB K k a) H1
theorem pi_enumB {X : Cx} {e : Expr} {ta : TA} {p pos tpos : Pos} {elts : List Expr} {kk : Nat} (hg : Gl X "enumerate") (hm : X.mg "enumerate" = none) (ha : PA X [e] ta) (hs : starEach [e] X.env = [(false, eval e X.env)] := by rfl) :
    PI X (.Tuple elts kk tpos) (.Call (.Name "enumerate" p) [e] [] pos) (iEnumB X.K ta) := by
  refine ⟨fun pins s σ H R I h => ?_⟩
  refine Call_ (ld_blt I hg hm boot_enumerate (PyProof.Rows.callWith_type1 (thn (ha.run pos pins s σ H _ I h) fun us s1 ⟨vs, H1, I1, r1, q1⟩ => ?_) hs rfl))
  obtain ⟨a, k, xs, ex, hq, q⟩ := q1
  subst ex
  cases r1 with
  | cons r rr =>
    cases rr
    cases r
    obtain ⟨its, rv, p', la⟩ := sqB_inv I1 hq
    refine call_enum1 (begins_B k a its.toArray) p' fun h' he hit hsz hk => wpAny_pyIter_enum he ?_
    have I2 : Inv X pins σ H1 { s1 with heap := h' } := I1.kept (t' := s1.toks) hk
    refine ⟨s1.heap.objs.size + 1, [s1.heap.objs.size + 1, s1.heap.objs.size], _, _, H1, rfl, I2, turn_enumB a (s1.heap.objs.size + 1) s1.heap.objs.size, ⟨⟨.none, he⟩, itB_new hit, Nat.succ_ne_self _, Nat.ne_of_lt la, fun z => Nat.lt_irrefl a (Nat.lt_of_lt_of_le la (Nat.le_trans (Nat.le_succ _) (Nat.le_of_eq z)))⟩, fun b hb => ?_, q⟩
    have e' : b = s1.heap.objs.size + 1 ∨ b = s1.heap.objs.size := by simpa using hb
    have hle : s1.heap.objs.size ≤ b := by
      rcases e' with z | z
      · rw [z]; exact Nat.le_add_right _ _
      · rw [z]; exact Nat.le_refl _
    exact I1.fpOk hle (I1.hok.fresh hle)
theorem walk_enumB {K : PySem.W.Frag} {k : Bool} {a : Addr} {xs : List V} : Walk (ItEB K k a) xs.length (fun H => SqB K H k a xs) (YPair (fun i => some (.int (i : Nat))) (fun i => xs[i]?)) := by
  refine ⟨fun i _ hi q => ⟨xs, xs[i], q, by simp [hi]⟩, fun _ q => ⟨xs, q, rfl⟩, fun i H v H' _ q y => ?_⟩
  obtain ⟨T, x, h1, h2, h3, h4⟩ := y
  exact ⟨T, .int (i : Nat), x, h1, h2, h3, rfl, h4 xs q⟩
end Rw

set_option Elab.async false
set_option linter.all false
set_option maxRecDepth 100000
set_option maxHeartbeats 4000000
/-! TkS: written dicts with int keys and with text keys: `in`, `d[k]`. -/
namespace Rw
open PySem PySem.Spec PyProof.Rows L2

inductive IntTab : List DictEntry → List (Int × Value) → Prop
  | nil : IntTab [] []
  | cons {e : DictEntry} {es : List DictEntry} {i : Int} {t : Tok} {v : Value} {kvs : List (Int × Value)} : e.key = .int i t → e.hash = hashInt i → e.val = v → IntTab es kvs → IntTab (e :: es) ((i, v) :: kvs)
inductive TxtTab (P : Params) : List DictEntry → List (Str × Value) → Prop
  | nil : TxtTab P [] []
  | cons {e : DictEntry} {es : List DictEntry} {x : Str} {t : Tok} {v : Value} {kvs : List (Str × Value)} : e.key = .str x t → e.hash = PyData.keyHash P x → e.val = v → TxtTab P es kvs → TxtTab P (e :: es) ((x, v) :: kvs)
def lookI (kvs : List (Int × Value)) (i : Int) : Option Value := (kvs.find? fun q => q.1 == i).map (·.2)
def lookS (kvs : List (Str × Value)) (x : Str) : Option Value := (kvs.find? fun q => q.1 == x).map (·.2)
theorem IntTab.find {es : List DictEntry} {kvs : List (Int × Value)} (T : IntTab es kvs) (i : Int) : findBy Value.isInt es.toArray i = lookI kvs i := by
  unfold findBy lookI
  rw [List.find?_toArray]
  induction T with
  | nil => rfl
  | cons k h v r ih =>
    rename_i e es j t u kvs
    rw [List.find?_cons, List.find?_cons]
    have e1 : Value.isInt i e.key = (j == i) := by rw [k] <;> rfl
    rw [e1]
    cases j == i with
    | true => simp [v]
    | false => exact ih
theorem TxtTab.find {P : Params} {es : List DictEntry} {kvs : List (Str × Value)} (T : TxtTab P es kvs) (x : Str) : findBy Value.isStrOf es.toArray x = lookS kvs x := by
  unfold findBy lookS
  rw [List.find?_toArray]
  induction T with
  | nil => rfl
  | cons k h v r ih =>
    rename_i e es y t u kvs
    rw [List.find?_cons, List.find?_cons]
    have e1 : Value.isStrOf x e.key = (y == x) := by rw [k] <;> rfl
    rw [e1]
    cases y == x with
    | true => simp [v]
    | false => exact ih
theorem IntTab.keys {es : List DictEntry} {kvs : List (Int × Value)} (T : IntTab es kvs) : ∀ e ∈ es, ∃ i t, e.key = .int i t ∧ e.hash = hashInt i := by
  induction T with
  | nil => intro e h; cases h
  | cons k h v r ih =>
    intro e he
    rcases List.mem_cons.mp he with z | z
    · rw [z]; exact ⟨_, _, k, h⟩
    · exact ih e z
theorem TxtTab.keys {P : Params} {es : List DictEntry} {kvs : List (Str × Value)} (T : TxtTab P es kvs) : ∀ e ∈ es, ∃ x t, e.key = .str x t ∧ e.hash = PyData.keyHash P x := by
  induction T with
  | nil => intro e h; cases h
  | cons k h v r ih =>
    intro e he
    rcases List.mem_cons.mp he with z | z
    · rw [z]; exact ⟨_, _, k, h⟩
    · exact ih e z
/-- at d: a written dict with int keys -/
structure TabI (K : PySem.W.Frag) (d : Addr) (kvs : List (Int × Value)) : Prop where
  at_ : ∃ (l : List DictEntry) (n : Nat), K.lookup d = some ⟨.type "dict", none, .dict l.toArray n, #[]⟩ ∧ IntTab l kvs
  low : (d == sysModules) = false
structure TabS (K : PySem.W.Frag) (w : World) (d : Addr) (kvs : List (Str × Value)) : Prop where
  at_ : ∃ (l : List DictEntry) (n : Nat), K.lookup d = some ⟨.type "dict", none, .dict l.toArray n, #[]⟩ ∧ TxtTab w.params l kvs
  low : (d == sysModules) = false
section
variable {X : Cx} {d : Addr} {pins : List (Addr × Obj)} {σ : L2.St} {H : Hp} {s : Shared}
theorem tabI_map {kvs : List (Int × Value)} (T : TabI X.K d kvs) (I : Inv X pins σ H s) : s.heap.MapOf (PySem.intKind X.prog X.w) d (lookI kvs) := by
  obtain ⟨l, n, hl, t⟩ := T.at_
  refine ⟨_, l.toArray, n, I.kIn _ _ hl, ⟨rfl, rfl, rfl⟩, rfl, fun e he => ?_, fun k => t.find k⟩
  obtain ⟨i, tk, e1, e2⟩ := t.keys e (by simpa using he)
  exact ⟨i, by rw [e1]; exact PySem.intKind_is X.prog X.w i tk, e2⟩
theorem tabS_map {kvs : List (Str × Value)} (T : TabS X.K X.w d kvs) (I : Inv X pins σ H s) : s.heap.MapOf (PySem.strKind X.prog X.w) d (lookS kvs) := by
  obtain ⟨l, n, hl, t⟩ := T.at_
  refine ⟨_, l.toArray, n, I.kIn _ _ hl, ⟨rfl, rfl, rfl⟩, rfl, fun e he => ?_, fun k => t.find k⟩
  obtain ⟨i, tk, e1, e2⟩ := t.keys e (by simpa using he)
  exact ⟨i, by rw [e1]; exact PySem.strKind_is X.prog X.w i tk, e2⟩
theorem op_in_ti {kvs : List (Int × Value)} (T : TabI X.K d kvs) : OpR X (compareOp .In) (fun x y H Q => ∃ i, x = .int i ∧ y = .ref d ∧ Q (.bl (lookI kvs i).isSome) H) := by
  intro pins s σ H x y v u Q I rx ry h
  obtain ⟨i, rfl, rfl, q⟩ := h
  obtain ⟨t, rfl⟩ := rx
  cases ry
  exact wpAny_in_of (PySem.intKind_is X.prog X.w i t) T.low (tabI_map T I) ⟨.bl _, H, I.tok _, rfl, q⟩
theorem op_in_ts {kvs : List (Str × Value)} (T : TabS X.K X.w d kvs) : OpR X (compareOp .In) (fun x y H Q => ∃ z, x = .str z ∧ y = .ref d ∧ Q (.bl (lookS kvs z).isSome) H) := by
  intro pins s σ H x y v u Q I rx ry h
  obtain ⟨z, rfl, rfl, q⟩ := h
  obtain ⟨t, rfl⟩ := rx
  cases ry
  exact wpAny_in_of (PySem.strKind_is X.prog X.w z t) T.low (tabS_map T I) ⟨.bl _, H, I.tok _, rfl, q⟩
theorem ix_ti {kvs : List (Int × Value)} (T : TabI X.K d kvs) : IxR X (fun x y H Q => ∃ i u v, x = .ref d ∧ y = .int i ∧ lookI kvs i = some u ∧ RelV v u ∧ Q v H) := by
  intro value slice pins s σ H x y v u Q I rx ry h hs
  obtain ⟨i, u0, r, rfl, rfl, e, ru, q⟩ := h
  obtain rfl : v = Value.ref d := rx
  obtain ⟨t, rfl⟩ := ry
  have hm := tabI_map T I
  exact tail_any hm.typeIs slot_dict_getitem.lookup (wpAny_getItem_of (PySem.intKind_is X.prog X.w i t) hm e ⟨r, H, I.tok _, ru, q⟩) hs
theorem ix_ts {kvs : List (Str × Value)} (T : TabS X.K X.w d kvs) : IxR X (fun x y H Q => ∃ z u v, x = .ref d ∧ y = .str z ∧ lookS kvs z = some u ∧ RelV v u ∧ Q v H) := by
  intro value slice pins s σ H x y v u Q I rx ry h hs
  obtain ⟨z, u0, r, rfl, rfl, e, ru, q⟩ := h
  obtain rfl : v = Value.ref d := rx
  obtain ⟨t, rfl⟩ := ry
  have hm := tabS_map T I
  exact tail_any hm.typeIs slot_dict_getitem.lookup (wpAny_getItem_of (PySem.strKind_is X.prog X.w z t) hm e ⟨r, H, I.tok _, ru, q⟩) hs
end
/-! the tables of this program -/
theorem prime_tab {us : List Value} {v1 v2 v3 v4 v5 v6 : Value} (i : Int) : (lookI [(2, v1), (3, v2), (5, v3), (7, v4), (11, v5), (13, v6)] i).isSome = decide (i ∈ primesL) := by
  unfold lookI primesL
  by_cases h : i ∈ ([2, 3, 5, 7, 11, 13] : List Int)
  · rw [decide_eq_true h]
    simp only [List.mem_cons, List.not_mem_nil, or_false] at h
    rcases h with e | e | e | e | e | e <;> subst e <;> rfl
  · rw [decide_eq_false h]
    simp only [List.mem_cons, List.not_mem_nil, or_false, not_or] at h
    obtain ⟨a, b, c, d, e, f⟩ := h
    have z : ∀ j : Int, ¬ i = j → (j == i) = false := fun j q => by simp; exact fun y => q y.symm
    simp [List.find?, z 2 a, z 3 b, z 5 c, z 7 d, z 11 e, z 13 f]
def isArr (c : Nat) : Bool := c == 62 || c == 60
theorem arr_tab {v1 v2 : Value} (c : Nat) : (lookS [(">", v1), ("<", v2)] ⟨#[c]⟩).isSome = isArr c := by
  unfold lookS isArr
  by_cases h1 : c = 62
  · subst h1; rfl
  · by_cases h2 : c = 60
    · subst h2; rfl
    · have z1 : ((">" : Str) == (⟨#[c]⟩ : Str)) = false := by
        refine beq_eq_false_iff_ne.mpr fun e => h1 ?_
        have := congrArg (fun x : Str => x.cps[0]?) e
        exact (Option.some.inj this).symm
      have z2 : (("<" : Str) == (⟨#[c]⟩ : Str)) = false := by
        refine beq_eq_false_iff_ne.mpr fun e => h2 ?_
        have := congrArg (fun x : Str => x.cps[0]?) e
        exact (Option.some.inj this).symm
      simp [List.find?, z1, z2, h1, h2]
end Rw

set_option Elab.async false
set_option linter.all false
set_option maxRecDepth 100000
set_option maxHeartbeats 4000000
/-! TkM: boxes, new data, what a law looks at. -/
namespace Rw
open PySem PySem.Spec PyProof.Rows L2
/-- any int of the script, or a number of the law's own -/
def spCellR (K : PySem.W.Frag) : Sp := fun vs H Q _ => ∃ (a : Addr) (ns : List Int) (j : Nat), vs = [.ref a, .int (j : Int)] ∧ SqL K H a (ns.map V.int) ∧ j < 1000 ∧ ∀ z : Int, Q (.int z) H
/-- at p a box that was drawn from at most n times -/
def Bx (H : Hp) (p : Addr) (n : Nat) : Prop := ∃ a b c : Int, H p = some (.lst [.int a, .int b, .int c]) ∧ 0 ≤ a ∧ 0 ≤ b ∧ b < 2147483629 ∧ 0 ≤ c ∧ c ≤ (n : Int)
theorem Bx.more {H : Hp} {p : Addr} {n m : Nat} (h : Bx H p n) (l : n ≤ m) : Bx H p m := by
  obtain ⟨a, b, c, h1, h2, h3, h4, h5, h6⟩ := h
  exact ⟨a, b, c, h1, h2, h3, h4, h5, by omega⟩
theorem Bx.keep {H H' : Hp} {p : Addr} {n : Nat} (h : Bx H p n) (k : Same H H') : Bx H' p n := by
  obtain ⟨a, b, c, h1, r⟩ := h
  exact ⟨a, b, c, k _ _ h1, r⟩
theorem Bx.ne {H : Hp} {p q : Addr} {n : Nat} (h : Bx H p n) (hq : H q = none) : p ≠ q := by
  obtain ⟨a, b, c, h1, _⟩ := h
  exact ne_of_none h1 hq
def spBoxR : Sp := fun vs H Q _ => ∃ z : Int, vs = [.int z] ∧ ∀ p H', H p = none → Same H H' → Bx H' p 0 → Q (.ref p) H'
def spTakeR : Sp := fun vs H Q _ => ∃ (p : Addr) (m : Int) (n : Nat), vs = [.ref p, .int m] ∧ 0 < m ∧ m < 2 ^ 200 ∧ Bx H p n ∧ n ≤ 1000000 ∧ ∀ r H', 0 ≤ r → r < m → Grow p H H' → Bx H' p (n + 1) → Q (.int r) H'
theorem fdiv_nonneg' {a m : Int} (h : 0 ≤ a) (hm : 0 < m) : 0 ≤ a / m := Int.ediv_nonneg h (by omega)
/-- the odd things, as data -/
def oddL : List PyData := [.none, .bool true, .bool false, .str "1", .str "", .tuple [], .list [], .tuple [.int 1], .list [.int 0], .dict [], .dict [(.str "a", .int 1)], .int (-1), .int (10 ^ Int.toNat 29), .int (-(10 ^ Int.toNat 29)), .tuple [.tuple [.int 1]], .str "><"]
theorem AnyL.get {H : Hp} : ∀ {vs : List V} {ds : List PyData}, AnyL H vs ds → ∀ i, i < ds.length → ∃ v d, vs[i]? = some v ∧ d ∈ ds ∧ Any H v d
  | _, _, .nil, i, h => absurd h (Nat.not_lt_zero i)
  | _, _, .cons a _, 0, _ => ⟨_, _, rfl, List.mem_cons_self, a⟩
  | _, _, .cons _ b, i + 1, h => by
    obtain ⟨v, d, h1, h2, h3⟩ := AnyL.get b i (Nat.lt_of_succ_lt_succ h)
    exact ⟨v, d, h1, List.mem_cons_of_mem _ h2, h3⟩
/-- what is new in H' -/
def nw (H H' : Hp) : Hp := fun a => if H a = none then H' a else none
theorem nw_put {H H' : Hp} {q : Addr} {o : HO} (h : H q = none) : nw H (upd H' q o) q = some o := by
  show (if H q = none then (upd H' q o) q else none) = _
  rw [if_pos h, upd_same]
theorem nw_same {H H1 H2 : Hp} (k : Same H1 H2) : Same (nw H H1) (nw H H2) := fun b o e => by
  have e' : (if H b = none then H1 b else none) = some o := e
  show (if H b = none then H2 b else none) = some o
  by_cases z : H b = none
  · rw [if_pos z] at e' ⊢
    exact k _ _ e'
  · rw [if_neg z] at e'
    cases e'
theorem nw_grow {H H1 H2 : Hp} {p : Addr} {o : HO} (hp : H p = some o) (k : Grow p H1 H2) : Same (nw H H1) (nw H H2) := fun b u e => by
  have e' : (if H b = none then H1 b else none) = some u := e
  show (if H b = none then H2 b else none) = some u
  by_cases z : H b = none
  · rw [if_pos z] at e' ⊢
    exact k _ _ (fun y => by rw [y, hp] at z; cases z) e'
  · rw [if_neg z] at e'
    cases e'
theorem nw_sub {H H' : Hp} : Same (nw H H') H' := fun b o e => by
  have e' : (if H b = none then H' b else none) = some o := e
  by_cases z : H b = none
  · rw [if_pos z] at e'
    exact e'
  · rw [if_neg z] at e'
    cases e'
theorem nw_del {H H' : Hp} {p : Addr} {o : HO} (hp : H p = some o) : Same (nw H H') (del H' p) := fun b u e => by
  have e' : (if H b = none then H' b else none) = some u := e
  by_cases z : H b = none
  · rw [if_pos z] at e'
    have ne : b ≠ p := fun y => by rw [y, hp] at z; cases z
    rw [del_ne ne]
    exact e'
  · rw [if_neg z] at e'
    cases e'
/-- some odd thing, all new -/
def spOddN : Sp := fun vs H Q _ => ∃ (p : Addr) (n : Nat), vs = [.ref p] ∧ Bx H p n ∧ n ≤ 1000000 ∧ ∀ v d H', d ∈ oddL → Any (nw H H') v d → Grow p H H' → Bx H' p (n + 1) → Q v H'
def spWholeR : Sp := fun vs H Q _ => ∃ v d, vs = [v] ∧ Any H v d ∧ Q (.bl (isIntD d)) H
/-! ### a list held against [] -/
def rNilE : R2 := fun x y H Q => ∃ a b xs, x = .ref a ∧ y = .ref b ∧ H a = some (.lst xs) ∧ H b = some (.lst []) ∧ Q (.bl xs.isEmpty) H
theorem op_eq_nil {X : Cx} (hu : X.A.units < cLine) : OpR X (compareOp .Eq) rNilE := by
  intro pins s σ H x y v u Q I rx ry h
  obtain ⟨a, b, xs, rfl, rfl, ea, eb, q⟩ := h
  obtain rfl : v = Value.ref a := rx
  obtain rfl : u = Value.ref b := ry
  obtain ⟨its, ra, pa, _⟩ := I.list (SqL.of ea)
  obtain ⟨its2, rb, pb, _⟩ := I.list (SqL.of eb)
  cases rb
  have ln := ra.length
  cases xs with
  | nil =>
    cases ra
    exact SeqAt.eq_listAt (e := fun _ => true) pa.isList pb.isList rfl hu (fun j h1 h2 => absurd h1 (Nat.not_lt_zero j)) ⟨.bl true, H, I, rfl, q⟩
  | cons z zs =>
    refine SeqAt.eq_list_lengthsAt pa.isList pb.isList ?_ hu ⟨.bl false, H, I, rfl, q⟩
    simp
    intro e
    rw [e] at ln
    cases ln
/-- some of the items, by a test of each; what is asked is whether there are any -/
theorem lc_filter {J : It} {n : Nat} {G : Hp → Prop} {P : Nat → V → Prop} (w : Walk J n G (fun i H x H' => H' = H ∧ P i x)) {j : Nat} {σ : L2.St} {vs : List Nat} {tt : TT} {te : TE} {H1 : Hp} {D : Addr} {Q : Hp → Prop} (hn : n ≤ 1000) (hD : H1 D = none) (hG : ∀ H, Same H1 H → G H) (f : Nat → Bool)
    (hs : ∀ i x H, i < n → P i x → Same H1 H → wipe ((wipe σ vs).set j (some x)) vs = wipe σ vs ∧ (∀ k : Bool → Hp → Prop, (∀ H', Same H H' → k (f i) H') → tt ((wipe σ vs).set j (some x)) H k) ∧ ∀ (k : VK) (H' : Hp), k x H' → te ((wipe σ vs).set j (some x)) H' k)
    (hq : ∀ H acc, Same H1 H → H D = some (.lst acc) → acc.isEmpty = (List.range n).all (fun i => !f i) → Q H) :
    ∃ W : Nat → Nat → Hp → Prop, (∃ m, W 0 m (upd H1 D (.lst []))) ∧ ∀ i m H, W i m H →
      (J.stop i H ∧ Q H) ∨ (J.go i H ∧ ∃ Nx : Hp → Prop, (∀ H', Nx H' → ∃ m', m' < m ∧ W (i + 1) m' H') ∧ ∀ x H', J.yld i H x H' → gName j x (wipe σ vs) H' fun σ2 H2 => wipe σ2 vs = wipe σ vs ∧ tt σ2 H2 fun b H3 =>
        if b = true then te σ2 H3 fun y H4 => ∃ acc, H4 D = some (.lst acc) ∧ acc.length < sizeLine ∧ Nx (upd H4 D (.lst (acc ++ [y]))) else Nx H3) := by
  refine lc_it w (Qd := Q) (Pv := fun i H => Same H1 H ∧ ∃ acc, H D = some (.lst acc) ∧ acc.length ≤ i ∧ acc.isEmpty = (List.range i).all (fun i => !f i)) ⟨same_new hD, [], upd_same, Nat.le_refl _, rfl⟩ (fun i H _ h => hG H h.1) ?_ ?_
  · rintro i x H H' hi ⟨s1, acc, ha, hl, ea⟩ ⟨rfl, hp⟩
    obtain ⟨e1, e2, e3⟩ := hs i x H' hi hp s1
    refine ⟨e1, e2 _ fun H4 s2 => ?_⟩
    cases fi : f i with
    | true =>
      refine iteT (e3 _ _ ⟨acc, s2 _ _ ha, Nat.lt_of_lt_of_le (by omega : acc.length < 1000) (by decide), ?_, acc ++ [x], upd_same, by rw [List.length_append]; exact Nat.succ_le_succ hl, ?_⟩)
      · intro b o e
        have ne : b ≠ D := ne_of_none e hD
        rw [upd_ne ne]
        exact s2 _ _ (s1 _ _ e)
      · rw [List.range_succ, List.all_append]
        simp [fi]
    | false =>
      refine iteF ⟨s1.trans s2, acc, s2 _ _ ha, by omega, ?_⟩
      rw [ea, List.range_succ, List.all_append]
      simp [fi]
  · rintro H ⟨s1, acc, ha, hl, ea⟩
    exact hq H acc s1 ha ea
theorem all_get {α : Type} (g : α → Bool) (dd : α) (l : List α) : (List.range l.length).all (fun i => g (l[i]?.getD dd)) = l.all g := by
  have e := congrArg (fun z : List Bool => z.all id) (map_get g dd l)
  simpa [List.all_map, Function.comp_def] using e
/-- None or an int -/
def oV : Option Int → V
  | none => .non | some n => .int n
def spRowR : Sp := fun vs H Q _ => ∃ v d wo, vs = [v, oV wo] ∧ Any H v d ∧ (itemsD d).length ≤ 1000 ∧ ∀ H', Same H H' → Q (.bl (isVecD (wo.getD (itemsD d).length) d)) H'
def spSheetR : Sp := fun vs H Q _ => ∃ v d ho w, vs = [v, oV ho, .int w] ∧ Any H v d ∧ Fit d ∧ ∀ H', Same H H' → Q (.bl (isMatD (ho.getD (itemsD d).length) w d)) H'
end Rw

set_option Elab.async false
set_option linter.all false
set_option maxRecDepth 100000
set_option maxHeartbeats 4000000
/-! TkT: rows as data: patterns, sizes, matrices; the promises of the program's defs about them. -/
namespace Rw
open PySem PySem.Spec PyProof.Rows L2

def intN : PyData → Int
  | .int n => n | _ => 0
def isPatD : PyData → Bool
  | .str x => decide (x.length ≤ 6) && x.cps.toList.all isArr
  | _ => false
def aboveD (n : Int) : PyData → Bool
  | .int l => decide (l ≤ n)
  | _ => true
def belowD (n : Int) : PyData → Bool
  | .int l => decide (n ≤ l)
  | _ => true
def inB : PyData → PyData → PyData → Bool
  | .int n, l, h => aboveD n l && belowD n h
  | _, _, _ => false
def isSzD (d : PyData) : Bool := inB d (.int 0) (.int 6)
def sizesOk (k : Nat) (d : PyData) : Bool := isSeqD d && (decide ((itemsD d).length = k + 1) && (itemsD d).all isSzD)
def mapsOk (k : Nat) (d : PyData) : Bool := isSeqD d && decide ((itemsD d).length = k)
def atD (d : PyData) (i : Nat) : PyData := (itemsD d)[i]?.getD .none
def isR (x : Str) (i : Nat) : Bool := x.cps.toList[i]? == some 62
def stA (x : Str) (i : Nat) : Nat := if isR x i then i else i + 1
def goA (x : Str) (i : Nat) : Nat := if isR x i then i + 1 else i
def szL (d : PyData) (i : Nat) : Int := intN (atD d i)
def matOk (x : Str) (ds dm : PyData) (i : Nat) : Bool := isMatD (szL ds (stA x i)) (szL ds (goA x i)) (atD dm i)
def badAt (x : Str) (ds dm : PyData) : Option Nat := (List.range x.length).find? fun i => !matOk x ds dm i
/-- the items modulo p -/
def modD (p : Int) : PyData → PyData
  | .int n => .int (n.fmod p) | d => d
def rowsM (p : Int) (m : PyData) : List PyData := (itemsD m).map fun r => .tuple ((itemsD r).map (modD p))
structure FitM (d : PyData) : Prop where
  len : (itemsD d).length ≤ 1000
  sub : ∀ e, e ∈ itemsD d → Fit e
theorem atD_fit {d : PyData} (f : FitM d) {i : Nat} (h : i < (itemsD d).length) : Fit (atD d i) := by
  unfold atD
  rw [List.getElem?_eq_getElem h]
  exact f.sub _ (List.getElem_mem h)
/-- a row: an instance of the class at C -/
def RowAt (C : Addr) (H : Hp) (a : Addr) (x : Str) (p : Int) (ss : List PyData) (mm : List (List PyData)) : Prop :=
  ∃ dx ts tm, H a = some (.ins C dx [("_pattern", .str x), ("_prime", .int p), ("_sizes", .ref ts), ("_maps", .ref tm)]) ∧ Any H (.ref ts) (.tuple ss) ∧ Any H (.ref tm) (.tuple (mm.map .tuple))
theorem RowAt.keep {C a : Addr} {H H' : Hp} {x : Str} {p : Int} {ss : List PyData} {mm : List (List PyData)} (r : RowAt C H a x p ss mm) (k : Same H H') : RowAt C H' a x p ss mm := by
  obtain ⟨dx, ts, tm, h1, h2, h3⟩ := r
  exact ⟨dx, ts, tm, k _ _ h1, h2.keep k, h3.keep k⟩

/-! ### the promises -/
def spNum : Sp := fun vs H Q _ => ∃ v d, vs = [v] ∧ Any H v d ∧ Q (.bl (isIntD d)) H
def spInt : Sp := fun vs H Q _ => ∃ v l h d dl dh, vs = [v, l, h] ∧ Any H v d ∧ Any H l dl ∧ Any H h dh ∧ Q (.bl (inB d dl dh)) H
def spPrime : Sp := fun vs H Q _ => ∃ v d, vs = [v] ∧ Any H v d ∧ Q (.bl (isPr d)) H
def spCheck (CP : Addr) : Sp := fun vs H Q E => ∃ v d, vs = [v] ∧ Any H v d ∧ (isPr d = true → Q .non H) ∧ (isPr d = false → Thrown CP v H E)
def spList : Sp := fun vs H Q _ => ∃ v d, vs = [v] ∧ Any H v d ∧ ∀ H', Same H H' → Q (.bl (isSeqD d)) H'
def spVec : Sp := fun vs H Q _ => ∃ v d n, vs = [v, .int n] ∧ Any H v d ∧ (itemsD d).length ≤ 1000 ∧ ∀ H', Same H H' → Q (.bl (isVecD n d)) H'
def spMat : Sp := fun vs H Q _ => ∃ v d h w, vs = [v, .int h, .int w] ∧ Any H v d ∧ Fit d ∧ ∀ H', Same H H' → Q (.bl (isMatD h w d)) H'
theorem seq_flag {v : V} {H : Hp} {d : PyData} (h : Any H v d) : (isSeqD d = true ∧ ∃ (k : Bool) (a : Addr) (xs : List V), v = .ref a ∧ (∀ {H' : Hp}, Same H H' → ∀ K, SqB K H' k a xs) ∧ AnyL H xs (itemsD d)) ∨ isSeqD d = false := by
  cases e : isSeqD d with
  | true => exact .inl ⟨rfl, seq_of h e⟩
  | false => exact .inr rfl
theorem Thrown.mono {C : Addr} {v : V} {H H1 : Hp} {E : XK} (h : Thrown C v H E) (k : Same H H1) : Thrown C v H1 E := fun d H' s hd hx => h d H' (k.trans s) (k.free hd) hx
/-- texts that are asked are no longer than a line -/
def Short (d : PyData) : Prop := ∀ x, d = .str x → x.length ≤ 1000
def spPat : Sp := fun vs H Q _ => ∃ v d, vs = [v] ∧ Any H v d ∧ Short d ∧ ∀ H', Same H H' → Q (.bl (isPatD d)) H'
def spCPat (CT : Addr) : Sp := fun vs H Q E => ∃ v d, vs = [v] ∧ Any H v d ∧ Short d ∧ (isPatD d = true → ∀ H', Same H H' → Q .non H') ∧ (isPatD d = false → Thrown CT v H E)
def spCSz (CZ : Addr) : Sp := fun vs H Q E => ∃ x v d, vs = [.str x, v] ∧ x.length ≤ 6 ∧ Any H v d ∧ (itemsD d).length ≤ 1000 ∧ (sizesOk x.length d = true → ∀ H', Same H H' → Q .non H') ∧ (sizesOk x.length d = false → Thrown CZ v H E)
def spWay : Sp := fun vs H Q _ => ∃ (x : Str) (i : Nat), vs = [.str x, .int (i : Int)] ∧ i < x.length ∧ x.length ≤ 6 ∧ ∀ t H', H t = none → Same H H' → H' t = some (.tup [.int (stA x i : Nat), .int (goA x i : Nat)]) → Q (.ref t) H'
def spCMaps (CA CM : Addr) : Sp := fun vs H Q E => ∃ x va vm ds dm, vs = [.str x, va, vm] ∧ x.length ≤ 6 ∧ Any H va ds ∧ sizesOk x.length ds = true ∧ Any H vm dm ∧ FitM dm ∧
  (mapsOk x.length dm = false → Thrown CA vm H E) ∧ (mapsOk x.length dm = true → (∀ i v H1, badAt x ds dm = some i → Same H H1 → Any H1 v (atD dm i) → Thrown CM v H1 E) ∧ (badAt x ds dm = none → ∀ H', Same H H' → Q .non H'))
/-- what Row(pattern, prime, sizes, maps) asks and tells -/
structure RowIn (H : Hp) (vp vq va vm : V) (dp dq ds dm : PyData) : Prop where
  ap : Any H vp dp
  aq : Any H vq dq
  as : Any H va ds
  am : Any H vm dm
  sp : Short dp
  ls : (itemsD ds).length ≤ 1000
  fm : FitM dm
structure RowErr (CT CP CZ CA CM : Addr) (H : Hp) (E : XK) (vp vq va vm : V) (dp dq ds dm : PyData) : Prop where
  pat : isPatD dp = false → Thrown CT vp H E
  pri : isPatD dp = true → isPr dq = false → Thrown CP vq H E
  siz : ∀ x, dp = .str x → isPatD dp = true → isPr dq = true → sizesOk x.length ds = false → Thrown CZ va H E
  map : ∀ x, dp = .str x → isPatD dp = true → isPr dq = true → sizesOk x.length ds = true → mapsOk x.length dm = false → Thrown CA vm H E
  mat : ∀ x i v H1, dp = .str x → isPatD dp = true → isPr dq = true → sizesOk x.length ds = true → mapsOk x.length dm = true → badAt x ds dm = some i → Same H H1 → Any H1 v (atD dm i) → Thrown CM v H1 E
def rowGood (x : Str) (p : Int) (ds dm : PyData) : Bool := isPatD (.str x) && (isPr (.int p) && (sizesOk x.length ds && (mapsOk x.length dm && (badAt x ds dm).isNone)))
def spIniR (C CT CP CZ CA CM : Addr) : Sp := fun vs H Q E => ∃ a dx vp vq va vm dp dq ds dm, vs = [.ref a, vp, vq, va, vm] ∧ H a = some (.ins C dx []) ∧ RowIn H vp vq va vm dp dq ds dm ∧ RowErr CT CP CZ CA CM H E vp vq va vm dp dq ds dm ∧
  ∀ x p H', dp = .str x → dq = .int p → rowGood x p ds dm = true → Grow a H H' → RowAt C H' a x p (itemsD ds) ((itemsD dm).map (rowsM p)) → Q .non H'
/-- the same of the call Row(..) -/
def tRowMk (C CT CP CZ CA CM : Addr) (H : Hp) (vs : List V) (Q : VK) (E : XK) : Prop := ∃ vp vq va vm dp dq ds dm, vs = [vp, vq, va, vm] ∧ RowIn H vp vq va vm dp dq ds dm ∧ RowErr CT CP CZ CA CM H E vp vq va vm dp dq ds dm ∧
  ∀ x p a H', dp = .str x → dq = .int p → rowGood x p ds dm = true → H a = none → Same H H' → RowAt C H' a x p (itemsD ds) ((itemsD dm).map (rowsM p)) → Q (.ref a) H'
theorem row_make {C CT CP CZ CA CM : Addr} {H : Hp} {vs : List V} {Q : VK} {E : XK} (h : tRowMk C CT CP CZ CA CM H vs Q E) : ∀ x dx, H x = none → H dx = none → dx ≠ x →
    spIniR C CT CP CZ CA CM (.ref x :: (vs ++ [])) (upd (upd H dx (.own x)) x (.ins C dx [])) (fun v H2 => v = .non ∧ Q (.ref x) H2) E := by
  obtain ⟨vp, vq, va, vm, dp, dq, ds, dm, rfl, i, e, q⟩ := h
  intro x dx hx hd ne
  have k1 : Same H (upd H dx (.own x)) := same_new hd
  have h2 : (upd H dx (.own x)) x = none := by rw [upd_ne ne.symm]; exact hx
  have k : Same H (upd (upd H dx (.own x)) x (.ins C dx [])) := k1.trans (same_new h2)
  refine ⟨x, dx, vp, vq, va, vm, dp, dq, ds, dm, rfl, upd_same, ⟨i.ap.keep k, i.aq.keep k, i.as.keep k, i.am.keep k, i.sp, i.ls, i.fm⟩, ⟨fun z => (e.pat z).mono k, fun z y => (e.pri z y).mono k, fun a b c d f => (e.siz a b c d f).mono k, fun a b c d f g => (e.map a b c d f g).mono k, fun y j v H1 h1 h2 h3 h4 h5 h6 h7 h8 => e.mat y j v H1 h1 h2 h3 h4 h5 h6 (k.trans h7) h8⟩, ?_⟩
  · intro y p H' e1 e2 g gr ra
    refine ⟨rfl, q y p x H' e1 e2 g hx (fun b o eb => ?_) ra⟩
    have nb : b ≠ x := ne_of_none eb hx
    exact gr b o nb (k _ _ eb)
end Rw

set_option Elab.async false
set_option linter.all false
set_option maxRecDepth 100000
set_option maxHeartbeats 4000000
/-! K11A: the program's looks at numbers, vectors, matrices, patterns. -/
namespace K11
open PySem PySem.Spec PyProof.Rows L2 Rw
def top (i : Nat) : Stmt := PySem.Challenge.pw_maprows_k11_rows_refused.main.body.getD i (.Pass ⟨0, 0, 0, 0⟩)
abbrev sNum : Stmt := top 13
abbrev sInt : Stmt := top 14
abbrev sPrime : Stmt := top 15
abbrev sCheck : Stmt := top 16
abbrev sList : Stmt := top 17
abbrev sVec : Stmt := top 18
abbrev sMat : Stmt := top 19
abbrev sPat : Stmt := top 23
abbrev sCPat : Stmt := top 24
abbrev sCSz : Stmt := top 26
abbrev sWay : Stmt := top 29
theorem scNum : FnScope ["value"] ["value"] (defScope sNum) := ⟨rfl, rfl, rfl, by decide +kernel, rfl, by decide +kernel, by decide +kernel⟩
theorem scInt : FnScope ["value", "low", "high"] ["value", "low", "high"] (defScope sInt) := ⟨rfl, rfl, rfl, by decide +kernel, rfl, by decide +kernel, by decide +kernel⟩
theorem scPrime : FnScope ["value"] ["value"] (defScope sPrime) := ⟨rfl, rfl, rfl, by decide +kernel, rfl, by decide +kernel, by decide +kernel⟩
theorem scCheck : FnScope ["prime"] ["prime"] (defScope sCheck) := ⟨rfl, rfl, rfl, by decide +kernel, rfl, by decide +kernel, by decide +kernel⟩
theorem scList : FnScope ["value"] ["value"] (defScope sList) := ⟨rfl, rfl, rfl, by decide +kernel, rfl, by decide +kernel, by decide +kernel⟩
theorem scVec : FnScope ["value", "length", "item"] ["value", "length"] (defScope sVec) := ⟨rfl, rfl, rfl, by decide +kernel, rfl, by decide +kernel, by decide +kernel⟩
theorem scMat : FnScope ["value", "height", "width", "row"] ["value", "height", "width"] (defScope sMat) := ⟨rfl, rfl, rfl, by decide +kernel, rfl, by decide +kernel, by decide +kernel⟩
theorem scPat : FnScope ["value", "arrow"] ["value"] (defScope sPat) := ⟨rfl, rfl, rfl, by decide +kernel, rfl, by decide +kernel, by decide +kernel⟩
theorem scCPat : FnScope ["pattern"] ["pattern"] (defScope sCPat) := ⟨rfl, rfl, rfl, by decide +kernel, rfl, by decide +kernel, by decide +kernel⟩
theorem scCSz : FnScope ["pattern", "sizes", "size"] ["pattern", "sizes"] (defScope sCSz) := ⟨rfl, rfl, rfl, by decide +kernel, rfl, by decide +kernel, by decide +kernel⟩
theorem scWay : FnScope ["pattern", "index"] ["pattern", "index"] (defScope sWay) := ⟨rfl, rfl, rfl, by decide +kernel, rfl, by decide +kernel, by decide +kernel⟩

/-- what the top has left for the program's defs -/
structure Txt (K : PySem.W.Frag) (w : World) (mg : Str → Option Value) (aI aT CP CT CZ CA CM CL : Addr) (kI : List (Int × Value)) (kT : List (Str × Value)) : Prop where
  isi : mg "isinstance" = none
  int : mg "int" = none
  bool : mg "bool" = none
  str : mg "str" = none
  list : mg "list" = none
  tuple : mg "tuple" = none
  len : mg "len" = none
  all : mg "all" = none
  range : mg "range" = none
  enum : mg "enumerate" = none
  gI : mg "INVERSES" = some (.ref aI)
  tI : TabI K aI kI
  hI : ∀ i, (lookI kI i).isSome = decide (i ∈ primesL)
  gT : mg "TURNED" = some (.ref aT)
  tT : TabS K w aT kT
  hT : ∀ c, (lookS kT ⟨#[c]⟩).isSome = isArr c
  gM : ∃ t, mg "MOST" = some (.int 6 t)
  eP : Err K mg "InvalidPrime" CP
  eT : Err K mg "InvalidPattern" CT
  eZ : Err K mg "InvalidSizes" CZ
  eA : Err K mg "InvalidMaps" CA
  eM : Err K mg "InvalidMatrix" CM
  eL : Err K mg "InvalidPlace" CL
section
variable {P : Program} {w : World} {K : PySem.W.Frag} {mg : Str → Option Value} {base : Heap} {aI aT CP CT CZ CA CM CL : Addr} {kI : List (Int × Value)} {kT : List (Str × Value)}
theorem okNum {f : Addr} {fd : FuncData} (F : Fun K "is_number" "is_number" sNum f fd) (T : Txt K w mg aI aT CP CT CZ CA CM CL kI kT) : FnOk P w K mg base CX0 1 f fd ["value"] spNum := by
  refine F.ok scNum (fun vs H Q E h => ?_) (fun cdv A outer s H vs Q E hr h => ?_)
  · obtain ⟨v, d, rfl, _⟩ := h
    rfl
  · obtain ⟨v, d, rfl, an, q⟩ := h
    refine ⟨_, (pss_one (ps_ret (pe_and (pe_callB call_isi (by rfl) T.isi (by decide +kernel) (pa_cons (pv 0) (pa_cons (pe_bltn (v := .ty "int") rfl T.int boot_int rfl) pa_nil))) (pe_one (pe_not (pe_callB call_isi (by rfl) T.isi (by decide +kernel) (pa_cons (pv 0) (pa_cons (pe_bltn (v := .ty "bool") rfl T.bool (by decide +kernel) rfl) pa_nil)))))))), ?_⟩
    refine ⟨v, rfl, v, .ty "int", _, _, _, rfl, .ty _, any_ty an, kit_int d, _, rfl, ?_⟩
    cases an with
    | bl b => exact iteT ⟨_, rfl, _, .ty "bool", _, _, _, rfl, .ty _, any_ty (.bl b), kit_bool (.bool b), _, rfl, q⟩
    | int i => exact iteT ⟨_, rfl, _, .ty "bool", _, _, _, rfl, .ty _, any_ty (.int i), kit_bool (.int i), _, rfl, q⟩
    | _ => exact iteF q
theorem okInt {f : Addr} {fd : FuncData} (F : FunD K "is_integer" "is_integer" (defArgs sInt) (defBody sInt) (defScope sInt) [.non, .non] [] f fd) (GN : Own P w K mg base CX0 1 "is_number" ["value"] [] spNum) :
    FnOk P w K mg base CX0 2 f fd ["value", "low", "high"] spInt := by
  refine F.ok scInt (fun vs H Q E h => ?_) (fun cdv A outer s H vs Q E hr h => ?_)
  · obtain ⟨v, l, h, d, dl, dh, rfl, _⟩ := h
    rfl
  · obtain ⟨v, l, h, d, dl, dh, rfl, an, al, ah, q⟩ := h
    refine ⟨_, (pss_cons (ps_if (pt_not (pt_val (pe_own GN hr pass0 (pa_cons (pv 0) pa_nil)))) (pss_one (ps_ret pe_bl)) pss_nil)
      (pss_cons (ps_if (PW.pt (pw_and (pt_val (pe_own GN hr pass0 (pa_cons (pv 1) pa_nil))) (pw_and1 (pt_cmpR op_lt (pv 0) (pv 1) (nomark _))))) (pss_one (ps_ret pe_bl)) pss_nil)
      (pss_one (ps_ret (pe_not (pe_and (pe_own GN hr pass0 (pa_cons (pv 2) pa_nil)) (pe_one (pe_cmpR op_gt (pv 0) (pv 2) (nomark _))))))))), ?_⟩
    refine ⟨_, rfl, _, d, rfl, an, _, rfl, ?_⟩
    cases ed : isIntD d with
    | false =>
      refine iteT ?_
      have e : inB d dl dh = false := by cases d <;> first | rfl | cases ed
      rw [e] at q
      exact q
    | true =>
      obtain ⟨n, rfl, rfl⟩ := int_of an ed
      refine iteF ⟨_, rfl, _, dl, rfl, al, _, rfl, ?_⟩
      have last : aboveD n dl = true → tRet (tNotV (tAndV (tCall spNum [] E0 (tCons (tVar 2) tNil)) (tOp (rI0 fun i j => .bl (decide (j < i))) (tVar 0) (tVar 2)))) { nx := fun _ H' => Q .non H', rt := Q } (start ["value", "low", "high"] [.int n, l, h]) H := by
        intro ea
        refine ⟨_, rfl, _, dh, rfl, ah, _, rfl, ?_⟩
        cases eh : isIntD dh with
        | false =>
          refine iteF ⟨_, rfl, ?_⟩
          have e : inB (.int n) dl dh = true := by
            show (aboveD n dl && belowD n dh) = true
            rw [ea]
            cases dh <;> first | rfl | cases eh
          rw [e] at q
          exact q
        | true =>
          obtain ⟨m, rfl, rfl⟩ := int_of ah eh
          refine iteT ⟨_, rfl, _, rfl, _, _, rfl, rfl, _, rfl, ?_⟩
          have e : inB (.int n) dl (.int m) = !decide (m < n) := by
            show (aboveD n dl && decide (n ≤ m)) = _
            rw [ea]
            by_cases z : m < n
            · rw [decide_eq_true z, decide_eq_false (by omega)] <;> rfl
            · rw [decide_eq_false z, decide_eq_true (by omega)] <;> rfl
          rw [e] at q
          exact q
      cases el : isIntD dl with
      | false =>
        refine iteF (iteF (last ?_))
        cases dl <;> first | rfl | cases el
      | true =>
        obtain ⟨m, rfl, rfl⟩ := int_of al el
        refine iteT ⟨_, rfl, _, rfl, _, _, rfl, rfl, _, rfl, ?_⟩
        refine ite2 (fun z => ?_) (fun z => last ?_)
        · have e : inB (.int n) (.int m) dh = false := by
            show (decide (m ≤ n) && belowD n dh) = false
            have z2 := of_decide_eq_true z
            rw [decide_eq_false (by omega)] <;> rfl
          rw [e] at q
          exact q
        · have z2 : ¬ n < m := fun y => z (decide_eq_true y)
          exact decide_eq_true (by omega)
theorem okPrime {f : Addr} {fd : FuncData} (F : Fun K "is_prime" "is_prime" sPrime f fd) (T : Txt K w mg aI aT CP CT CZ CA CM CL kI kT) (GN : Own P w K mg base CX0 1 "is_number" ["value"] [] spNum) : FnOk P w K mg base CX0 2 f fd ["value"] spPrime := by
  refine F.ok scPrime (fun vs H Q E h => ?_) (fun cdv A outer s H vs Q E hr h => ?_)
  · obtain ⟨v, d, rfl, _⟩ := h
    rfl
  · obtain ⟨v, d, rfl, an, q⟩ := h
    refine ⟨_, (pss_one (ps_ret (pe_and (pe_own GN hr pass0 (pa_cons (pv 0) pa_nil)) (pe_one (pe_cmpR (op_in_ti T.tI) (pv 0) (pe_glob (v := .ref aI) rfl T.gI rfl) (by rfl)))))), ?_⟩
    refine ⟨_, rfl, _, d, rfl, an, _, rfl, ?_⟩
    cases ed : isIntD d with
    | false =>
      refine iteF ?_
      have e : isPr d = false := by cases d <;> first | rfl | cases ed
      rw [e] at q
      exact q
    | true =>
      obtain ⟨n, rfl, rfl⟩ := int_of an ed
      refine iteT ⟨_, rfl, n, rfl, rfl, ?_⟩
      rw [T.hI]
      exact q
theorem okCheck {f : Addr} {fd : FuncData} (F : Fun K "check_prime" "check_prime" sCheck f fd) (T : Txt K w mg aI aT CP CT CZ CA CM CL kI kT) (GP : Own P w K mg base CX0 2 "is_prime" ["value"] [] spPrime) : FnOk P w K mg base (L2.CX P w) 4 f fd ["prime"] (spCheck CP) := by
  refine F.okX scCheck (fun vs H Q E h => ?_) (fun cdv A outer s H vs Q E hr h => ?_)
  · obtain ⟨v, d, rfl, _⟩ := h
    rfl
  · obtain ⟨v, d, rfl, an, qt, qf⟩ := h
    refine ⟨_, (pss_one (ps_if (pt_not (pt_val (pe_own GP (hr.mono (by decide)) pass0 (pa_cons (pv 0) pa_nil)))) (pss_one (ps_throw T.eP rfl (hr.mono (by decide)) (takes_of rfl rfl rfl rfl) (pv 0))) pss_nil)), ?_⟩
    refine ⟨_, rfl, _, d, rfl, an, _, rfl, ?_⟩
    cases e : isPr d with
    | true => exact iteF (qt e)
    | false => exact iteT ⟨_, rfl, thrown_go (qf e)⟩
theorem okList {f : Addr} {fd : FuncData} (F : Fun K "is_list" "is_list" sList f fd) (T : Txt K w mg aI aT CP CT CZ CA CM CL kI kT) : FnOk P w K mg base CX0 1 f fd ["value"] spList := by
  refine F.ok scList (fun vs H Q E h => ?_) (fun cdv A outer s H vs Q E hr h => ?_)
  · obtain ⟨v, d, rfl, _⟩ := h
    rfl
  · obtain ⟨v, d, rfl, an, q⟩ := h
    refine ⟨_, (pss_one (ps_ret (pe_callB call_isiT (by rfl) T.isi (by decide +kernel) (pa_cons (pv 0) (pa_cons (pe_tup (pa_cons (pe_bltn (v := .ty "list") rfl T.list (by decide +kernel) rfl) (pa_cons (pe_bltn (v := .ty "tuple") rfl T.tuple (by decide +kernel) rfl) pa_nil))) pa_nil))))), ?_⟩
    refine ⟨v, rfl, (by show 2 ≤ sizeLine; decide), fun tp htp => ?_⟩
    exact ⟨v, tp, _, _, _, _, rfl, upd_same, .cons (.ty _) (.cons (.ty _) .nil), any_ty (an.keep (same_new htp)), kit_seq d, q _ (same_new htp)⟩
abbrev tIsi (K : PySem.W.Frag) : TE := tAndV (tCB (rIsi K) (tCons (tVar 2) (tCons (tC (V.ty "int")) tNil))) (tNotV (tCB (rIsi K) (tCons (tVar 2) (tCons (tC (V.ty "bool")) tNil))))
theorem okVec {f : Addr} {fd : FuncData} (F : Fun K "is_vector" "is_vector" sVec f fd) (T : Txt K w mg aI aT CP CT CZ CA CM CL kI kT) (GL : Own P w K mg base CX0 1 "is_list" ["value"] [] spList) : FnOk P w K mg base CX0 2 f fd ["value", "length"] spVec := by
  refine F.ok scVec (fun vs H Q E h => ?_) (fun cdv A outer s H vs Q E hr h => ?_)
  · obtain ⟨v, d, n, rfl, _⟩ := h
    rfl
  · obtain ⟨v, d, n, rfl, an, sz, q⟩ := h
    refine ⟨_, (pss_one (ps_ret (pe_and (pe_own GL hr pass0 (pa_cons (pv 0) pa_nil)) (pe_and (pe_cmpR op_eq (pe_callB call_len_seq (by rfl) T.len (by decide +kernel) (pa_cons (pv 0) pa_nil)) (pv 1) (nomark _)) (pe_one (pe_callB (cr_all rfl) (by rfl) T.all (by decide +kernel) (pa_cons (pe_lc (own := [("item", 2)]) (g := gName 2) (tt := tYes) (te := tIsi K) rfl scVec.nd (pi_seq (pv 0)) (blkOk_by (N := ["value", "length", "item"]) (sc := defScope sVec) (by decide +kernel)) (fun _ _ _ _ _ => (pg_name (i := 2) scVec.nd rfl (Or.inl rfl))) (fun _ _ _ _ _ => pts_nil)
      (fun _ _ _ _ _ => (pe_and (pe_callB call_isi (by rfl) T.isi (by decide +kernel) (pa_cons (pv 2) (pa_cons (pe_bltn (v := .ty "int") rfl T.int boot_int rfl) pa_nil))) (pe_one (pe_not (pe_callB call_isi (by rfl) T.isi (by decide +kernel) (pa_cons (pv 2) (pa_cons (pe_bltn (v := .ty "bool") rfl T.bool (by decide +kernel) rfl) pa_nil)))))))) pa_nil))))))), ?_⟩
    refine ⟨v, rfl, v, d, rfl, an, fun H1 k1 => ⟨_, rfl, ?_⟩⟩
    rcases seq_flag an with ⟨e, k, a, xs, rfl, hs, al⟩ | e
    · rw [e]
      have ln := anyL_len al
      refine iteT ⟨_, rfl, a, xs, rfl, (hs k1 K).or, _, rfl, rfl, _, rfl, ?_⟩
      have hv : isVecD n d = (decide (((itemsD d).length : Int) = n) && (itemsD d).all isIntD) := by
        unfold isVecD
        rw [e] <;> rfl
      rw [hv] at q
      refine ite2 (fun z => ?_) (fun z => ?_)
      · have z1 : V.int (xs.length : Int) = V.int n := of_decide_eq_true z
        have z2 : (((itemsD d).length : Nat) : Int) = n := by
          injection z1 with z3
          rw [← ln]
          exact z3
        rw [decide_eq_true z2] at q
        refine ⟨.ref a, rfl, a, k, xs, rfl, hs k1 K, fun D hD => ?_⟩
        refine lc_same walk_seq (by omega) hD (fun H' s' => hs (k1.trans s') K) (fun i => .bool (isIntD ((itemsD d)[i]?.getD .none))) ?_ ?_
        · refine fun i x H' hi hx s1 hd => ⟨rfl, fun k' hk => ?_⟩
          obtain ⟨dx, hdx, anx⟩ := anyL_at al hx
          have ax := anx.keep (k1.trans s1)
          have fin : ∀ b, b = isIntD dx → k' (.bl b) H' := fun b eb => by
            refine hk _ _ (fun _ _ z => z) ?_
            rw [hdx, eb]
            exact .bl _
          refine ⟨x, rfl, x, .ty "int", _, _, _, rfl, .ty _, any_ty ax, kit_int dx, _, rfl, ?_⟩
          cases ax with
          | bl b => exact iteT ⟨_, rfl, _, .ty "bool", _, _, _, rfl, .ty _, any_ty (.bl b), kit_bool (.bool b), _, rfl, fin _ rfl⟩
          | int i => exact iteT ⟨_, rfl, _, .ty "bool", _, _, _, rfl, .ty _, any_ty (.int i), kit_bool (.int i), _, rfl, fin _ rfl⟩
          | _ => exact iteF (fin _ rfl)
        · refine fun H' acc s1 ha hal => ?_
          rw [ln, map_get (fun d => PyData.bool (isIntD d)) .none] at hal
          have e2 := anyL_flags hal
          refine ⟨D, _, rfl, .inl (.inl (by rw [← e2]; exact ha)), ?_⟩
          have e3 : ((itemsD d).map isIntD).all id = (itemsD d).all isIntD := by simp
          rw [e3]
          exact q _ (k1.trans s1)
      · have z2 : ¬ (((itemsD d).length : Nat) : Int) = n := fun y => z (decide_eq_true (by rw [ln, y]))
        rw [decide_eq_false z2] at q
        exact q _ k1
    · rw [e]
      have hv : isVecD n d = false := by
        unfold isVecD
        rw [e] <;> rfl
      rw [hv] at q
      exact iteF (q _ k1)
theorem okMat {f : Addr} {fd : FuncData} (F : Fun K "is_matrix" "is_matrix" sMat f fd) (T : Txt K w mg aI aT CP CT CZ CA CM CL kI kT) (GL : Own P w K mg base CX0 1 "is_list" ["value"] [] spList) (GV : Own P w K mg base CX0 2 "is_vector" ["value", "length"] [] spVec) : FnOk P w K mg base CX0 3 f fd ["value", "height", "width"] spMat := by
  refine F.ok scMat (fun vs H Q E h => ?_) (fun cdv A outer s H vs Q E hr h => ?_)
  · obtain ⟨v, d, n, m, rfl, _⟩ := h
    rfl
  · obtain ⟨v, d, n, m, rfl, an, ft, q⟩ := h
    have sz := ft.top.len
    refine ⟨_, (pss_one (ps_ret (pe_and (pe_own GL (hr.mono (by decide)) pass0 (pa_cons (pv 0) pa_nil)) (pe_and (pe_cmpR op_eq (pe_callB call_len_seq (by rfl) T.len (by decide +kernel) (pa_cons (pv 0) pa_nil)) (pv 1) (nomark _)) (pe_one (pe_callB (cr_all rfl) (by rfl) T.all (by decide +kernel) (pa_cons (pe_lc (own := [("row", 3)]) (g := gName 3) (tt := tYes) rfl scMat.nd (pi_seq (pv 0)) (blkOk_by (N := ["value", "height", "width", "row"]) (sc := defScope sMat) (by decide +kernel)) (fun _ _ _ _ _ => (pg_name (i := 3) scMat.nd rfl (Or.inl rfl))) (fun _ _ _ _ _ => pts_nil) (fun _ _ _ _ _ => (pe_own GV (hr.mono (by decide)) pass0 (pa_cons (pv 3) (pa_cons (pv 2) pa_nil))))) pa_nil))))))), ?_⟩
    refine ⟨v, rfl, v, d, rfl, an, fun H1 k1 => ⟨_, rfl, ?_⟩⟩
    rcases seq_flag an with ⟨e, k, a, xs, rfl, hs, al⟩ | e
    · rw [e]
      have ln := anyL_len al
      refine iteT ⟨_, rfl, a, xs, rfl, (hs k1 K).or, _, rfl, rfl, _, rfl, ?_⟩
      have hv : isMatD n m d = (decide (((itemsD d).length : Int) = n) && (itemsD d).all (isVecD m)) := by
        unfold isMatD
        rw [e] <;> rfl
      rw [hv] at q
      refine ite2 (fun z => ?_) (fun z => ?_)
      · have z1 : V.int (xs.length : Int) = V.int n := of_decide_eq_true z
        have z2 : (((itemsD d).length : Nat) : Int) = n := by
          injection z1 with z3
          rw [← ln]
          exact z3
        rw [decide_eq_true z2] at q
        refine ⟨.ref a, rfl, a, k, xs, rfl, hs k1 K, fun D hD => ?_⟩
        refine lc_same walk_seq (by omega) hD (fun H' s' => hs (k1.trans s') K) (fun i => .bool (isVecD m ((itemsD d)[i]?.getD .none))) ?_ ?_
        · refine fun i x H' hi hx s1 hd => ⟨rfl, fun k' hk => ?_⟩
          obtain ⟨dx, hdx, anx⟩ := anyL_at al hx
          refine ⟨_, rfl, _, rfl, x, dx, m, rfl, anx.keep (k1.trans s1), (ft.sub dx (List.mem_of_getElem? hdx)).len, fun H4 s4 => ?_⟩
          refine hk _ _ s4 ?_
          rw [hdx]
          exact .bl _
        · refine fun H' acc s1 ha hal => ?_
          rw [ln, map_get (fun d => PyData.bool (isVecD m d)) .none] at hal
          have e2 := anyL_flags hal
          refine ⟨D, _, rfl, .inl (.inl (by rw [← e2]; exact ha)), ?_⟩
          have e3 : ((itemsD d).map (isVecD m)).all id = (itemsD d).all (isVecD m) := by simp
          rw [e3]
          exact q _ (k1.trans s1)
      · have z2 : ¬ (((itemsD d).length : Nat) : Int) = n := fun y => z (decide_eq_true (by rw [ln, y]))
        rw [decide_eq_false z2] at q
        exact q _ k1
    · rw [e]
      have hv : isMatD n m d = false := by
        unfold isMatD
        rw [e] <;> rfl
      rw [hv] at q
      exact iteF (q _ k1)
theorem kit_str (d : PyData) : PySem.W.kitOne K (.type (kindS d)) (.type "str") = some (match d with | .str _ => true | _ => false) := by
  cases d with
  | none => exact kit_ty (show kitB "NoneType" "str" = some false by decide +kernel)
  | bool b => exact kit_ty (show kitB "bool" "str" = some false by decide +kernel)
  | int i => exact kit_ty (show kitB "int" "str" = some false by decide +kernel)
  | str x => exact kit_ty (show kitB "str" "str" = some true by decide +kernel)
  | list xs => exact kit_ty (show kitB "list" "str" = some false by decide +kernel)
  | tuple xs => exact kit_ty (show kitB "tuple" "str" = some false by decide +kernel)
  | dict kvs => exact kit_ty (show kitB "dict" "str" = some false by decide +kernel)
theorem okPat {f : Addr} {fd : FuncData} (F : Fun K "is_pattern" "is_pattern" sPat f fd) (T : Txt K w mg aI aT CP CT CZ CA CM CL kI kT) : FnOk P w K mg base CX0 1 f fd ["value"] spPat := by
  refine F.ok scPat (fun vs H Q E h => ?_) (fun cdv A outer s H vs Q E hr h => ?_)
  · obtain ⟨v, d, rfl, _⟩ := h
    rfl
  · obtain ⟨v, d, rfl, an, sh, q⟩ := h
    obtain ⟨tM, gM⟩ := T.gM
    refine ⟨_, (pss_one (ps_ret (pe_and (pe_callB call_isi (by rfl) T.isi (by decide +kernel) (pa_cons (pv 0) (pa_cons (pe_bltn (v := .ty "str") rfl T.str (by decide +kernel) rfl) pa_nil))) (pe_and (pe_cmpR op_le (pe_callB call_len_str (by rfl) T.len (by decide +kernel) (pa_cons (pv 0) pa_nil)) (pe_glob (v := .int 6) rfl gM ⟨_, rfl⟩) (nomark _)) (pe_one (pe_callB (cr_all rfl) (by rfl) T.all (by decide +kernel) (pa_cons (pe_lc (own := [("arrow", 1)]) (g := gName 1) (tt := tYes) rfl scPat.nd (pi_str (pv 0)) (blkOk_by (N := ["value", "arrow"]) (sc := defScope sPat) (by decide +kernel)) (fun _ _ _ _ _ => (pg_name (i := 1) scPat.nd rfl (Or.inl rfl))) (fun _ _ _ _ _ => pts_nil) (fun _ _ _ _ _ => (pe_cmpR (op_in_ts T.tT) (pv 1) (pe_glob (v := .ref aT) rfl T.gT rfl) (by rfl)))) pa_nil))))))), ?_⟩
    refine ⟨v, rfl, v, .ty "str", _, _, _, rfl, .ty _, any_ty an, kit_str d, _, rfl, ?_⟩
    cases an with
    | str x =>
      have lx := sh x rfl
      refine iteT ⟨_, rfl, x, rfl, (Nat.le_trans lx (by decide)), _, _, rfl, rfl, _, rfl, ?_⟩
      refine ite2 (fun z => ?_) (fun z => ?_)
      · have z2 : x.length ≤ 6 := by
          have := of_decide_eq_true z
          omega
        have e1 : isPatD (.str x) = x.cps.toList.all isArr := by
          show (decide (x.length ≤ 6) && _) = _
          rw [decide_eq_true z2, Bool.true_and]
        refine ⟨_, rfl, x, rfl, fun D hD => ?_⟩
        refine lc_same walk_str (Nat.le_trans z2 (by decide)) hD (fun _ _ => trivial) (fun i => .bool (isArr (x.cps.toList[i]?.getD 0))) ?_ ?_
        · rintro i y H' hi ⟨c, hc, rfl⟩ s1 hd
          refine ⟨rfl, fun k' hk => ?_⟩
          refine ⟨_, rfl, _, rfl, rfl, hk _ _ (fun _ _ z => z) ?_⟩
          rw [T.hT, show x.cps.toList[i]? = some c by simpa using hc]
          exact .bl _
        · refine fun H' acc s1 ha hal => ?_
          have e4 : (List.range x.cps.size).map (fun i => PyData.bool (isArr (x.cps.toList[i]?.getD 0))) = (x.cps.toList.map isArr).map PyData.bool := by
            rw [show x.cps.size = x.cps.toList.length by simp, map_get (fun c => PyData.bool (isArr c)) 0, List.map_map] <;> rfl
          rw [e4] at hal
          have e2 := anyL_bools hal
          refine ⟨D, _, rfl, .inl (.inl (by rw [← e2]; exact ha)), ?_⟩
          have e3 : (x.cps.toList.map isArr).all id = x.cps.toList.all isArr := by simp
          rw [e3, ← e1]
          exact q _ s1
      · have e1 : isPatD (.str x) = false := by
          show (decide (x.length ≤ 6) && _) = _
          rw [decide_eq_false (fun y => z (decide_eq_true (by omega))), Bool.false_and]
        rw [e1] at q
        exact q _ (fun _ _ z => z)
    | _ => exact iteF (q _ (fun _ _ z => z))
theorem okCPat {f : Addr} {fd : FuncData} (F : Fun K "check_pattern" "check_pattern" sCPat f fd) (T : Txt K w mg aI aT CP CT CZ CA CM CL kI kT) (GP : Own P w K mg base CX0 1 "is_pattern" ["value"] [] spPat) : FnOk P w K mg base (L2.CX P w) 4 f fd ["pattern"] (spCPat CT) := by
  refine F.okX scCPat (fun vs H Q E h => ?_) (fun cdv A outer s H vs Q E hr h => ?_)
  · obtain ⟨v, d, rfl, _⟩ := h
    rfl
  · obtain ⟨v, d, rfl, an, sh, qt, qf⟩ := h
    refine ⟨_, (pss_one (ps_if (pt_not (pt_val (pe_own GP (hr.mono (by decide)) pass0 (pa_cons (pv 0) pa_nil)))) (pss_one (ps_throw T.eT rfl (hr.mono (by decide)) (takes_of rfl rfl rfl rfl) (pv 0))) pss_nil)), ?_⟩
    refine ⟨_, rfl, _, d, rfl, an, sh, fun H1 k1 => ⟨_, rfl, ?_⟩⟩
    cases e : isPatD d with
    | true => exact iteF (qt e _ k1)
    | false => exact iteT ⟨_, rfl, thrown_go ((qf e).mono k1)⟩
theorem okCSz {f : Addr} {fd : FuncData} (F : Fun K "check_sizes" "check_sizes" sCSz f fd) (T : Txt K w mg aI aT CP CT CZ CA CM CL kI kT) (GL : Own P w K mg base CX0 1 "is_list" ["value"] [] spList) (GI : Own P w K mg base CX0 2 "is_integer" ["value", "low", "high"] [] spInt) : FnOk P w K mg base (L2.CX P w) 4 f fd ["pattern", "sizes"] (spCSz CZ) := by
  refine F.okX scCSz (fun vs H Q E h => ?_) (fun cdv A outer s H vs Q E hr h => ?_)
  · obtain ⟨x, v, d, rfl, _⟩ := h
    rfl
  · obtain ⟨x, v, d, rfl, lx, an, sz, qt, qf⟩ := h
    obtain ⟨tM, gM⟩ := T.gM
    refine ⟨_, (pss_one (ps_if (pt_not (PW.pt (pw_and (pt_val (pe_own GL (hr.mono (by decide)) pass0 (pa_cons (pv 1) pa_nil))) (pw_and (pt_cmpR op_eq (pe_callB call_len_seq (by rfl) T.len (by decide +kernel) (pa_cons (pv 1) pa_nil)) (pe_op op_add (pe_callB call_len_str (by rfl) T.len (by decide +kernel) (pa_cons (pv 0) pa_nil)) pe_int) (nomark _)) (pw_and1 (pt_val (pe_callB (cr_all rfl) (by rfl) T.all (by decide +kernel) (pa_cons (pe_lc (own := [("size", 2)]) (g := gName 2) (tt := tYes) rfl scCSz.nd (pi_seq (pv 1)) (blkOk_by (N := ["pattern", "sizes", "size"]) (sc := defScope sCSz) (by decide +kernel)) (fun _ _ _ _ _ => (pg_name (i := 2) scCSz.nd rfl (Or.inl rfl))) (fun _ _ _ _ _ => pts_nil) (fun _ _ _ _ _ => (pe_own GI (hr.mono (by decide)) pass0 (pa_cons (pv 2) (pa_cons pe_int (pa_cons (pe_glob (v := .int 6) rfl gM ⟨_, rfl⟩) pa_nil)))))) pa_nil)))))))) (pss_one (ps_throw T.eZ rfl (hr.mono (by decide)) (takes_of rfl rfl rfl rfl) (pv 1))) pss_nil)), ?_⟩
    refine ⟨_, rfl, v, d, rfl, an, fun H1 k1 => ?_⟩
    rcases seq_flag an with ⟨e, k, a, xs, rfl, hs, al⟩ | e
    · rw [e]
      have ln := anyL_len al
      refine ⟨_, rfl, iteT ⟨_, rfl, a, xs, rfl, (hs k1 K).or, _, rfl, x, rfl, Nat.le_trans lx (by decide), _, _, rfl, rfl, rfl, _, rfl, ?_⟩⟩
      have hv : sizesOk x.length d = (decide ((itemsD d).length = x.length + 1) && (itemsD d).all isSzD) := by
        unfold sizesOk
        rw [e] <;> rfl
      rw [hv] at qt qf
      refine ite2 (fun z => ?_) (fun z => ?_)
      · have z1 : V.int (xs.length : Int) = V.int ((x.length : Int) + 1) := of_decide_eq_true z
        have z2 : (itemsD d).length = x.length + 1 := by
          injection z1 with z3
          omega
        rw [decide_eq_true z2, Bool.true_and] at qt qf
        refine ⟨.ref a, rfl, a, k, xs, rfl, hs k1 K, fun D hD => ?_⟩
        refine lc_same walk_seq (by omega) hD (fun H' s' => hs (k1.trans s') K) (fun i => .bool (isSzD ((itemsD d)[i]?.getD .none))) ?_ ?_
        · refine fun i y H' hi hx s1 hd => ⟨rfl, fun k' hk => ?_⟩
          obtain ⟨dx, hdx, anx⟩ := anyL_at al hx
          refine ⟨_, rfl, y, _, _, dx, .int 0, .int 6, rfl, anx.keep (k1.trans s1), .int _, .int _, hk _ _ (fun _ _ z => z) ?_⟩
          rw [hdx]
          exact .bl _
        · refine fun H' acc s1 ha hal => ?_
          rw [ln, map_get (fun d => PyData.bool (isSzD d)) .none] at hal
          have e2 := anyL_flags hal
          refine ⟨D, _, rfl, .inl (.inl (by rw [← e2]; exact ha)), _, rfl, ?_⟩
          have e3 : ((itemsD d).map isSzD).all id = (itemsD d).all isSzD := by simp
          rw [e3]
          cases ea : (itemsD d).all isSzD with
          | true => exact iteF (qt ea _ (k1.trans s1))
          | false => exact iteT ⟨_, rfl, thrown_go ((qf ea).mono (k1.trans s1))⟩
      · have z2 : ¬ (itemsD d).length = x.length + 1 := fun y => z (decide_eq_true (by rw [ln, y] <;> rfl))
        rw [decide_eq_false z2, Bool.false_and] at qf
        exact iteT ⟨_, rfl, thrown_go ((qf rfl).mono k1)⟩
    · rw [e]
      have hv : sizesOk x.length d = false := by
        unfold sizesOk
        rw [e] <;> rfl
      exact ⟨_, rfl, iteF (iteT ⟨_, rfl, thrown_go ((qf hv).mono k1)⟩)⟩
theorem okWay {f : Addr} {fd : FuncData} (F : Fun K "way" "way" sWay f fd) : FnOk P w K mg base CX0 1 f fd ["pattern", "index"] spWay := by
  refine F.ok scWay (fun vs H Q E h => ?_) (fun cdv A outer s H vs Q E hr h => ?_)
  · obtain ⟨x, i, rfl, _⟩ := h
    rfl
  · obtain ⟨x, i, rfl, hi, lx, q⟩ := h
    refine ⟨_, (pss_one (ps_ret (pe_ifExp (pt_cmpR op_eq (pe_ix ix_str (pv 0) (pv 1) (fun _ _ => rfl)) pe_str (nomark _)) (pe_tup (pa_cons (pv 1) (pa_cons (pe_op op_add (pv 1) pe_int) pa_nil))) (pe_tup (pa_cons (pe_op op_add (pv 1) pe_int) (pa_cons (pv 1) pa_nil)))))), ?_⟩
    have hi2 : i < x.cps.toList.length := by
      rw [Array.length_toList]
      exact hi
    refine ⟨_, rfl, _, rfl, x, _, x.cps.toList[i], rfl, rfl, Nat.le_trans lx (by decide), atI_nat (List.getElem?_eq_getElem hi2), rfl, _, rfl, ?_⟩
    have er : isR x i = (x.cps.toList[i] == 62) := by
      unfold isR
      rw [List.getElem?_eq_getElem hi2] <;> rfl
    refine ite2 (fun z => ?_) (fun z => ?_)
    · have z1 : V.str ⟨#[x.cps.toList[i]]⟩ = V.str ">" := of_decide_eq_true z
      have z2 : x.cps.toList[i] = 62 := by
        injection z1 with z3
        have := congrArg (fun y : Str => y.cps[0]?) z3
        exact Option.some.inj this
      have e2 : isR x i = true := by rw [er, z2] <;> rfl
      refine ⟨_, rfl, _, rfl, _, _, rfl, rfl, (by show 2 ≤ sizeLine; decide), fun t ht => q t _ ht (same_new ht) ?_⟩
      rw [upd_same]
      unfold stA goA
      rw [e2] <;> rfl
    · have z2 : ¬ x.cps.toList[i] = 62 := fun y => z (decide_eq_true (by rw [y] <;> rfl))
      have e2 : isR x i = false := by rw [er]; exact beq_eq_false_iff_ne.mpr z2
      refine ⟨_, rfl, _, _, rfl, rfl, _, rfl, (by show 2 ≤ sizeLine; decide), fun t ht => q t _ ht (same_new ht) ?_⟩
      rw [upd_same]
      unfold stA goA
      rw [e2] <;> rfl
end
end K11

set_option Elab.async false
set_option linter.all false
set_option maxRecDepth 100000
set_option maxHeartbeats 4000000
/-! TkH: sizes and matrices of rows, as data. -/
namespace Rw
open PySem PySem.Spec PyProof.Rows L2
theorem sizes_parts {k : Nat} {d : PyData} (h : sizesOk k d = true) : isSeqD d = true ∧ (itemsD d).length = k + 1 ∧ (itemsD d).all isSzD = true := by
  unfold sizesOk at h
  simp only [Bool.and_eq_true, decide_eq_true_eq] at h
  exact h
theorem maps_parts {k : Nat} {d : PyData} (h : mapsOk k d = true) : isSeqD d = true ∧ (itemsD d).length = k := by
  unfold mapsOk at h
  simp only [Bool.and_eq_true, decide_eq_true_eq] at h
  exact h
theorem sz_int {d : PyData} (h : isSzD d = true) : ∃ n, d = .int n ∧ 0 ≤ n ∧ n ≤ 6 := by
  cases d with
  | int n =>
    have h2 : (decide (0 ≤ n) && decide (n ≤ 6)) = true := h
    simp only [Bool.and_eq_true, decide_eq_true_eq] at h2
    exact ⟨n, rfl, h2⟩
  | _ => cases h
theorem stA_le (x : Str) (i : Nat) : stA x i ≤ i + 1 := by
  unfold stA
  split <;> omega
theorem goA_le (x : Str) (i : Nat) : goA x i ≤ i + 1 := by
  unfold goA
  split <;> omega
theorem atD_get {d : PyData} {i : Nat} {e : PyData} (h : (itemsD d)[i]? = some e) : atD d i = e := by
  unfold atD
  rw [h] <;> rfl
/-- an item of sizes, as a value -/
theorem sz_at {k : Nat} {ds : PyData} (h : sizesOk k ds = true) {xs : List V} {H : Hp} (al : AnyL H xs (itemsD ds)) {i : Nat} (hi : i ≤ k) : xs[i]? = some (.int (szL ds i)) ∧ 0 ≤ szL ds i ∧ szL ds i ≤ 6 := by
  obtain ⟨_, l, a⟩ := sizes_parts h
  have hi2 : i < (itemsD ds).length := by omega
  have e1 : (itemsD ds)[i]? = some (itemsD ds)[i] := List.getElem?_eq_getElem hi2
  obtain ⟨n, en, n0, n6⟩ := sz_int (List.all_eq_true.mp a _ (List.getElem_mem hi2))
  obtain ⟨v, hv, av⟩ := anyL_of al e1
  have es : szL ds i = n := by
    unfold szL
    rw [atD_get e1, en] <;> rfl
  rw [en] at av
  cases av
  rw [es]
  exact ⟨hv, n0, n6⟩
theorem bad_none {x : Str} {ds dm : PyData} (h : ∀ j, j < x.length → matOk x ds dm j = true) : badAt x ds dm = none := by
  unfold badAt
  rw [List.find?_eq_none]
  intro j hj
  rw [h j (List.mem_range.mp hj)]
  simp
theorem find_range (f : Nat → Bool) : ∀ (n i : Nat), i < n → f i = true → (∀ j, j < i → f j = false) → (List.range n).find? f = some i := by
  intro n
  induction n with
  | zero => intro i h; omega
  | succ n ih =>
    intro i h h1 h2
    rw [List.range_succ, List.find?_append]
    by_cases e : i < n
    · rw [ih i e h1 h2] <;> rfl
    · have e2 : i = n := by omega
      subst e2
      rw [List.find?_eq_none.mpr (fun j hj => by rw [h2 j (List.mem_range.mp hj)]; simp)]
      simp [h1]
theorem bad_some {x : Str} {ds dm : PyData} {i : Nat} (hi : i < x.length) (h : matOk x ds dm i = false) (h2 : ∀ j, j < i → matOk x ds dm j = true) : badAt x ds dm = some i := by
  unfold badAt
  exact find_range _ _ _ hi (by rw [h] <;> rfl) (fun j hj => by rw [h2 j hj] <;> rfl)
end Rw

set_option Elab.async false
set_option linter.all false
set_option maxRecDepth 100000
set_option maxHeartbeats 4000000
/-! K11B: the matrices of a row. -/
namespace K11
open PySem PySem.Spec PyProof.Rows L2 Rw
abbrev sCMaps : Stmt := top 31
abbrev NCMaps : List Str := ["pattern", "sizes", "maps", "index", "matrix", "start", "goal"]
theorem scCMaps : FnScope NCMaps ["pattern", "sizes", "maps"] (defScope sCMaps) := ⟨rfl, rfl, rfl, by decide +kernel, rfl, by decide +kernel, by decide +kernel⟩
section
variable {P : Program} {w : World} {K : PySem.W.Frag} {mg : Str → Option Value} {base : Heap} {aI aT CP CT CZ CA CM CL : Addr} {kI : List (Int × Value)} {kT : List (Str × Value)}
theorem okCMaps {f : Addr} {fd : FuncData} (F : Fun K "_check_maps" "_check_maps" sCMaps f fd) (T : Txt K w mg aI aT CP CT CZ CA CM CL kI kT) (GL : Own P w K mg base CX0 1 "is_list" ["value"] [] spList) (GW : Own P w K mg base CX0 1 "way" ["pattern", "index"] [] spWay)
    (GM : Own P w K mg base CX0 3 "is_matrix" ["value", "height", "width"] [] spMat) : FnOk P w K mg base (L2.CX P w) 5 f fd ["pattern", "sizes", "maps"] (spCMaps CA CM) := by
  refine F.okX scCMaps (fun vs H Q E h => ?_) (fun cdv A outer s H vs Q E hr h => ?_)
  · obtain ⟨x, va, vm, ds, dm, rfl, _⟩ := h
    rfl
  · obtain ⟨x, va, vm, ds, dm, rfl, lx, as, es, am, fm, xf, q⟩ := h
    refine ⟨_, (pss_cons (ps_if (pt_not (PW.pt (pw_and (pt_val (pe_own GL (hr.mono (by decide)) pass0 (pa_cons (pv 2) pa_nil))) (pw_and1 (pt_cmpR op_eq (pe_callB call_len_seq (by rfl) T.len (by decide +kernel) (pa_cons (pv 2) pa_nil)) (pe_callB call_len_str (by rfl) T.len (by decide +kernel) (pa_cons (pv 0) pa_nil)) (nomark _)))))) (pss_one (ps_throw T.eA rfl (hr.mono (by decide)) (takes_of rfl rfl rfl rfl) (pv 2))) pss_nil)
      (pss_one (ps_for (passes_of rfl) rfl (pi_enumB (by rfl) T.enum (pa_cons (pv 2) pa_nil)) (pg_tup rfl (pgs_cons (pg_name (i := 3) scCMaps.nd rfl (Or.inl rfl)) (pgs_cons (pg_name (i := 4) scCMaps.nd rfl (Or.inl rfl)) pgs_nil)))
        (pss_cons (ps_asg (pe_own GW (hr.mono (by decide)) pass0 (pa_cons (pv 0) (pa_cons (pv 3) pa_nil))) (pg_tup rfl (pgs_cons (pg_name (i := 5) scCMaps.nd rfl (Or.inl rfl)) (pgs_cons (pg_name (i := 6) scCMaps.nd rfl (Or.inl rfl)) pgs_nil))))
        (pss_one (ps_if (pt_not (pt_val (pe_own GM (hr.mono (by decide)) pass0 (pa_cons (pv 4) (pa_cons (pe_ix ix_seq (pv 1) (pv 5) (fun _ _ => rfl)) (pa_cons (pe_ix ix_seq (pv 1) (pv 6) (fun _ _ => rfl)) pa_nil)))))) (pss_one (ps_throw T.eM rfl (hr.mono (by decide)) (takes_of rfl rfl rfl rfl) (pv 4))) pss_nil)))))), ?_⟩
    refine ⟨_, rfl, vm, dm, rfl, am, fun H1 k1 => ?_⟩
    rcases seq_flag am with ⟨e, k, a, xs, rfl, hs, al⟩ | e
    · rw [e]
      have ln := anyL_len al
      have hv : mapsOk x.length dm = decide ((itemsD dm).length = x.length) := by
        unfold mapsOk
        rw [e] <;> rfl
      rw [hv] at xf q
      refine ⟨_, rfl, iteT ⟨_, rfl, a, xs, rfl, (hs k1 K).or, _, rfl, x, rfl, Nat.le_trans lx (by decide), rfl, _, rfl, ?_⟩⟩
      by_cases z2 : (itemsD dm).length = x.length
      · rw [decide_eq_true z2] at q
        obtain ⟨qb, qn⟩ := q rfl
        have z1 : decide (V.int (xs.length : Int) = V.int (x.length : Int)) = true := decide_eq_true (by rw [ln, z2])
        rw [z1]
        refine iteF ?_
        obtain ⟨ss, sl, sa⟩ := sizes_parts es
        obtain ⟨ks, b, ys, rfl, hss, als⟩ := seq_of as ss
        refine ⟨.ref a, rfl, a, k, xs, rfl, hs k1 K, ?_⟩
        refine for_it walk_enumB (fun i σ' H' => (∃ y3 y4 y5 y6, σ' = [some (.str x), some (.ref b), some (.ref a), y3, y4, y5, y6]) ∧ Same H1 H' ∧ ∀ j, j < i → matOk x ds dm j = true) ⟨⟨_, _, _, _, rfl⟩, fun _ _ z => z, fun j h => by omega⟩ (fun i σ' H' _ z => hs (k1.trans z.2.1) K) ?_ ?_
        · rintro i y σ' H2 H3 hi ⟨⟨y3, y4, y5, y6, rfl⟩, k2, ok⟩ ⟨T1, v1, v2, rfl, hT, rfl, h1, h2⟩
          cases h1
          obtain ⟨dx, hdx, anx⟩ := anyL_at al h2
          have k3 : Same H2 (upd H2 T1 (.tup [.int (i : Nat), v2])) := same_new hT
          have kk := (k1.trans k2).trans k3
          have hix : i < x.length := by omega
          refine ⟨T1, _, rfl, SqT.of upd_same, rfl, _, _, rfl, _, _, rfl, rfl, ?_⟩
          refine ⟨_, rfl, _, rfl, x, i, rfl, hix, lx, fun t H4 ht k4 e4 => ?_⟩
          have kk4 := kk.trans k4
          refine ⟨t, _, rfl, SqT.of e4, rfl, _, _, rfl, _, _, rfl, rfl, ?_⟩
          obtain ⟨s1, s2, s3⟩ := sz_at es als (Nat.le_trans (stA_le x i) (by omega))
          obtain ⟨g1, g2, g3⟩ := sz_at es als (Nat.le_trans (goA_le x i) (by omega))
          have ix : ∀ (j : Nat) (n : Int), ys[j]? = some (.int n) → ∀ k'' : VK, k'' (.int n) H4 → rIx K (.ref b) (.int (j : Int)) H4 k'' := fun j n hj k'' hk'' => by
            have q3 := hss kk4 K
            cases ks with
            | true => exact .inl ⟨b, ys, (j : Int), _, rfl, rfl, q3, atI_nat hj, hk''⟩
            | false => exact .inr (.inl ⟨b, ys, (j : Int), _, rfl, rfl, q3, atI_nat hj, hk''⟩)
          refine ⟨_, rfl, _, rfl, _, rfl, ix _ _ s1 _ ⟨_, rfl, _, rfl, ix _ _ g1 _ ?_⟩⟩
          have ed : atD dm i = dx := atD_get hdx
          refine ⟨v2, dx, _, _, rfl, anx.keep kk4, fm.sub dx (List.mem_of_getElem? hdx), fun H5 k5 => ⟨_, rfl, ?_⟩⟩
          have em : isMatD (szL ds (stA x i)) (szL ds (goA x i)) dx = matOk x ds dm i := by
            unfold matOk
            rw [ed]
          rw [em]
          cases eo : matOk x ds dm i with
          | true =>
            refine iteF ⟨⟨_, _, _, _, rfl⟩, ((k2.trans k3).trans k4).trans k5, fun j hj => ?_⟩
            by_cases e5 : j < i
            · exact ok j e5
            · rw [show j = i by omega]
              exact eo
          | false =>
            have kk5 := kk4.trans k5
            exact iteT ⟨_, rfl, thrown_go (qb i v2 _ (bad_some hix eo ok) kk5 (by rw [ed]; exact anx.keep kk5))⟩
        · rintro σ' H2 ⟨_, k2, ok⟩
          exact qn (bad_none fun j hj => ok j (by omega)) _ (k1.trans k2)
      · rw [decide_eq_false z2] at xf
        have z1 : decide (V.int (xs.length : Int) = V.int (x.length : Int)) = false := decide_eq_false (fun y => z2 (by
          injection y with y2
          rw [← ln]
          exact Int.ofNat.inj y2))
        rw [z1]
        exact iteT ⟨_, rfl, thrown_go ((xf rfl).mono k1)⟩
    · rw [e]
      have hv : mapsOk x.length dm = false := by
        unfold mapsOk
        rw [e] <;> rfl
      exact ⟨_, rfl, iteF (iteT ⟨_, rfl, thrown_go ((xf hv).mono k1)⟩)⟩
end
end K11

set_option Elab.async false
set_option linter.all false
set_option maxRecDepth 100000
set_option maxHeartbeats 4000000
/-! TkU: data over heaps in which an object that is no data changes; data without lists; tuples and lists made of data. -/
namespace Rw
open PySem PySem.Spec PyProof.Rows L2
/-- what is data stays -/
structure Keeps (H H' : Hp) : Prop where
  l : ∀ b xs, H b = some (.lst xs) → H' b = some (.lst xs)
  t : ∀ b xs, H b = some (.tup xs) → H' b = some (.tup xs)
  d : ∀ b kvs, H b = some (.dK kvs) → H' b = some (.dK kvs)
mutual
theorem any_keeps {H H' : Hp} (k : Keeps H H') : ∀ (d : PyData) (v : V), Any H v d → Any H' v d
  | .none, _, h => by cases h; exact .non
  | .bool b, _, h => by cases h; exact .bl b
  | .int i, _, h => by cases h; exact .int i
  | .str x, _, h => by cases h; exact .str x
  | .list ds, _, h => by
    cases h with
    | lst e a => exact .lst (k.l _ _ e) (anyL_keeps k ds _ a)
  | .tuple ds, _, h => by
    cases h with
    | tup e a => exact .tup (k.t _ _ e) (anyL_keeps k ds _ a)
  | .dict ds, _, h => by
    cases h with
    | dct e a => exact .dct (k.d _ _ e) (anyK_keeps k ds _ a)
theorem anyL_keeps {H H' : Hp} (k : Keeps H H') : ∀ (ds : List PyData) (vs : List V), AnyL H vs ds → AnyL H' vs ds
  | [], _, h => by cases h; exact .nil
  | d :: ds, _, h => by
    cases h with
    | cons a b => exact .cons (any_keeps k d _ a) (anyL_keeps k ds _ b)
theorem anyK_keeps {H H' : Hp} (k : Keeps H H') : ∀ (ds : List (PyData × PyData)) (vs : List (Key × V)), AnyK H vs ds → AnyK H' vs ds
  | [], _, h => by cases h; exact .nil
  | (_, d) :: ds, _, h => by
    cases h with
    | cons a b => exact .cons (any_keeps k d _ a) (anyK_keeps k ds _ b)
end
theorem Keeps.refl {H : Hp} : Keeps H H := ⟨fun _ _ z => z, fun _ _ z => z, fun _ _ z => z⟩
theorem Keeps.trans {H H1 H2 : Hp} (a : Keeps H H1) (b : Keeps H1 H2) : Keeps H H2 := ⟨fun c xs z => b.l c xs (a.l c xs z), fun c xs z => b.t c xs (a.t c xs z), fun c xs z => b.d c xs (a.d c xs z)⟩
theorem Keeps.of {H H' : Hp} (k : Same H H') : Keeps H H' := ⟨fun b _ e => k b _ e, fun b _ e => k b _ e, fun b _ e => k b _ e⟩
theorem keeps_ins {H H' : Hp} {a C dx : Addr} {fs : List (Str × V)} (e : H a = some (.ins C dx fs)) (g : Grow a H H') : Keeps H H' := by
  have ne : ∀ b o, H b = some o → (∀ fs', o ≠ .ins C dx fs') → b ≠ a := fun b o h n z => by
    rw [z, e] at h
    exact n fs (Option.some.inj h).symm
  exact ⟨fun b xs h => g b _ (ne b _ h fun _ z => nomatch z) h, fun b xs h => g b _ (ne b _ h fun _ z => nomatch z) h, fun b xs h => g b _ (ne b _ h fun _ z => nomatch z) h⟩
theorem Any.keeps {H H' : Hp} {v : V} {d : PyData} (h : Any H v d) (k : Keeps H H') : Any H' v d := any_keeps k d v h
mutual
/-- no list and no dict in it -/
def noL : PyData → Bool
  | .list _ => false
  | .dict _ => false
  | .tuple ds => noLs ds
  | _ => true
def noLs : List PyData → Bool
  | [] => true
  | d :: ds => noL d && noLs ds
end
theorem noLs_of : ∀ {ds : List PyData}, (∀ d, d ∈ ds → noL d = true) → noLs ds = true
  | [], _ => rfl
  | d :: ds, h => by
    show (noL d && noLs ds) = true
    rw [h d List.mem_cons_self, noLs_of fun e he => h e (List.mem_cons_of_mem _ he)] <;> rfl
mutual
theorem any_noL {H : Hp} {D : Addr} {xs : List V} (h : H D = some (.lst xs)) : ∀ (d : PyData) (v : V), Any H v d → noL d = true → Any (del H D) v d
  | .none, _, a, _ => by cases a; exact .non
  | .bool b, _, a, _ => by cases a; exact .bl b
  | .int i, _, a, _ => by cases a; exact .int i
  | .str x, _, a, _ => by cases a; exact .str x
  | .list ds, _, _, z => by cases z
  | .dict ds, _, _, z => by cases z
  | .tuple ds, _, a, z => by
    cases a with
    | tup e b =>
      rename_i q ys
      have ne : q ≠ D := fun y => by
        rw [y, h] at e
        cases e
      exact .tup (by rw [del_ne ne]; exact e) (anyL_noL h ds _ b z)
theorem anyL_noL {H : Hp} {D : Addr} {xs : List V} (h : H D = some (.lst xs)) : ∀ (ds : List PyData) (vs : List V), AnyL H vs ds → noLs ds = true → AnyL (del H D) vs ds
  | [], _, a, _ => by cases a; exact .nil
  | d :: ds, _, a, z => by
    have z2 : (noL d && noLs ds) = true := z
    rw [Bool.and_eq_true] at z2
    cases a with
    | cons a b => exact .cons (any_noL h d _ a z2.1) (anyL_noL h ds _ b z2.2)
end
/-- a comprehension that makes data without lists -/
theorem lc_tup {J : It} {n : Nat} {G : Hp → Prop} {P : Nat → V → Prop} (w : Walk J n G (fun i H x H' => H' = H ∧ P i x)) {j : Nat} {σ : L2.St} {vs : List Nat} {te : TE} {H1 : Hp} {D : Addr} {Q : Hp → Prop} (hn : n ≤ 1000) (hD : H1 D = none) (hG : ∀ H, Same H1 H → G H) (f : Nat → PyData)
    (nf : ∀ i, i < n → noL (f i) = true)
    (hs : ∀ i x H, i < n → P i x → Same H1 H → (∃ o, H D = some o) → wipe ((wipe σ vs).set j (some x)) vs = wipe σ vs ∧ ∀ k : VK, (∀ y H', Same H H' → Any H' y (f i) → k y H') → te ((wipe σ vs).set j (some x)) H k)
    (hq : ∀ H acc, Same H1 H → H D = some (.lst acc) → AnyL (del H D) acc ((List.range n).map f) → Q H) :
    ∃ W : Nat → Nat → Hp → Prop, (∃ m, W 0 m (upd H1 D (.lst []))) ∧ ∀ i m H, W i m H →
      (J.stop i H ∧ Q H) ∨ (J.go i H ∧ ∃ Nx : Hp → Prop, (∀ H', Nx H' → ∃ m', m' < m ∧ W (i + 1) m' H') ∧ ∀ x H', J.yld i H x H' → gName j x (wipe σ vs) H' fun σ2 H2 => wipe σ2 vs = wipe σ vs ∧ tYes σ2 H2 fun b H3 =>
        if b = true then te σ2 H3 fun y H4 => ∃ acc, H4 D = some (.lst acc) ∧ acc.length < sizeLine ∧ Nx (upd H4 D (.lst (acc ++ [y]))) else Nx H3) := by
  refine lc_it w (Qd := Q) (Pv := fun i H => Same H1 H ∧ ∃ acc, H D = some (.lst acc) ∧ acc.length = i ∧ AnyL (del H D) acc ((List.range i).map f)) ⟨same_new hD, [], upd_same, rfl, .nil⟩ (fun i H _ h => hG H h.1) ?_ ?_
  · rintro i x H H' hi ⟨s1, acc, ha, hl, an⟩ ⟨rfl, hp⟩
    obtain ⟨e1, e2⟩ := hs i x H' hi hp s1 ⟨_, ha⟩
    refine ⟨e1, ?_⟩
    show te _ _ _
    refine e2 _ fun y H4 s2 hy => ?_
    have h4 := s2 _ _ ha
    refine ⟨acc, h4, Nat.lt_of_lt_of_le (by omega : acc.length < 1000) (by decide), ?_, acc ++ [y], upd_same, by rw [List.length_append, hl] <;> rfl, ?_⟩
    · intro b o e
      have ne : b ≠ D := ne_of_none e hD
      rw [upd_ne ne]
      exact s2 _ _ (s1 _ _ e)
    · rw [del_upd, List.range_succ, List.map_append]
      exact anyL_snoc (anyL_keep (Grow.del (Grow.of s2)) an) (any_noL h4 _ _ hy (nf i hi))
  · rintro H ⟨s1, acc, ha, hl, an⟩
    exact hq H acc s1 ha an
abbrev rTupOf (K : PySem.W.Frag) : List V → Hp → VK → Prop := fun xs H Q => ∃ p ys, xs = [.ref p] ∧ ((SqL K H p ys ∧ ∀ l, H l = none → Q (.ref l) (upd H l (.tup ys))) ∨ (SqT K H p ys ∧ Q (.ref p) H))
abbrev rLstOf (K : PySem.W.Frag) : List V → Hp → VK → Prop := fun xs H Q => ∃ p ys, xs = [.ref p] ∧ (SqL K H p ys ∨ SqT K H p ys) ∧ ∀ l, H l = none → Q (.ref l) (upd H l (.lst ys))
section
variable {K : PySem.W.Frag} {H : Hp} {v : V} {d : PyData} {Q : VK}
/-- tuple(x) -/
theorem tup_of_any (an : Any H v d) (e : isSeqD d = true) (q : ∀ ts H', Same H H' → Any H' (.ref ts) (.tuple (itemsD d)) → Q (.ref ts) H') : rTupOf K [v] H Q := by
  cases an with
  | lst ea al => exact ⟨_, _, rfl, .inl ⟨SqL.of ea, fun l hl => q l _ (same_new hl) (.tup upd_same (anyL_keep (same_new hl) al))⟩⟩
  | tup ea al => exact ⟨_, _, rfl, .inr ⟨SqT.of ea, q _ _ (fun _ _ z => z) (.tup ea al)⟩⟩
  | _ => cases e
/-- list(x) -/
theorem list_of_any (an : Any H v d) (e : isSeqD d = true) (q : ∀ l ys, H l = none → AnyL H ys (itemsD d) → Q (.ref l) (upd H l (.lst ys))) : rLstOf K [v] H Q := by
  cases an with
  | lst ea al => exact ⟨_, _, rfl, .inl (SqL.of ea), fun l hl => q l _ hl al⟩
  | tup ea al => exact ⟨_, _, rfl, .inr (SqT.of ea), fun l hl => q l _ hl al⟩
  | _ => cases e
end
/-- tuple(x), list(x) of data -/
def rTupA : List V → Hp → VK → Prop := fun xs H Q => ∃ v d, xs = [v] ∧ Any H v d ∧ isSeqD d = true ∧ ∀ ts H', Same H H' → Any H' (.ref ts) (.tuple (itemsD d)) → Q (.ref ts) H'
def rLstA : List V → Hp → VK → Prop := fun xs H Q => ∃ v d, xs = [v] ∧ Any H v d ∧ isSeqD d = true ∧ ∀ l ys, H l = none → AnyL H ys (itemsD d) → Q (.ref l) (upd H l (.lst ys))
theorem call_tupA {X : Cx} : CallR X (.type "tuple") rTupA := by
  intro pins s σ H xs us Q I r h
  obtain ⟨v, d, rfl, an, e, q⟩ := h
  exact call_tuple_of pins s σ H _ us Q I r (tup_of_any an e q)
theorem call_lstA {X : Cx} : CallR X (.type "list") rLstA := by
  intro pins s σ H xs us Q I r h
  obtain ⟨v, d, rfl, an, e, q⟩ := h
  exact call_list_of pins s σ H _ us Q I r (list_of_any an e q)
theorem noL_mods {p : Int} {ds : List PyData} (h : ds.all isIntD = true) : noLs (ds.map (modD p)) = true := by
  refine noLs_of fun d hd => ?_
  obtain ⟨e, he, rfl⟩ := List.mem_map.mp hd
  have := List.all_eq_true.mp h e he
  cases e with
  | int n => rfl
  | _ => cases this
theorem vec_parts {n : Int} {d : PyData} (e : isVecD n d = true) : isSeqD d = true ∧ (((itemsD d).length : Nat) : Int) = n ∧ (itemsD d).all isIntD = true := by
  unfold isVecD at e
  simp only [Bool.and_eq_true, decide_eq_true_eq] at e
  exact e
theorem mat_parts {n m : Int} {d : PyData} (e : isMatD n m d = true) : isSeqD d = true ∧ (((itemsD d).length : Nat) : Int) = n ∧ ∀ x, x ∈ itemsD d → isVecD m x = true := by
  unfold isMatD at e
  simp only [Bool.and_eq_true, decide_eq_true_eq, List.all_eq_true] at e
  exact e
theorem noL_rows {p h w : Int} {m : PyData} (e : isMatD h w m = true) : noLs (rowsM p m) = true := by
  refine noLs_of fun d hd => ?_
  obtain ⟨r, hr, rfl⟩ := List.mem_map.mp hd
  exact noL_mods (vec_parts ((mat_parts e).2.2 r hr)).2.2
theorem bad_none_all {x : Str} {ds dm : PyData} (h : badAt x ds dm = none) : ∀ j, j < x.length → matOk x ds dm j = true := by
  intro j hj
  unfold badAt at h
  rw [List.find?_eq_none] at h
  have := h j (List.mem_range.mpr hj)
  simpa using this
end Rw

set_option Elab.async false
set_option linter.all false
set_option maxRecDepth 100000
set_option maxHeartbeats 4000000
/-! K11C: a row is made. -/
namespace K11
open PySem PySem.Spec PyProof.Rows L2 Rw
abbrev sIniR : Stmt := inClass (top 30) 0
abbrev NIniR : List Str := ["self", "pattern", "prime", "sizes", "maps", "matrix", "vector", "item"]
theorem scIniR : FnScope NIniR ["self", "pattern", "prime", "sizes", "maps"] (defScope sIniR) := ⟨rfl, rfl, rfl, by decide +kernel, rfl, by decide +kernel, by decide +kernel⟩
/-- the class of rows -/
structure RowCls (K : PySem.W.Frag) (C : Addr) : Prop where
  cl : Cls K C
  n1 : NoAttr K C "_pattern"
  n2 : NoAttr K C "_prime"
  n3 : NoAttr K C "_sizes"
  n4 : NoAttr K C "_maps"
abbrev tIt (K : PySem.W.Frag) : TE := tOp (rI (fun _ j => j ≠ 0) fun i j => .int (i.fmod j)) (tVar 7) (tVar 2)
abbrev tVc (K : PySem.W.Frag) : TE := tCB (rTupOf K) (tCons (tLc (iSeq K (tVar 6)) (gName 7) tYes (tIt K) [7]) tNil)
abbrev tMx (K : PySem.W.Frag) : TE := tCB (rTupOf K) (tCons (tLc (iSeq K (tVar 5)) (gName 6) tYes (tVc K) [6]) tNil)
section
variable {P : Program} {w : World} {K : PySem.W.Frag} {mg : Str → Option Value} {base : Heap} {aI aT C CP CT CZ CA CM CL : Addr} {kI : List (Int × Value)} {kT : List (Str × Value)}
theorem okIniR {f : Addr} {fd : FuncData} (F : Fun K "__init__" "Row.__init__" sIniR f fd) (T : Txt K w mg aI aT CP CT CZ CA CM CL kI kT) (R : RowCls K C) (GT : Own P w K mg base (L2.CX P w) 4 "check_pattern" ["pattern"] [] (spCPat CT)) (GP : Own P w K mg base (L2.CX P w) 4 "check_prime" ["prime"] [] (spCheck CP))
    (GZ : Own P w K mg base (L2.CX P w) 4 "check_sizes" ["pattern", "sizes"] [] (spCSz CZ)) (GA : Own P w K mg base (L2.CX P w) 5 "_check_maps" ["pattern", "sizes", "maps"] [] (spCMaps CA CM)) : FnOk P w K mg base (L2.CX P w) 6 f fd ["self", "pattern", "prime", "sizes", "maps"] (spIniR C CT CP CZ CA CM) := by
  refine F.okX scIniR (fun vs H Q E h => ?_) (fun cdv A outer s H vs Q E hr h => ?_)
  · obtain ⟨a, dx, vp, vq, va, vm, dp, dq, ds, dm, rfl, _⟩ := h
    rfl
  · obtain ⟨a, dx, vp, vq, va, vm, dp, dq, ds, dm, rfl, ea, I, er, q⟩ := h
    refine ⟨_, (pss_cons (ps_expr (pe_own (E := E) GT (hr.mono (by decide)) (passes_call (takes_of rfl rfl rfl rfl) (fun _ _ _ _ z => z)) (pa_cons (pv 1) pa_nil)))
      (pss_cons (ps_expr (pe_own (E := E) GP (hr.mono (by decide)) (passes_call (takes_of rfl rfl rfl rfl) (fun _ _ _ _ z => z)) (pa_cons (pv 2) pa_nil)))
      (pss_cons (ps_expr (pe_own (E := E) GZ (hr.mono (by decide)) (passes_call (takes_of rfl rfl rfl rfl) (fun _ _ _ _ z => z)) (pa_cons (pv 1) (pa_cons (pv 3) pa_nil))))
      (pss_cons (ps_expr (pe_own (E := E) GA (hr.mono (by decide)) (passes_call (takes_of rfl rfl rfl rfl) (fun _ _ _ _ z => z)) (pa_cons (pv 1) (pa_cons (pv 3) (pa_cons (pv 4) pa_nil)))))
      (pss_cons (ps_fld (pv 0) (pv 1) rfl)
      (pss_cons (ps_fld (pv 0) (pv 2) rfl)
      (pss_cons (ps_fld (pv 0) (pe_callTy call_tupA (by rfl) T.tuple (by decide +kernel) (pa_cons (pv 3) pa_nil)) rfl)
      (pss_one (ps_fld (pv 0) (pe_callTy call_tuple_of (by rfl) T.tuple (by decide +kernel) (pa_cons (pe_lc (own := [("matrix", 5)]) (g := gName 5) (tt := tYes) (te := tMx K) rfl scIniR.nd (pi_seq (pv 4)) (blkOk_by (N := NIniR) (sc := defScope sIniR) (by decide +kernel)) (fun _ _ _ _ _ => (pg_name (i := 5) scIniR.nd rfl (Or.inl rfl))) (fun _ _ _ _ _ => pts_nil)
        (fun _ _ _ _ _ => (pe_callTy call_tuple_of (by rfl) T.tuple (by decide +kernel) (pa_cons (pe_lc (own := [("vector", 6)]) (g := gName 6) (tt := tYes) (te := tVc K) rfl scIniR.nd (pi_seq (pv 5)) (blkOk_by (N := NIniR) (by rfl)) (fun _ _ _ _ _ => (pg_name (i := 6) scIniR.nd rfl (Or.inl rfl))) (fun _ _ _ _ _ => pts_nil)
          (fun _ _ _ _ _ => (pe_callTy call_tuple_of (by rfl) T.tuple (by decide +kernel) (pa_cons (pe_lc (own := [("item", 7)]) (g := gName 7) (tt := tYes) (te := tIt K) rfl scIniR.nd (pi_seq (pv 6)) (blkOk_by (N := NIniR) (by rfl)) (fun _ _ _ _ _ => (pg_name (i := 7) scIniR.nd rfl (Or.inl rfl))) (fun _ _ _ _ _ => pts_nil)
            (fun _ _ _ _ _ => (pe_op op_modN (pv 7) (pv 2)))) pa_nil)))) pa_nil)))) pa_nil)) rfl))))))))), ?_⟩
    have nolog : ∀ (v : V) (H : Hp), Same H H := fun _ _ _ _ z => z
    refine ⟨_, rfl, vp, dp, rfl, I.ap, I.sp, fun ep H1 k1 => ?_, er.pat⟩
    refine ⟨_, rfl, vq, dq, rfl, I.aq.keep k1, fun eq => ?_, fun eq => (er.pri ep eq).mono k1⟩
    obtain ⟨x, rfl⟩ : ∃ x, dp = .str x := by
      cases dp with
      | str x => exact ⟨x, rfl⟩
      | _ => cases ep
    obtain ⟨p, rfl, hp⟩ : ∃ p, dq = .int p ∧ p ∈ primesL := by
      cases dq with
      | int p => exact ⟨p, rfl, of_decide_eq_true eq⟩
      | _ => cases eq
    have lx : x.length ≤ 6 := by
      have h1 : (decide (x.length ≤ 6) && x.cps.toList.all isArr) = true := ep
      rw [Bool.and_eq_true] at h1
      exact of_decide_eq_true h1.1
    have ap := I.ap
    cases ap
    have aq := I.aq
    cases aq
    refine ⟨_, rfl, _, rfl, x, va, ds, rfl, lx, I.as.keep k1, I.ls, fun es H2 k2 => ?_, fun es => (er.siz x rfl ep eq es).mono k1⟩
    have k12 := k1.trans k2
    refine ⟨_, rfl, _, rfl, _, rfl, x, va, vm, ds, dm, rfl, lx, I.as.keep k12, es, I.am.keep k12, I.fm, fun em => (er.map x rfl ep eq es em).mono k12, fun em => ⟨fun i v H3 eb k3 av => er.mat x i v H3 rfl ep eq es em eb (k12.trans k3) av, fun eb H3 k3 => ?_⟩⟩
    have k13 := k12.trans k3
    have good : rowGood x p ds dm = true := by
      unfold rowGood
      rw [ep, eq, es, em, eb] <;> rfl
    refine ⟨_, rfl, _, rfl, a, C, dx, [], rfl, k13 _ _ ea, R.cl, R.n1, by decide, ?_⟩
    refine ⟨_, rfl, _, rfl, a, C, dx, _, rfl, upd_same, R.cl, R.n2, (by show 1 < 1000; decide), ?_⟩
    have g6 : Grow a H3 (upd (upd H3 a (.ins C dx (putF "_pattern" (.str x) []))) a (.ins C dx (putF "_prime" (.int p) (putF "_pattern" (.str x) [])))) := Grow.put.trans Grow.put
    have e6 : (upd (upd H3 a (.ins C dx (putF "_pattern" (.str x) []))) a (.ins C dx (putF "_prime" (.int p) (putF "_pattern" (.str x) [])))) a = some (.ins C dx [("_pattern", .str x), ("_prime", .int p)]) := upd_same
    generalize upd (upd H3 a (.ins C dx (putF "_pattern" (.str x) []))) a (.ins C dx (putF "_prime" (.int p) (putF "_pattern" (.str x) []))) = H6 at g6 e6 ⊢
    have G6 : Grow a H H6 := (Grow.of k13).trans g6
    have as6 := I.as.keeps (keeps_ins ea G6)
    obtain ⟨ss, _, _⟩ := sizes_parts es
    refine ⟨_, rfl, va, ds, rfl, as6, ss, fun ts H7 k7 at7 => ?_⟩
    refine ⟨_, rfl, a, C, dx, _, rfl, k7 _ _ e6, R.cl, R.n3, (by show 2 < 1000; decide), ?_⟩
    have e7 := k7 _ _ e6
    have g8 : Grow a H7 (upd H7 a (.ins C dx (putF "_sizes" (.ref ts) [("_pattern", .str x), ("_prime", .int p)]))) := Grow.put
    have at8 := at7.keeps (keeps_ins e7 g8)
    have e8 : (upd H7 a (.ins C dx (putF "_sizes" (.ref ts) [("_pattern", .str x), ("_prime", .int p)]))) a = some (.ins C dx [("_pattern", .str x), ("_prime", .int p), ("_sizes", .ref ts)]) := upd_same
    generalize upd H7 a (.ins C dx (putF "_sizes" (.ref ts) [("_pattern", .str x), ("_prime", .int p)])) = H8 at g8 at8 e8 ⊢
    have G8 : Grow a H H8 := (G6.trans (Grow.of k7)).trans g8
    have am8 := I.am.keeps (keeps_ins ea G8)
    obtain ⟨ms, ml⟩ := maps_parts em
    obtain ⟨k, b, xs, rfl, hs, al⟩ := seq_of am8 ms
    have ln := anyL_len al
    have fl := I.fm.len
    have all := bad_none_all eb
    have p0 : p ≠ 0 := by
      have := prime_pos hp
      omega
    refine ⟨.ref b, rfl, b, k, xs, rfl, hs (fun _ _ z => z) K, fun D hD => ?_⟩
    have mat : ∀ i, i < xs.length → ∃ h w, isMatD h w (atD dm i) = true := fun i hi => ⟨_, _, all i (by omega)⟩
    refine lc_tup walk_seq (by omega) hD (fun H' s' => hs s' K) (fun i => .tuple (rowsM p (atD dm i))) (fun i hi => by
      obtain ⟨h, w, e⟩ := mat i hi
      exact noL_rows e) ?_ ?_
    · rintro i y H9 hi hy s9 _
      refine ⟨rfl, fun k9 hk9 => ?_⟩
      obtain ⟨m, hm, am⟩ := anyL_at al hy
      obtain ⟨mh, mw, mo⟩ := mat i hi
      have em2 : atD dm i = m := atD_get hm
      rw [em2] at mo hk9
      have fm := I.fm.sub m (List.mem_of_getElem? hm)
      obtain ⟨m1, m2, m3⟩ := mat_parts mo
      obtain ⟨kv, b2, ys, rfl, hs2, al2⟩ := seq_of (am.keep s9) m1
      have ln2 := anyL_len al2
      have fl2 := fm.top.len
      refine ⟨.ref b2, rfl, b2, kv, ys, rfl, hs2 (fun _ _ z => z) K, fun D2 hD2 => ?_⟩
      refine lc_tup walk_seq (by omega) hD2 (fun H' s' => hs2 s' K) (fun j => .tuple ((itemsD (atD m j)).map (modD p))) (fun j hj => ?_) ?_ ?_
      · refine noL_mods (vec_parts (m3 _ ?_)).2.2
        unfold atD
        rw [List.getElem?_eq_getElem (show j < (itemsD m).length by omega)]
        exact List.getElem_mem _
      · rintro j z H10 hj hz s10 _
        refine ⟨rfl, fun k10 hk10 => ?_⟩
        obtain ⟨r, hr2, ar⟩ := anyL_at al2 hz
        have er2 : atD m j = r := atD_get hr2
        rw [er2] at hk10
        have hrm := List.mem_of_getElem? hr2
        obtain ⟨r1, r2, r3⟩ := vec_parts (m3 r hrm)
        obtain ⟨kr, b3, zs, rfl, hs3, al3⟩ := seq_of (ar.keep s10) r1
        have ln3 := anyL_len al3
        have fl3 := (fm.sub r hrm).len
        refine ⟨.ref b3, rfl, b3, kr, zs, rfl, hs3 (fun _ _ z => z) K, fun D3 hD3 => ?_⟩
        refine lc_tup walk_seq (by omega) hD3 (fun H' s' => hs3 s' K) (fun l => modD p ((itemsD r)[l]?.getD .none)) (fun l hl => ?_) ?_ ?_
        · have h1 : l < (itemsD r).length := by omega
          rw [List.getElem?_eq_getElem h1]
          have := List.all_eq_true.mp r3 _ (List.getElem_mem h1)
          show noL (modD p (itemsD r)[l]) = true
          cases hz : (itemsD r)[l] with
          | int n => rfl
          | _ => rw [hz] at this; cases this
        · rintro l u H11 hl hu s11 _
          refine ⟨rfl, fun k11 hk11 => ?_⟩
          obtain ⟨c, hc, ac⟩ := anyL_at al3 hu
          have ci := List.all_eq_true.mp r3 c (List.mem_of_getElem? hc)
          obtain ⟨n, rfl, rfl⟩ := int_of ac ci
          rw [hc] at hk11
          exact ⟨_, rfl, _, rfl, n, p, rfl, rfl, p0, hk11 _ _ (fun _ _ z => z) (.int _)⟩
        · intro H11 acc s11 ha hal
          rw [ln3, map_get (modD p) .none] at hal
          refine ⟨D3, acc, rfl, .inl ⟨SqL.of ha, fun l hl => hk10 _ _ (s11.trans (same_new hl)) (.tup upd_same (anyL_keep (same_del.trans (same_new hl)) hal))⟩⟩
      · intro H10 acc s10 ha hal
        have e3 : (List.range ys.length).map (fun j => PyData.tuple ((itemsD (atD m j)).map (modD p))) = rowsM p m := by
          rw [ln2]
          exact map_get (fun r => PyData.tuple ((itemsD r).map (modD p))) .none (itemsD m)
        rw [e3] at hal
        exact ⟨D2, acc, rfl, .inl ⟨SqL.of ha, fun l hl => hk9 _ _ (s10.trans (same_new hl)) (.tup upd_same (anyL_keep (same_del.trans (same_new hl)) hal))⟩⟩
    · intro H9 acc s9 ha hal
      have e3 : (List.range xs.length).map (fun j => PyData.tuple (rowsM p (atD dm j))) = ((itemsD dm).map (rowsM p)).map PyData.tuple := by
        rw [ln]
        have := map_get (fun r => PyData.tuple (rowsM p r)) .none (itemsD dm)
        rw [List.map_map]
        exact this
      rw [e3] at hal
      refine ⟨D, acc, rfl, .inl ⟨SqL.of ha, fun l hl => ?_⟩⟩
      have k10 := s9.trans (same_new (o := .tup acc) hl)
      have e10 := k10 _ _ e8
      refine ⟨_, rfl, a, C, dx, _, rfl, e10, R.cl, R.n4, (by show 3 < 1000; decide), ?_⟩
      have at10 := at8.keep k10
      have am10 : Any (upd H9 l (.tup acc)) (.ref l) (.tuple (((itemsD dm).map (rowsM p)).map PyData.tuple)) := .tup upd_same (anyL_keep (same_del.trans (same_new hl)) hal)
      have g11 : Grow a (upd H9 l (.tup acc)) (upd (upd H9 l (.tup acc)) a (.ins C dx (putF "_maps" (.ref l) [("_pattern", .str x), ("_prime", .int p), ("_sizes", .ref ts)]))) := Grow.put
      have kp := keeps_ins e10 g11
      exact q x p _ rfl rfl good ((G8.trans (Grow.of k10)).trans g11) ⟨dx, ts, l, upd_same, at10.keeps kp, am10.keeps kp⟩
end
end K11

set_option Elab.async false
set_option linter.all false
set_option maxRecDepth 100000
set_option maxHeartbeats 4000000
/-! TkY: ranges as values, walked; methods called in a try's body; bars as data. -/
namespace Rw
open PySem PySem.Spec PyProof.Rows L2
section
variable {X : Cx}
theorem cr_range1 : CallR X (.type "range") (fun vs H Q => ∃ j, vs = [V.int j] ∧ ∀ p, H p = none → Q (.ref p) (upd H p (.rng 0 j))) := by
  intro pins s σ H vs us Q I r h
  obtain ⟨j, rfl, q⟩ := h
  obtain ⟨u1, rfl, rj⟩ := vals1 r
  obtain ⟨t, rfl⟩ := rj
  refine call_range_1 ⟨.ref s.heap.objs.size, upd H s.heap.objs.size (.rng 0 j), I.laid (t' := s.toks + 1 + 1) (fun b o e => Heap.get?_push_of_some _ e) (Nat.le_refl _) ?_, rfl, q _ (I.hok.fresh (Nat.le_refl _))⟩
  exact ⟨s.toks, t, s.toks + 1, Heap.get?_push_size _ rfl⟩
def iRngV (te : TE) : TI := fun σ H R => te σ H fun x H1 => ∃ a lo hi, x = .ref a ∧ H1 a = some (.rng lo hi) ∧ (-(2 ^ 62) ≤ lo ∧ lo < 2 ^ 62 ∧ -(2 ^ 62) ≤ hi ∧ hi < 2 ^ 62) ∧ R (Itr lo (hi - lo).toNat) H1
theorem pi_rngV {tg e : Expr} {te : TE} (he : PE X e te) : PI X tg e (iRngV te) := by
  refine ⟨fun pins s σ H R I h => ?_⟩
  refine thn (he.run pins s σ H _ I h) fun v s1 ⟨x, H1, I1, r1, q1⟩ => ?_
  obtain ⟨a, lo, hi, e, ea, ⟨h1, h2, h3, h4⟩, q⟩ := q1
  subst e
  cases r1
  obtain ⟨t, u, v, hg⟩ := (show ObjOk X.prog X.w H1 s1.heap a (.rng lo hi) from I1.hok a _ ea)
  refine wpAny_pyIter_range (show IsRange s1.heap a lo hi 1 t u v from hg) (small_one h1 h2 h3 h4) ?_
  refine ⟨s1.heap.objs.size, [s1.heap.objs.size], _, _, H1, rfl, I1.kept (t' := s1.toks) fun b o e => Heap.get?_push_of_some _ e, turn_range _ lo (hi - lo).toNat, ?_, fun b hb => ?_, q⟩
  · have e1 : lo + ((0 : Nat) : Int) * 1 = lo := by simp
    have e2 : (((hi - lo).toNat : Nat) : Int) - ((0 : Nat) : Int) = Builtin.Range.rangeSize lo hi 1 := by rw [rangeSize_one]; split <;> omega
    show IsRangeIter _ _ (lo + ((0 : Nat) : Int) * 1) ((((hi - lo).toNat : Nat) : Int) - ((0 : Nat) : Int)) 1
    rw [e1, e2]
    exact Heap.get?_push_size _ rfl
  · have e : b = s1.heap.objs.size := by simpa using hb
    subst e
    exact I1.fpOk (Nat.le_refl _) (I1.hok.fresh (Nat.le_refl _))
end
section
variable {X : Cx} {CX : CXT} {k : Nat} {f C : Addr} {fd : FuncData} {ps : List Str} {sp : Sp} {dvs : List V} {ds : List Value} {m : Str} {p pos apos : Pos} {e o : Expr} {es : List Expr} {ta : TE} {t : TA}
/-- o.m(e, ..) in a try's body: what is raised is wished for at the slots -/
def tMethS (C : Addr) (m : Str) (sp : Sp) (dvs : List V) (W : WX) (ta : TE) (t : TA) : TE := fun σ H Q => ta σ H fun x H1 => ∃ a dx fs, x = .ref a ∧ H1 a = some (.ins C dx fs) ∧ fs.lookup m = none ∧ t σ H1 fun vs H2 => sp (x :: (vs ++ dvs)) H2 Q (fun cls d H' => W cls d σ H')
theorem run_ownS {W : WX} {pins : List (Addr × Obj)} {σ : L2.St} {H : Hp} {s : Shared} {Q : VK} {us : List Value} {vs : List V} (F : FnOk X.prog X.w X.K X.mg X.base CX k f fd ps sp) (hr : Room k X.A) (hb : Binds X.K fd ps ds) (hd : Vals dvs ds) (hx : PassesAt CX X σ (fun cls d H' => W cls d σ H'))
    (I : Inv X pins σ H s) (r : Vals vs us) (h : sp (vs ++ dvs) H Q (fun cls d H' => W cls d σ H')) : wpAny (model X.prog X.w) X.A (call (.ref f) us) (EP X pins σ Q) X.xe s := by
  have r2 : Vals (vs ++ dvs) (us ++ ds) := Vals.append r hd
  have cnt : (us ++ ds).length = ps.length := (r2.length).symm.trans (F.len _ _ _ _ h)
  refine wpAny_call (codeAny_mono (F.run X.A X.stack s H ⟨us, []⟩ (us ++ ds) (vs ++ dvs) Q _ hr I.env0 (hb s us I.kIn cnt) r2 h) ?_)
  intro res s2 hq
  cases res with
  | error er => exact hx pins H s er s2 I hq
  | ok fl =>
    cases fl with
    | ret u => exact Inv.after I hq
    | next => exact hq.elim
    | brk => exact hq.elim
    | cont => exact hq.elim
theorem pe_methS {W : WX} {pl : Sem Bool} (he : PE X o ta) (c : Cls X.K C) (hm : Meth X.K C m f) (F : FnOk X.prog X.w X.K X.mg X.base CX k f fd ps sp) (hr : Room k X.A) (hb : Binds X.K fd ps ds) (hd : Vals dvs ds) (hx : ∀ σ, PassesAt CX X σ (fun cls d H' => W cls d σ H')) (ha : PA X (e :: es) t)
    (hst : starEach (e :: es) X.env = (false, eval e X.env) :: starEach es X.env := by rfl) (hpl : (backTo pos (starEach es X.env)).any (·.1) = false := by rfl)
    (ht : eval (.Call (.Attribute o m apos) (e :: es) [] pos) X.env = (do
      let ov ← eval o X.env
      standAt apos.atName
      let (f, first) ← holding [ov] (getMethod ov m pl)
      callWith pos f first (backTo pos (starEach (e :: es) X.env)) (backToKw pos (keywordEach [] X.env))) := by rfl) :
    PE X (.Call (.Attribute o m apos) (e :: es) [] pos) (tMethS C m sp dvs W ta t) := by
  refine ⟨fun pins s σ H Q I h => ?_⟩
  refine PySem.W.methodCall_KW (pl := pl) (thn (he.run pins s σ H _ I h) fun u s1 ⟨x, H1, I1, rx, a, dx, fs, ex, ea, l, q⟩ => ?_) ht
  subst ex
  obtain rfl : u = Value.ref a := rx
  refine getmeth_ok I1 ea c hm l ?_
  refine PySem.W.callWith_K (first := [.ref a]) (h₀ := X.base) I.ok.mod.kin hm.kp (thn (ha.run pos pins s1 σ H1 _ I1 q) fun us s2 ⟨vs, H2, I2, r, q2⟩ => ⟨I2.kIn, ?_⟩) hst hpl
  exact run_ownS (us := .ref a :: us) (vs := .ref a :: vs) F hr hb hd (hx σ) I2 (.cons rfl r) q2
theorem run_makeS {W : WX} {pins : List (Addr × Obj)} {σ : L2.St} {H : Hp} {s : Shared} {Q : VK} {us : List Value} {vs : List V} (M : Mk X.K C f) (F : FnOk X.prog X.w X.K X.mg X.base CX k f fd ps sp) (hr : Room (k + 1) X.A) (hb : Binds X.K fd ps ds) (hd : Vals dvs ds)
    (hx : ∀ σ, PassesAt CX X σ (fun cls d H' => W cls d σ H')) (I : Inv X pins σ H s) (r : Vals vs us)
    (h : ∀ x dx, H x = none → H dx = none → dx ≠ x → sp (.ref x :: (vs ++ dvs)) (upd (upd H dx (.own x)) x (.ins C dx [])) (fun v H2 => v = .non ∧ Q (.ref x) H2) (fun cls d H' => W cls d σ H')) :
    wpAny (model X.prog X.w) X.A (call (.ref C) us) (EP X pins σ Q) X.xe s := by
  have hq := h (s.heap.objs.size + 1) s.heap.objs.size (I.hok.fresh (Nat.le_succ _)) (I.hok.fresh (Nat.le_refl _)) (Nat.ne_of_lt (Nat.lt_succ_self _))
  have I2 := Inv.made (C := C) I
  have r2 : Vals (V.ref (s.heap.objs.size + 1) :: (vs ++ dvs)) (Value.ref (s.heap.objs.size + 1) :: (us ++ ds)) := .cons rfl (r.append hd)
  have hl : (Value.ref (s.heap.objs.size + 1) :: us ++ ds).length = ps.length := by
    have e := r2.length
    rw [F.len _ _ _ _ hq] at e
    exact e.symm
  refine wpAny_call (make_map (f := f) I.kIn M.makes M.init (beq_iff_eq.mp M.fn) (codeAny_mono (F.run _ X.stack _ _ ⟨Value.ref (s.heap.objs.size + 1) :: us, []⟩ (Value.ref (s.heap.objs.size + 1) :: (us ++ ds)) _ _ _ (hr.make C us [])
    (I2.env0.make C us []) (hb _ (Value.ref (s.heap.objs.size + 1) :: us) I2.kIn hl) r2 hq) fun r s' hq' => ?_))
  cases r with
  | error e => exact hx σ pins _ _ e s' I2 hq'
  | ok fl =>
    cases fl with
    | ret u =>
      obtain ⟨v, H', I3, rv, ev, q3⟩ := I2.after hq'
      subst ev
      exact ⟨rv, ⟨V.ref (s.heap.objs.size + 1), H', I3, rfl, q3⟩⟩
    | next => exact False.elim hq'
    | brk => exact False.elim hq'
    | cont => exact False.elim hq'
/-- C(e, ..) in a try's body -/
def tMakeS (C : Addr) (sp : Sp) (dvs : List V) (W : WX) (t : TA) : TE := fun σ H Q => t σ H fun vs H1 => ∀ x dx, H1 x = none → H1 dx = none → dx ≠ x → sp (.ref x :: (vs ++ dvs)) (upd (upd H1 dx (.own x)) x (.ins C dx [])) (fun v H2 => v = .non ∧ Q (.ref x) H2) (fun cls d H' => W cls d σ H')
theorem pe_makeS {x : Str} {W : WX} (M : Mk X.K C f) (F : FnOk X.prog X.w X.K X.mg X.base CX k f fd ps sp) (hr : Room (k + 1) X.A) (hg : Gl X x) (hm : X.mg x = some (.ref C)) (hb : Binds X.K fd ps ds) (hd : Vals dvs ds) (hx : ∀ σ, PassesAt CX X σ (fun cls d H' => W cls d σ H'))
    (ha : PA X (e :: es) t) (hdb : (x == ("__debug__" : Str)) = false := by decide) (he : starEach (e :: es) X.env = (false, eval e X.env) :: starEach es X.env := by rfl) (hpl : (backTo pos (starEach es X.env)).any (·.1) = false := by rfl) :
    PE X (.Call (.Name x p) (e :: es) [] pos) (tMakeS C sp dvs W t) := by
  refine ⟨fun pins s σ H Q I h => ?_⟩
  refine wpAny_Call_Name_kw (ld_glob I hg hm ?_ hdb)
  refine PySem.W.callWith_K (h₀ := X.base) I.ok.mod.kin M.kp (thn (ha.run pos pins s σ H _ I h) fun us s1 ⟨vs, H1, I1, r, q⟩ => ⟨I1.kIn, ?_⟩) he hpl
  exact run_makeS M F hr hb hd hx I1 r q
end
/-! ### bars -/
def barD (q : Nat × Nat) : PyData := .tuple [.int (q.1 : Nat), .int (q.2 : Nat)]
def partL (a j : Nat) : List (Nat × Nat) := ((List.range j).filter fun b => decide (a ≤ b)).map fun b => (a, b)
def preL (n i : Nat) : List (Nat × Nat) := (List.range i).flatMap fun a => partL a n
def barsL (n : Nat) : List (Nat × Nat) := preL n n
theorem part_len (a j : Nat) : (partL a j).length ≤ j := by
  unfold partL
  rw [List.length_map]
  exact Nat.le_trans (List.length_filter_le _ _) (by simp)
theorem pre_len (n : Nat) : ∀ i, (preL n i).length ≤ i * n
  | 0 => by simp [preL]
  | i + 1 => by
    unfold preL
    rw [List.range_succ, List.flatMap_append, List.length_append, Nat.succ_mul]
    have h1 := pre_len n i
    have h2 := part_len i n
    unfold preL at h1
    simp only [List.flatMap_cons, List.flatMap_nil, List.append_nil]
    omega
theorem pre_succ (n i : Nat) : preL n (i + 1) = preL n i ++ partL i n := by
  unfold preL
  rw [List.range_succ, List.flatMap_append]
  simp
theorem part_succ (a j : Nat) : partL a (j + 1) = if a ≤ j then partL a j ++ [(a, j)] else partL a j := by
  unfold partL
  rw [List.range_succ, List.filter_append, List.map_append]
  by_cases h : a ≤ j
  · rw [if_pos h]
    simp [h]
  · rw [if_neg h]
    simp [h]
def spBars (CT : Addr) : Sp := fun vs H Q E => ∃ v d, vs = [v] ∧ Any H v d ∧ Short d ∧ (isPatD d = false → Thrown CT v H E) ∧
  ∀ x, d = .str x → isPatD d = true → ∀ l acc H', H l = none → Same H H' → H' l = some (.lst acc) → AnyL (del H' l) acc ((barsL (x.length + 1)).map barD) → Q (.ref l) H'
def spLenR (C : Addr) : Sp := fun vs H Q _ => ∃ a x p ss mm, vs = [.ref a] ∧ RowAt C H a x p ss mm ∧ Q (.int (ss.length : Nat)) H
def spMatx (C CL : Addr) : Sp := fun vs H Q E => ∃ a v d x p ss mm, vs = [.ref a, v] ∧ RowAt C H a x p ss mm ∧ Any H v d ∧ mm.length ≤ 1000 ∧ (inB d (.int 0) (.int ((mm.length : Nat) - 1 : Int)) = false → ∀ H1, Same H H1 → Thrown CL v H1 E) ∧
  (∀ i : Nat, d = .int i → i < mm.length → ∀ l ys H', H l = none → Same H H' → H' l = some (.lst ys) → AnyL (del H' l) ys (mm[i]?.getD []) → Q (.ref l) H')
def spMaps (C : Addr) : Sp := fun vs H Q _ => ∃ a x p ss mm, vs = [.ref a] ∧ RowAt C H a x p ss mm ∧ mm.length ≤ 1000 ∧ ∀ l acc H', H l = none → Same H H' → H' l = some (.lst acc) → AnyL (del H' l) acc (mm.map .list) → Q (.ref l) H'
end Rw

set_option Elab.async false
set_option linter.all false
set_option maxRecDepth 100000
set_option maxHeartbeats 4000000
/-! K11D: bars, the length and a matrix of a row. -/
namespace K11
open PySem PySem.Spec PyProof.Rows L2 Rw
abbrev sBars : Stmt := top 25
abbrev sMatx : Stmt := inClass (top 30) 5
abbrev sLenR : Stmt := inClass (top 30) 6
abbrev NBars : List Str := ["pattern", "places", "first", "last"]
theorem scBars : FnScope NBars ["pattern"] (defScope sBars) := ⟨rfl, rfl, rfl, by decide +kernel, rfl, by decide +kernel, by decide +kernel⟩
theorem scMatx : FnScope ["self", "index"] ["self", "index"] (defScope sMatx) := ⟨rfl, rfl, rfl, by decide +kernel, rfl, by decide +kernel, by decide +kernel⟩
theorem scLenR : FnScope ["self"] ["self"] (defScope sLenR) := ⟨rfl, rfl, rfl, by decide +kernel, rfl, by decide +kernel, by decide +kernel⟩
section
variable {P : Program} {w : World} {K : PySem.W.Frag} {mg : Str → Option Value} {base : Heap} {aI aT C CP CT CZ CA CM CL : Addr} {kI : List (Int × Value)} {kT : List (Str × Value)}
theorem okLenR {f : Addr} {fd : FuncData} (F : Fun K "__len__" "Row.__len__" sLenR f fd) (T : Txt K w mg aI aT CP CT CZ CA CM CL kI kT) (R : RowCls K C) : FnOk P w K mg base CX0 1 f fd ["self"] (spLenR C) := by
  refine F.ok scLenR (fun vs H Q E h => ?_) (fun cdv A outer s H vs Q E hr h => ?_)
  · obtain ⟨a, x, p, ss, mm, rfl, _⟩ := h
    rfl
  · obtain ⟨a, x, p, ss, mm, rfl, ⟨dx, ts, tm, ea, at_, am⟩, q⟩ := h
    refine ⟨_, (pss_one (ps_ret (pe_callB call_len_seq (by rfl) T.len (by decide +kernel) (pa_cons (pe_fld (pv 0) rfl) pa_nil)))), ?_⟩
    cases at_ with
    | tup et al =>
      refine ⟨_, rfl, a, C, dx, _, _, rfl, ea, R.cl, R.n3, rfl, ts, _, rfl, .inr (SqT.of et), ?_⟩
      rw [anyL_len al]
      exact q
theorem okMatx {f : Addr} {fd : FuncData} (F : Fun K "matrix" "Row.matrix" sMatx f fd) (T : Txt K w mg aI aT CP CT CZ CA CM CL kI kT) (R : RowCls K C) (GI : Own P w K mg base CX0 2 "is_integer" ["value", "low", "high"] [] spInt) : FnOk P w K mg base (L2.CX P w) 4 f fd ["self", "index"] (spMatx C CL) := by
  refine F.okX scMatx (fun vs H Q E h => ?_) (fun cdv A outer s H vs Q E hr h => ?_)
  · obtain ⟨a, v, d, x, p, ss, mm, rfl, _⟩ := h
    rfl
  · obtain ⟨a, v, d, x, p, ss, mm, rfl, ⟨dx, ts, tm, ea, at_, am⟩, an, lm, xf, q⟩ := h
    refine ⟨_, (pss_cons (ps_if (pt_not (pt_val (pe_own GI (hr.mono (by decide)) pass0 (pa_cons (pv 1) (pa_cons pe_int (pa_cons (pe_op op_sub (pe_callB call_len_seq (by rfl) T.len (by decide +kernel) (pa_cons (pe_fld (pv 0) rfl) pa_nil)) pe_int) pa_nil)))))) (pss_one (ps_throw T.eL rfl (hr.mono (by decide)) (takes_of rfl rfl rfl rfl) (pv 1))) pss_nil)
      (pss_one (ps_ret (pe_callTy call_lstA (by rfl) T.list (by decide +kernel) (pa_cons (pe_ix ix_seq (pe_fld (pv 0) rfl) (pv 1) (fun _ _ => rfl)) pa_nil))))), ?_⟩
    cases am with
    | tup em al =>
      have ln := anyL_len al
      rw [List.length_map] at ln
      refine ⟨_, rfl, _, rfl, a, C, dx, _, _, rfl, ea, R.cl, R.n4, rfl, tm, _, rfl, .inr (SqT.of em), _, _, rfl, rfl, v, _, _, d, .int 0, .int ((mm.length : Nat) - 1 : Int), rfl, an, .int _, (by rw [ln]; exact .int _), _, rfl, ?_⟩
      cases eb : inB d (.int 0) (.int ((mm.length : Nat) - 1 : Int)) with
      | false => exact iteT ⟨_, rfl, thrown_go (xf eb H (fun _ _ z => z))⟩
      | true =>
        refine iteF ?_
        obtain ⟨n, rfl, n0, n1⟩ : ∃ n, d = .int n ∧ 0 ≤ n ∧ n ≤ (mm.length : Nat) - 1 := by
          cases d with
          | int n =>
            have h1 : (decide ((0 : Int) ≤ n) && decide (n ≤ (mm.length : Nat) - 1)) = true := eb
            simp only [Bool.and_eq_true, decide_eq_true_eq] at h1
            exact ⟨n, rfl, h1⟩
          | _ => cases eb
        cases an
        obtain ⟨i, rfl⟩ : ∃ i : Nat, n = (i : Int) := ⟨n.toNat, by omega⟩
        have hi : i < mm.length := by omega
        have e1 : (mm.map PyData.tuple)[i]? = some (.tuple mm[i]) := by
          rw [List.getElem?_map, List.getElem?_eq_getElem hi] <;> rfl
        obtain ⟨y, hy, ay⟩ := anyL_of al e1
        refine ⟨_, rfl, a, C, dx, _, _, rfl, ea, R.cl, R.n4, rfl, _, rfl, .inr (.inl ⟨tm, _, (i : Int), _, rfl, rfl, SqT.of em, atI_nat hy, ?_⟩)⟩
        refine ⟨y, _, rfl, ay, rfl, fun l ys hl al2 => q i rfl hi l ys _ hl (same_new hl) upd_same ?_⟩
        rw [List.getElem?_eq_getElem hi, del_upd]
        have e2 : del H l = H := by
          funext b
          by_cases z : b = l
          · rw [z, del_same, hl]
          · exact del_ne z
        rw [e2]
        exact al2
theorem okBars {f : Addr} {fd : FuncData} (F : Fun K "bars" "bars" sBars f fd) (T : Txt K w mg aI aT CP CT CZ CA CM CL kI kT) (GT : Own P w K mg base (L2.CX P w) 4 "check_pattern" ["pattern"] [] (spCPat CT)) : FnOk P w K mg base (L2.CX P w) 5 f fd ["pattern"] (spBars CT) := by
  refine F.okX scBars (fun vs H Q E h => ?_) (fun cdv A outer s H vs Q E hr h => ?_)
  · obtain ⟨v, d, rfl, _⟩ := h
    rfl
  · obtain ⟨v, d, rfl, an, sh, xf, q⟩ := h
    refine ⟨_, (pss_cons (ps_expr (pe_own (E := E) GT (hr.mono (by decide)) (passes_call (takes_of rfl rfl rfl rfl) (fun _ _ _ _ z => z)) (pa_cons (pv 0) pa_nil)))
      (pss_cons (ps_set (i := 1) scBars.nd rfl (Or.inr rfl) (pe_callTy cr_range1 (by rfl) T.range boot_range (pa_cons (pe_op op_add (pe_callB call_len_str (by rfl) T.len (by decide +kernel) (pa_cons (pv 0) pa_nil)) pe_int) pa_nil)))
      (pss_one (ps_ret (pe_lc2 (own := [("first", 2), ("last", 3)]) (g := gName 2) (tt := tYes) (g1 := gName 3) (vs1 := [3]) rfl scBars.nd (pi_rngV (pv 1)) (blkOk_by (N := NBars) (sc := defScope sBars) (by decide +kernel)) (by decide) (fun _ _ _ _ _ => (pg_name (i := 2) scBars.nd rfl (Or.inl rfl))) (fun _ _ _ _ _ => pts_nil) (fun _ _ _ _ _ => (pi_rngV (pv 1))) (fun _ _ _ _ _ => (pg_name (i := 3) scBars.nd rfl (Or.inl rfl))) (fun _ _ _ _ _ => pts_one (pt_cmpR op_le (pv 2) (pv 3) (nomark _))) (fun _ _ _ _ _ => (pe_tup (pa_cons (pv 2) (pa_cons (pv 3) pa_nil))))))))), ?_⟩
    refine ⟨_, rfl, v, d, rfl, an, sh, fun ep H1 k1 => ?_, xf⟩
    obtain ⟨x, rfl⟩ : ∃ x, d = .str x := by
      cases d with
      | str x => exact ⟨x, rfl⟩
      | _ => cases ep
    cases an
    have lx : x.length ≤ 6 := by
      have h1 : (decide (x.length ≤ 6) && x.cps.toList.all isArr) = true := ep
      rw [Bool.and_eq_true] at h1
      exact of_decide_eq_true h1.1
    refine ⟨_, rfl, x, rfl, Nat.le_trans lx (by decide), _, _, rfl, rfl, _, rfl, fun r hr1 => ?_⟩
    have k2 := k1.trans (same_new (o := .rng 0 ((x.length : Int) + 1)) hr1)
    have er : (upd H1 r (.rng 0 ((x.length : Int) + 1))) r = some (.rng 0 ((x.length : Int) + 1)) := upd_same
    generalize upd H1 r (.rng 0 ((x.length : Int) + 1)) = H2 at k2 er ⊢
    have en : (((x.length : Int) + 1) - 0).toNat = x.length + 1 := by omega
    refine ⟨_, rfl, r, _, _, rfl, er, ⟨by decide, by decide, by omega, by omega⟩, fun D hD => ?_⟩
    rw [en]
    have hn : x.length + 1 ≤ 7 := by omega
    generalize hN : x.length + 1 = n at hn ⊢
    refine ⟨fun i m H' => m = n - i ∧ i ≤ n ∧ Same H2 H' ∧ ∃ acc, H' D = some (.lst acc) ∧ AnyL (del H' D) acc ((preL n i).map barD), ⟨n, by simp, Nat.zero_le _, same_new hD, [], upd_same, .nil⟩, ?_⟩
    rintro i m H3 ⟨rfl, hi, k3, acc, ha, al⟩
    by_cases hlt : i < n
    · refine .inr ⟨hlt, fun H' => (i + 1 ≤ n) ∧ Same H2 H' ∧ ∃ acc, H' D = some (.lst acc) ∧ AnyL (del H' D) acc ((preL n (i + 1)).map barD), fun H' z => ⟨n - (i + 1), by omega, rfl, z⟩, ?_⟩
      rintro y H4 ⟨rfl, rfl⟩
      refine ⟨rfl, ?_⟩
      unfold tYes
      refine Eq.mpr (if_pos (rfl : true = true)) ?_
      refine ⟨_, rfl, r, _, _, rfl, k3 _ _ er, ⟨by decide, by decide, by omega, by omega⟩, ?_⟩
      rw [en, hN]
      refine ⟨fun j k H' => k = n - j ∧ j ≤ n ∧ Same H2 H' ∧ ∃ acc, H' D = some (.lst acc) ∧ AnyL (del H' D) acc ((preL n i ++ partL i j).map barD), ⟨n, by simp, Nat.zero_le _, k3, acc, ha, by simpa [partL] using al⟩, ?_⟩
      rintro j k H5 ⟨rfl, hj, k5, acc5, ha5, al5⟩
      by_cases hlt2 : j < n
      · refine .inr ⟨hlt2, fun H' => (j + 1 ≤ n) ∧ Same H2 H' ∧ ∃ acc, H' D = some (.lst acc) ∧ AnyL (del H' D) acc ((preL n i ++ partL i (j + 1)).map barD), fun H' z => ⟨n - (j + 1), by omega, rfl, z⟩, ?_⟩
        rintro y H6 ⟨rfl, rfl⟩
        refine ⟨rfl, ?_⟩
        refine ⟨_, rfl, _, rfl, _, _, rfl, rfl, _, rfl, ?_⟩
        refine ite2 (fun z => ?_) (fun z => ?_)
        · have z2 : i ≤ j := by
            have := of_decide_eq_true z
            omega
          refine ⟨_, rfl, _, rfl, (by show 2 ≤ sizeLine; decide), fun t ht => ?_⟩
          have h5 := same_new (o := .tup [.int (0 + (i : Int)), .int (0 + (j : Int))]) ht _ _ ha5
          have lb : acc5.length ≤ 100 := by
            rw [anyL_len al5, List.length_map, List.length_append]
            have h1 := pre_len n i
            have h2 := part_len i j
            have h3 : i * n ≤ 7 * 7 := Nat.mul_le_mul (by omega) hn
            omega
          refine ⟨acc5, h5, Nat.lt_of_le_of_lt lb (by decide), by omega, fun b o e => ?_, acc5 ++ [.ref t], upd_same, ?_⟩
          · have ne : b ≠ D := ne_of_none e hD
            rw [upd_ne ne]
            exact same_new ht _ _ (k5 _ _ e)
          · rw [del_upd, part_succ, if_pos z2, ← List.append_assoc, List.map_append]
            refine anyL_snoc (anyL_keep (del_new ht) al5) (any_noL h5 _ _ (.tup upd_same ?_) rfl)
            have e1 : (0 + (i : Int)) = ((i : Nat) : Int) := by omega
            have e2 : (0 + (j : Int)) = ((j : Nat) : Int) := by omega
            rw [e1, e2]
            exact .cons (.int _) (.cons (.int _) .nil)
        · have z2 : ¬ i ≤ j := fun y => z (decide_eq_true (by omega))
          refine ⟨by omega, k5, acc5, ha5, ?_⟩
          rw [part_succ, if_neg z2]
          exact al5
      · have ej : j = n := by omega
        subst ej
        refine .inl ⟨Nat.le_refl _, by omega, k5, acc5, ha5, ?_⟩
        rw [pre_succ]
        exact al5
    · have ei : i = n := by omega
      subst ei
      refine .inl ⟨Nat.le_refl _, q x rfl ep D acc H3 (k2.free hD) (k2.trans k3) ha ?_⟩
      rw [hN]
      exact al
end
end K11

set_option Elab.async false
set_option linter.all false
set_option maxRecDepth 100000
set_option maxHeartbeats 4000000
/-! TkN: data that is small enough to be shown. -/
namespace Rw
open PySem PySem.Spec PyProof.Rows L2
theorem list_len (t : Str) (r : List Str) : (listText (t :: r)).length = t.length + piled r + 2 := by
  have a : (listText (t :: r)).length = (textFrom 1 (("[" : Str) ++ (if (0 : Nat) > 0 then ", " else "" : String) ++ t) r).length + 1 := by
    show (textFrom 0 "[" (t :: r) ++ "]").length = _
    rw [strLen_append]
    rfl
  rw [a, textFrom_length_pos r 1 _ (by decide), strLen_append, strLen_append]
  show 1 + 0 + t.length + piled r + 1 = _
  omega
/-- small enough, at the n-th level of lists -/
structure Tm (n : Nat) (d : PyData) : Prop where
  sh : d.showable = true
  dp : d.depth ≤ 3 + n
  ln : d.shown.length ≤ 50 * 8 ^ n
theorem Tm.up {n m : Nat} {d : PyData} (h : Tm n d) (l : n ≤ m) : Tm m d := ⟨h.sh, by have := h.dp; omega, Nat.le_trans h.ln (Nat.mul_le_mul_left _ (Nat.pow_le_pow_right (by decide) l))⟩
theorem piled_le {B : Nat} : ∀ {ts : List Str}, (∀ t ∈ ts, t.length ≤ B) → piled ts ≤ ts.length * (B + 2)
  | [], _ => by rw [piled_nil]; exact Nat.zero_le _
  | t :: ts, h => by
    rw [piled_cons, List.length_cons, Nat.succ_mul]
    have a := h t List.mem_cons_self
    have b := piled_le (ts := ts) fun x hx => h x (List.mem_cons_of_mem _ hx)
    omega
theorem shownAll_map : ∀ ds : List PyData, PyData.shownAll ds = ds.map PyData.shown
  | [] => by simp only [PyData.shownAll]; rfl
  | d :: ds => by
    simp only [PyData.shownAll]
    rw [shownAll_map ds] <;> rfl
theorem tm_all {n : Nat} : ∀ {ds : List PyData}, (∀ d ∈ ds, Tm n d) → PyData.showableAll ds = true ∧ PyData.depthAll ds ≤ 3 + n ∧ ∀ t ∈ PyData.shownAll ds, t.length ≤ 50 * 8 ^ n
  | [], _ => ⟨by simp only [PyData.showableAll], by simp only [PyData.depthAll]; omega, fun t ht => by simp only [PyData.shownAll] at ht; cases ht⟩
  | d :: ds, h => by
    obtain ⟨a, b, c⟩ := tm_all (ds := ds) fun x hx => h x (List.mem_cons_of_mem _ hx)
    have e := h d List.mem_cons_self
    refine ⟨?_, ?_, ?_⟩
    · simp only [PyData.showableAll, e.sh, a, Bool.and_self]
    · simp only [PyData.depthAll]
      have := e.dp
      omega
    · intro t ht
      simp only [PyData.shownAll] at ht
      rcases List.mem_cons.mp ht with z | z
      · rw [z]
        exact e.ln
      · exact c t z
theorem tm_num {n : Nat} {k : Nat} (l : k ≤ 6) : k * (50 * 8 ^ n + 2) + 3 ≤ 50 * 8 ^ (n + 1) := by
  have p : 0 < 8 ^ n := Nat.pow_pos (by decide)
  have q : k * (50 * 8 ^ n + 2) ≤ 6 * (50 * 8 ^ n + 2) := Nat.mul_le_mul_right _ l
  rw [Nat.pow_succ]
  omega
theorem tm_list {n : Nat} {ds : List PyData} (l : ds.length ≤ 6) (h : ∀ d ∈ ds, Tm n d) : Tm (n + 1) (.list ds) := by
  obtain ⟨a, b, c⟩ := tm_all h
  refine ⟨by simp only [PyData.showable]; exact a, by simp only [PyData.depth]; omega, ?_⟩
  simp only [PyData.shown]
  have ln : (PyData.shownAll ds).length = ds.length := by rw [shownAll_map, List.length_map]
  have z := tm_num (n := n) l
  generalize PyData.shownAll ds = ts at c ln
  cases ts with
  | nil =>
    have e : (listText []).length = 2 := rfl
    rw [e]
    omega
  | cons t r =>
    rw [list_len]
    have p := piled_le c
    rw [piled_cons, ln] at p
    omega
theorem tm_tup {n : Nat} {ds : List PyData} (l : ds.length ≤ 6) (h : ∀ d ∈ ds, Tm n d) : Tm (n + 1) (.tuple ds) := by
  obtain ⟨a, b, c⟩ := tm_all h
  refine ⟨by simp only [PyData.showable]; exact a, by simp only [PyData.depth]; omega, ?_⟩
  simp only [PyData.shown]
  have ln : (PyData.shownAll ds).length = ds.length := by rw [shownAll_map, List.length_map]
  have z := tm_num (n := n) l
  generalize PyData.shownAll ds = ts at c ln
  have p := piled_le c
  rw [ln] at p
  have e : (tupleText ts).length ≤ 1 + (Str.join ", " ts).length + 2 := by
    show (("(" : Str) ++ Str.join ", " ts ++ (if ts.length == 1 then ",)" else ")" : String)).length ≤ _
    rw [strLen_append, strLen_append]
    have e1 : (("(" : String) : Str).length = 1 := rfl
    have e2 : ((if ts.length == 1 then ",)" else ")" : String) : Str).length ≤ 2 := by
      split
      · exact Nat.le_of_eq rfl
      · exact Nat.le_succ_of_le (Nat.le_of_eq rfl)
    omega
  cases ts with
  | nil =>
    have e3 : (Str.join ", " []).length = 0 := rfl
    omega
  | cons t r =>
    have e3 := join_length_add (t :: r) (by simp)
    omega
theorem int_len {n : Int} (h : n.natAbs < 10 ^ 40) : (PyData.int n).shown.length ≤ 41 := by
  simp only [PyData.shown]
  show (Str.ofString (toString n)).length ≤ 41
  rw [PySem.ofString_length]
  exact int_text_length_le10 (by decide) h
theorem log2_small {n : Int} (h : n.natAbs < 10 ^ 40) : n.natAbs.log2 < 400 := by
  by_cases z : n.natAbs = 0
  · rw [z]
    decide
  · exact (Nat.log2_lt z).mpr (Nat.lt_trans h (by decide +kernel))
theorem tm_int {n : Int} (h : n.natAbs < 10 ^ 40) : Tm 0 (.int n) := by
  refine ⟨?_, by simp only [PyData.depth]; omega, Nat.le_trans (int_len h) (by decide)⟩
  simp only [PyData.showable]
  exact decide_eq_true (Nat.lt_trans (log2_small h) (by decide))
def smallB (d : PyData) : Bool := match d with
  | .int n => decide (n.natAbs < 10 ^ 40) | _ => true
/-- a cell: an int that is not great, or an odd thing -/
structure Cell (d : PyData) : Prop where
  tm : Tm 0 d
  f1 : Fit1 d
  f2 : Fit d
  sm : smallB d = true
theorem cell_sm {d : PyData} {n : Int} (c : Cell d) (e : d = .int n) : n.natAbs.log2 < 400 := by
  have h := c.sm
  rw [e] at h
  exact log2_small (of_decide_eq_true h)
theorem fit1_flat {d : PyData} (e : itemsD d = []) : Fit1 d := ⟨by rw [e]; exact Nat.zero_le _, fun n h => by rw [e] at h; cases h⟩
theorem fit_flat {d : PyData} (e : itemsD d = []) : Fit d := ⟨fit1_flat e, fun x h => by rw [e] at h; cases h⟩
theorem cell_int {n : Int} (h : n.natAbs < 10 ^ 40) : Cell (.int n) := ⟨tm_int h, fit1_flat rfl, fit_flat rfl, decide_eq_true h⟩
theorem fit1_of {d : PyData} {ds : List PyData} (e : itemsD d = ds) (l : ds.length ≤ 1000) (h : ∀ x ∈ ds, smallB x = true) : Fit1 d :=
  ⟨by rw [e]; exact l, fun n hn => by rw [e] at hn; exact log2_small (of_decide_eq_true (h _ hn))⟩
theorem odd_cell : ∀ d ∈ oddL, Cell d := by
  have a : ∀ d ∈ oddL, d.showable = true ∧ d.depth ≤ 3 ∧ d.shown.length ≤ 50 := by decide +kernel
  have b : ∀ d ∈ oddL, (itemsD d).length ≤ 1000 ∧ (∀ e ∈ itemsD d, smallB e = true ∧ (itemsD e).length ≤ 1000 ∧ ∀ x ∈ itemsD e, smallB x = true) ∧ smallB d = true := by decide +kernel
  intro d hd
  obtain ⟨a1, a2, a3⟩ := a d hd
  obtain ⟨b1, b2, b3⟩ := b d hd
  have f1 : Fit1 d := fit1_of rfl b1 fun x hx => (b2 x hx).1
  exact ⟨⟨a1, a2, a3⟩, f1, ⟨f1, fun e he => fit1_of rfl (b2 e he).2.1 (b2 e he).2.2⟩, b3⟩
/-- a row: a cell, or a list of few cells -/
structure RowT (d : PyData) : Prop where
  tm : Tm 1 d
  f1 : Fit1 d
  sm : smallB d = true
theorem Cell.row {d : PyData} (c : Cell d) : RowT d := ⟨c.tm.up (by decide), c.f1, c.sm⟩
theorem row_list {ds : List PyData} (l : ds.length ≤ 6) (h : ∀ d ∈ ds, Cell d) : RowT (.list ds) := ⟨tm_list l fun d hd => (h d hd).tm, fit1_of (ds := ds) rfl (by omega) fun x hx => (h x hx).sm, rfl⟩
/-- a sheet: a cell, or few rows -/
structure SheetT (d : PyData) : Prop where
  tm : Tm 2 d
  f : Fit d
  few : (itemsD d).length ≤ 6
theorem Cell.sheet {d : PyData} (c : Cell d) (l : (itemsD d).length ≤ 6) : SheetT d := ⟨c.tm.up (by decide), c.f2, l⟩
theorem sheet_list {ds : List PyData} (l : ds.length ≤ 6) (h : ∀ d ∈ ds, RowT d) : SheetT (.list ds) := ⟨tm_list l fun d hd => (h d hd).tm, ⟨fit1_of (ds := ds) rfl (by omega) fun x hx => (h x hx).sm, fun e he => (h e he).f1⟩, l⟩
theorem sheet_tup {ds : List PyData} (l : ds.length ≤ 6) (h : ∀ d ∈ ds, RowT d) : SheetT (.tuple ds) := ⟨tm_tup l fun d hd => (h d hd).tm, ⟨fit1_of (ds := ds) rfl (by omega) fun x hx => (h x hx).sm, fun e he => (h e he).f1⟩, l⟩
theorem odd_few : ∀ d ∈ oddL, (itemsD d).length ≤ 6 := by decide +kernel
theorem odd_sheet {d : PyData} (h : d ∈ oddL) : SheetT d := (odd_cell d h).sheet (odd_few d h)
end Rw

set_option Elab.async false
set_option linter.all false
set_option maxRecDepth 100000
set_option maxHeartbeats 4000000
/-! TkP: sums, comprehensions beside a box, data held against data. -/
namespace Rw
open PySem PySem.Spec PyProof.Rows L2
/-! ### sums -/
def S : Nat → (Nat → Int) → Int
  | 0, _ => 0
  | n + 1, f => S n f + f n
theorem S_sum (f : Nat → Int) : ∀ n, ((List.range n).map f).sum = S n f
  | 0 => rfl
  | n + 1 => by
    rw [List.range_succ, List.map_append, List.sum_append, S_sum f n]
    show S n f + (f n + 0) = S n f + f n
    omega
theorem S_congr {f g : Nat → Int} : ∀ {n : Nat}, (∀ i, i < n → f i = g i) → S n f = S n g
  | 0, _ => rfl
  | n + 1, h => by
    show S n f + f n = S n g + g n
    rw [S_congr (n := n) fun i hi => h i (by omega), h n (by omega)]
theorem S_add (f g : Nat → Int) : ∀ n, S n (fun i => f i + g i) = S n f + S n g
  | 0 => rfl
  | n + 1 => by
    show S n (fun i => f i + g i) + (f n + g n) = (S n f + f n) + (S n g + g n)
    rw [S_add f g n]
    omega
theorem S_mul (a : Int) (f : Nat → Int) : ∀ n, S n (fun i => a * f i) = a * S n f
  | 0 => by show (0 : Int) = a * 0; rw [Int.mul_zero]
  | n + 1 => by
    show S n (fun i => a * f i) + a * f n = a * (S n f + f n)
    rw [S_mul a f n, Int.mul_add]
theorem S_zero : ∀ n, S n (fun _ => 0) = 0
  | 0 => rfl
  | n + 1 => by
    show S n (fun _ => 0) + 0 = 0
    rw [S_zero n] <;> rfl
theorem S_swap (f : Nat → Nat → Int) (m : Nat) : ∀ n, S n (fun i => S m (fun k => f i k)) = S m (fun k => S n (fun i => f i k))
  | 0 => by
    show (0 : Int) = S m (fun _ => 0)
    rw [S_zero]
  | n + 1 => by
    show S n (fun i => S m (fun k => f i k)) + S m (fun k => f n k) = S m (fun k => S n (fun i => f i k) + f n k)
    rw [S_swap f m n, S_add]
theorem S_mod (p : Int) {f g : Nat → Int} : ∀ {n : Nat}, (∀ i, i < n → f i % p = g i % p) → S n f % p = S n g % p
  | 0, _ => rfl
  | n + 1, h => by
    show (S n f + f n) % p = (S n g + g n) % p
    rw [Int.add_emod, S_mod p (n := n) fun i hi => h i (by omega), h n (by omega), ← Int.add_emod]
/-- leading by the product is leading twice -/
theorem S_assoc (p : Int) (v : Nat → Int) (a b : Nat → Nat → Int) (n m c : Nat) :
    S n (fun i => v i * (S m (fun k => a i k * b k c) % p)) % p = S m (fun k => (S n (fun i => v i * a i k) % p) * b k c) % p := by
  have e1 : S n (fun i => v i * (S m (fun k => a i k * b k c) % p)) % p = S n (fun i => S m (fun k => v i * a i k * b k c)) % p := by
    refine S_mod p fun i _ => ?_
    have : S m (fun k => v i * a i k * b k c) = v i * S m (fun k => a i k * b k c) := by
      rw [← S_mul]
      exact S_congr fun k _ => Int.mul_assoc _ _ _
    rw [this, Int.mul_emod, Int.emod_emod_of_dvd _ (Int.dvd_refl p), ← Int.mul_emod]
  have e2 : S m (fun k => (S n (fun i => v i * a i k) % p) * b k c) % p = S m (fun k => S n (fun i => v i * a i k * b k c)) % p := by
    refine S_mod p fun k _ => ?_
    have : S n (fun i => v i * a i k * b k c) = S n (fun i => v i * a i k) * b k c := by
      rw [Int.mul_comm (S n _) (b k c), ← S_mul]
      exact S_congr fun i _ => Int.mul_comm _ _
    rw [this, Int.mul_emod, Int.emod_emod_of_dvd _ (Int.dvd_refl p), ← Int.mul_emod]
  rw [e1, e2, S_swap]
/-! ### data held against data -/
mutual
theorem any_dp {K : PySem.W.Frag} {H : Hp} : ∀ (d : PyData) (v : V), Any H v d → d.canLay0 = true → Dp K H v d
  | .none, _, h, _ => by
    cases h
    exact .non
  | .bool b, _, h, _ => by
    cases h
    exact .bl b
  | .int i, _, h, _ => by
    cases h
    exact .int i
  | .str x, _, h, _ => by
    cases h
    exact .str x
  | .list ds, _, h, c => by
    cases h with
    | lst e a => exact .lst (SqL.of e) (any_dpL ds _ a (by simpa [PyData.canLay0] using c))
  | .tuple ds, _, h, c => by
    cases h with
    | tup e a => exact .tup (SqT.of e) (any_dpL ds _ a (by simpa [PyData.canLay0] using c))
  | .dict ds, _, h, c => by simp [PyData.canLay0] at c
theorem any_dpL {K : PySem.W.Frag} {H : Hp} : ∀ (ds : List PyData) (vs : List V), AnyL H vs ds → PyData.canLayAll0 ds = true → DpAll K H vs ds
  | [], _, h, _ => by
    cases h
    exact .nil
  | d :: ds, _, h, c => by
    have c' : d.canLay0 = true ∧ PyData.canLayAll0 ds = true := by simpa [PyData.canLayAll0] using c
    cases h with
    | cons a b => exact .cons (any_dp d _ a c'.1) (any_dpL ds _ b c'.2)
end
theorem lay_all : ∀ {ds : List PyData}, (∀ d, d ∈ ds → d.canLay0 = true) → PyData.canLayAll0 ds = true
  | [], _ => by simp [PyData.canLayAll0]
  | d :: ds, h => by simp [PyData.canLayAll0, h d List.mem_cons_self, lay_all (ds := ds) fun x hx => h x (List.mem_cons_of_mem _ hx)]
theorem lay_tup {ds : List PyData} (h : ∀ d, d ∈ ds → d.canLay0 = true) : (PyData.tuple ds).canLay0 = true := by
  simp [PyData.canLay0, lay_all h]
theorem lay_list {ds : List PyData} (h : ∀ d, d ∈ ds → d.canLay0 = true) : (PyData.list ds).canLay0 = true := by
  simp [PyData.canLay0, lay_all h]
theorem lay_ints (ns : List Int) : ∀ d, d ∈ ns.map PyData.int → d.canLay0 = true := by
  intro d hd
  obtain ⟨n, _, rfl⟩ := List.mem_map.mp hd
  simp [PyData.canLay0]
/-- the same data: not unlike -/
theorem ne_same {K : PySem.W.Frag} {H : Hp} {x y : V} {d : PyData} {Q : VK} (a : Any H x d) (b : Any H y d) (c : d.canLay0 = true) (l : d.depth ≤ 64) (q : Q (.bl false) H) : rNeD K x y H Q := by
  have s : SeqAt.shaped d = true := by
    unfold SeqAt.shaped
    rw [c, decide_eq_true l] <;> rfl
  refine ⟨d, d, any_dp d x a c, any_dp d y b c, s, s, ?_⟩
  rw [SeqAt.eqv_refl d c]
  exact q
theorem eq_same {K : PySem.W.Frag} {H : Hp} {x y : V} {d : PyData} {Q : VK} (a : Any H x d) (b : Any H y d) (c : d.canLay0 = true) (l : d.depth ≤ 64) (q : Q (.bl true) H) : rEqD K x y H Q := by
  have s : SeqAt.shaped d = true := by
    unfold SeqAt.shaped
    rw [c, decide_eq_true l] <;> rfl
  refine ⟨d, d, any_dp d x a c, any_dp d y b c, s, s, ?_⟩
  rw [SeqAt.eqv_refl d c]
  exact q
/-! ### comprehensions beside a box -/
theorem lc_box {J : It} {n : Nat} {G : Hp → Prop} {P : Nat → V → Prop} (w : Walk J n G (fun i H x H' => H' = H ∧ P i x)) {j : Nat} {σ : L2.St} {vs : List Nat} {te : TE} {H1 : Hp} {p D : Addr} {c t : Nat} {Q : Hp → Prop} (hn : n ≤ 1000) (hD : H1 D = none) (b0 : Bx H1 p c) (hG : ∀ H, Grow p H1 H → G H) (Good : PyData → Prop)
    (hs : ∀ i x H, i < n → P i x → Grow p H1 H → Bx H p (c + i * t) → (∃ o, H D = some o) → wipe ((wipe σ vs).set j (some x)) vs = wipe σ vs ∧ ∀ k : VK, (∀ y d H', Grow p H H' → Bx H' p (c + i * t + t) → Good d → Any (del (del H' p) D) y d → k y H') → te ((wipe σ vs).set j (some x)) H k)
    (hq : ∀ H acc ds, Grow p H1 H → Bx H p (c + n * t) → H D = some (.lst acc) → AnyL (del (del H p) D) acc ds → ds.length = n → (∀ d, d ∈ ds → Good d) → Q H) :
    ∃ W : Nat → Nat → Hp → Prop, (∃ m, W 0 m (upd H1 D (.lst []))) ∧ ∀ i m H, W i m H →
      (J.stop i H ∧ Q H) ∨ (J.go i H ∧ ∃ Nx : Hp → Prop, (∀ H', Nx H' → ∃ m', m' < m ∧ W (i + 1) m' H') ∧ ∀ x H', J.yld i H x H' → gName j x (wipe σ vs) H' fun σ2 H2 => wipe σ2 vs = wipe σ vs ∧ tYes σ2 H2 fun b H3 =>
        if b = true then te σ2 H3 fun y H4 => ∃ acc, H4 D = some (.lst acc) ∧ acc.length < sizeLine ∧ Nx (upd H4 D (.lst (acc ++ [y]))) else Nx H3) := by
  have pD := b0.ne hD
  refine lc_it w (Qd := Q) (Pv := fun i H => Grow p H1 H ∧ Bx H p (c + i * t) ∧ ∃ acc ds, H D = some (.lst acc) ∧ AnyL (del (del H p) D) acc ds ∧ ds.length = i ∧ ∀ d, d ∈ ds → Good d) ⟨Grow.of (same_new hD), by simpa using b0.keep (same_new hD), [], [], upd_same, .nil, rfl, fun d hd => (nomatch hd)⟩ (fun i H _ h => hG H h.1) ?_ ?_
  · rintro i x H H' hi ⟨g, b, acc, ds, ha, al, l, gd⟩ ⟨rfl, hp⟩
    obtain ⟨e1, e2⟩ := hs i x H' hi hp g b ⟨_, ha⟩
    refine ⟨e1, ?_⟩
    show te _ _ _
    refine e2 _ fun y d H4 g4 b4 gd4 an => ?_
    have ha4 := g4 _ _ pD.symm ha
    have ln := anyL_len al
    have eqd : ∀ o, del (del (upd H4 D o) p) D = del (del H4 p) D := fun o => by
      funext z
      by_cases y1 : z = D
      · rw [y1, del_same, del_same]
      · rw [del_ne y1, del_ne y1]
        by_cases y2 : z = p
        · rw [y2, del_same, del_same]
        · rw [del_ne y2, del_ne y2, upd_ne y1]
    refine ⟨acc, ha4, Nat.lt_of_lt_of_le (by omega : acc.length < 1000) (by decide), ?_, ?_, acc ++ [y], ds ++ [d], upd_same, ?_, by rw [List.length_append, l] <;> rfl, ?_⟩
    · intro z o ne eo
      rw [upd_ne (ne_of_none eo hD)]
      exact (g.trans g4) z o ne eo
    · obtain ⟨a1, a2, a3, h1, rest⟩ := b4
      refine Bx.more ⟨a1, a2, a3, by rw [upd_ne pD]; exact h1, rest⟩ ?_
      rw [Nat.succ_mul]
      omega
    · rw [eqd]
      exact anyL_snoc (anyL_keep (Grow.del (Grow.of g4.del)) al) an
    · intro z hz
      rcases List.mem_append.mp hz with q | q
      · exact gd z q
      · rw [List.mem_singleton.mp q]
        exact gd4
  · rintro H ⟨g, b, acc, ds, ha, al, l, gd⟩
    exact hq H acc ds g b ha al l gd
end Rw

set_option Elab.async false
set_option linter.all false
set_option maxRecDepth 100000
set_option maxHeartbeats 4000000
/-! TkX: data that is small enough to be shown, wider; comprehensions beside a box; texts of signs; drafts of rows. -/
namespace Rw
open PySem PySem.Spec PyProof.Rows L2
/-- small enough, at the n-th level of lists of at most twelve items -/
structure Tq (n : Nat) (d : PyData) : Prop where
  sh : d.showable = true
  dp : d.depth ≤ 3 + n
  ln : d.shown.length ≤ 80 * 13 ^ n
theorem Tq.up {n m : Nat} {d : PyData} (h : Tq n d) (l : n ≤ m) : Tq m d := ⟨h.sh, by have := h.dp; omega, Nat.le_trans h.ln (Nat.mul_le_mul_left _ (Nat.pow_le_pow_right (by decide) l))⟩
theorem Tm.q {n : Nat} {d : PyData} (h : Tm n d) : Tq n d := ⟨h.sh, h.dp, Nat.le_trans h.ln (Nat.mul_le_mul (by decide) (Nat.pow_le_pow_left (by decide) n))⟩
theorem tq_all {n : Nat} : ∀ {ds : List PyData}, (∀ d ∈ ds, Tq n d) → PyData.showableAll ds = true ∧ PyData.depthAll ds ≤ 3 + n ∧ ∀ t ∈ PyData.shownAll ds, t.length ≤ 80 * 13 ^ n
  | [], _ => ⟨by simp only [PyData.showableAll], by simp only [PyData.depthAll]; omega, fun t ht => by simp only [PyData.shownAll] at ht; cases ht⟩
  | d :: ds, h => by
    obtain ⟨a, b, c⟩ := tq_all (ds := ds) fun x hx => h x (List.mem_cons_of_mem _ hx)
    have e := h d List.mem_cons_self
    refine ⟨?_, ?_, ?_⟩
    · simp only [PyData.showableAll, e.sh, a, Bool.and_self]
    · simp only [PyData.depthAll]
      have := e.dp
      omega
    · intro t ht
      simp only [PyData.shownAll] at ht
      rcases List.mem_cons.mp ht with z | z
      · rw [z]
        exact e.ln
      · exact c t z
theorem tq_num {n : Nat} {k : Nat} (l : k ≤ 12) : k * (80 * 13 ^ n + 2) + 3 ≤ 80 * 13 ^ (n + 1) := by
  have p : 0 < 13 ^ n := Nat.pow_pos (by decide)
  have q : k * (80 * 13 ^ n + 2) ≤ 12 * (80 * 13 ^ n + 2) := Nat.mul_le_mul_right _ l
  rw [Nat.pow_succ]
  omega
theorem tq_list {n : Nat} {ds : List PyData} (l : ds.length ≤ 12) (h : ∀ d ∈ ds, Tq n d) : Tq (n + 1) (.list ds) := by
  obtain ⟨a, b, c⟩ := tq_all h
  refine ⟨by simp only [PyData.showable]; exact a, by simp only [PyData.depth]; omega, ?_⟩
  simp only [PyData.shown]
  have ln : (PyData.shownAll ds).length = ds.length := by rw [shownAll_map, List.length_map]
  have z := tq_num (n := n) l
  generalize PyData.shownAll ds = ts at c ln
  cases ts with
  | nil =>
    have e : (listText []).length = 2 := rfl
    rw [e]
    omega
  | cons t r =>
    rw [list_len]
    have p := piled_le c
    rw [piled_cons, ln] at p
    omega
theorem tq_tup {n : Nat} {ds : List PyData} (l : ds.length ≤ 12) (h : ∀ d ∈ ds, Tq n d) : Tq (n + 1) (.tuple ds) := by
  obtain ⟨a, b, c⟩ := tq_all h
  refine ⟨by simp only [PyData.showable]; exact a, by simp only [PyData.depth]; omega, ?_⟩
  simp only [PyData.shown]
  have ln : (PyData.shownAll ds).length = ds.length := by rw [shownAll_map, List.length_map]
  have z := tq_num (n := n) l
  generalize PyData.shownAll ds = ts at c ln
  have p := piled_le c
  rw [ln] at p
  have e : (tupleText ts).length ≤ 1 + (Str.join ", " ts).length + 2 := by
    show (("(" : Str) ++ Str.join ", " ts ++ (if ts.length == 1 then ",)" else ")" : String)).length ≤ _
    rw [strLen_append, strLen_append]
    have e1 : (("(" : String) : Str).length = 1 := rfl
    have e2 : ((if ts.length == 1 then ",)" else ")" : String) : Str).length ≤ 2 := by
      split
      · exact Nat.le_of_eq rfl
      · exact Nat.le_succ_of_le (Nat.le_of_eq rfl)
    omega
  cases ts with
  | nil =>
    have e3 : (Str.join ", " []).length = 0 := rfl
    omega
  | cons t r =>
    have e3 := join_length_add (t :: r) (by simp)
    omega
theorem tq_int {n : Int} (h : n.natAbs < 10 ^ 40) : Tq 0 (.int n) := (tm_int h).q
theorem tq_str {x : Str} (h : x.length ≤ 7) (c : ∀ z ∈ x.cps.toList, z < 16 ^ 8) : Tq 0 (.str x) := by
  refine ⟨by simp only [PyData.showable], by simp only [PyData.depth]; omega, ?_⟩
  simp only [PyData.shown]
  have := PySem.StrLaws.reprText_len x c
  show _ ≤ 80
  omega
theorem arr_small {x : Str} (h : x.cps.toList.all isArr = true) : ∀ z ∈ x.cps.toList, z < 16 ^ 8 := by
  intro z hz
  have := List.all_eq_true.mp h z hz
  unfold isArr at this
  simp only [Bool.or_eq_true, beq_iff_eq] at this
  rcases this with e | e <;> rw [e] <;> decide
/-! ### odd things -/
theorem odd_short : ∀ d ∈ oddL, Short d := by
  have h : ∀ d ∈ oddL, (match d with | .str x => decide (x.length ≤ 1000) | _ => true) = true := by decide +kernel
  intro d hd x e
  have := h d hd
  rw [e] at this
  exact of_decide_eq_true this
theorem odd_items : ∀ d ∈ oddL, ∀ e ∈ itemsD d, Cell e ∧ SheetT e := by
  have h : ∀ d ∈ oddL, ∀ e ∈ itemsD d, e = .int 1 ∨ e = .int 0 ∨ e = .tuple [.int 1] := by
    intro d hd e he
    have k : ∀ d ∈ oddL, itemsD d = [] ∨ itemsD d = [.int 1] ∨ itemsD d = [.int 0] ∨ itemsD d = [.tuple [.int 1]] := by
      intro d hd
      unfold oddL at hd
      simp only [List.mem_cons, List.not_mem_nil, or_false] at hd
      rcases hd with z | z | z | z | z | z | z | z | z | z | z | z | z | z | z | z <;> subst z <;> simp [itemsD]
    rcases k d hd with z | z | z | z <;> rw [z] at he
    · cases he
    · exact .inl (List.mem_singleton.mp he)
    · exact .inr (.inl (List.mem_singleton.mp he))
    · exact .inr (.inr (List.mem_singleton.mp he))
  intro d hd e he
  have c1 : ∀ n : Int, n.natAbs < 10 ^ 40 → Cell (.int n) ∧ SheetT (.int n) := fun n hn => ⟨cell_int hn, (cell_int hn).sheet (Nat.zero_le _)⟩
  rcases h d hd e he with z | z | z
  · rw [z]; exact c1 1 (by decide)
  · rw [z]; exact c1 0 (by decide)
  · rw [z]; have m : PyData.tuple [.int 1] ∈ oddL := by unfold oddL; simp
    exact ⟨odd_cell _ m, odd_sheet m⟩
theorem SheetT.fit {d : PyData} (s : SheetT d) : Fit d := s.f
theorem odd_fitM {d : PyData} (h : d ∈ oddL) : FitM d := ⟨by have := odd_few d h; omega, fun e he => (odd_items d h e he).2.f⟩
/-! ### comprehensions beside a box -/
theorem bx_at {H : Hp} {p : Addr} {n : Nat} (b : Bx H p n) : ∃ xs, H p = some (.lst xs) := by
  obtain ⟨_, _, _, e, _⟩ := b
  exact ⟨_, e⟩
theorem lc_boxN {J : It} {n : Nat} {G : Hp → Prop} {P : Nat → V → Prop} (w : Walk J n G (fun i H x H' => H' = H ∧ P i x)) {j : Nat} {σ : L2.St} {vs : List Nat} {te : TE} {H1 : Hp} {p D : Addr} {c t : Nat} {Q : Hp → Prop} (hn : n ≤ 1000) (hD : H1 D = none) (b0 : Bx H1 p c) (hG : ∀ H, Grow p H1 H → G H) (Good : PyData → Prop) (nf : ∀ d, Good d → noL d = true)
    (hs : ∀ i x H, i < n → P i x → Grow p H1 H → Bx H p (c + i * t) → wipe ((wipe σ vs).set j (some x)) vs = wipe σ vs ∧ ∀ k : VK, (∀ y d H', Grow p H H' → Bx H' p (c + i * t + t) → Good d → Any H' y d → k y H') → te ((wipe σ vs).set j (some x)) H k)
    (hq : ∀ H acc ds, Grow p H1 H → Bx H p (c + n * t) → H D = some (.lst acc) → AnyL H acc ds → ds.length = n → (∀ d, d ∈ ds → Good d) → Q H) :
    ∃ W : Nat → Nat → Hp → Prop, (∃ m, W 0 m (upd H1 D (.lst []))) ∧ ∀ i m H, W i m H →
      (J.stop i H ∧ Q H) ∨ (J.go i H ∧ ∃ Nx : Hp → Prop, (∀ H', Nx H' → ∃ m', m' < m ∧ W (i + 1) m' H') ∧ ∀ x H', J.yld i H x H' → gName j x (wipe σ vs) H' fun σ2 H2 => wipe σ2 vs = wipe σ vs ∧ tYes σ2 H2 fun b H3 =>
        if b = true then te σ2 H3 fun y H4 => ∃ acc, H4 D = some (.lst acc) ∧ acc.length < sizeLine ∧ Nx (upd H4 D (.lst (acc ++ [y]))) else Nx H3) := by
  have pD := b0.ne hD
  refine lc_it w (Qd := Q) (Pv := fun i H => Grow p H1 H ∧ Bx H p (c + i * t) ∧ ∃ acc ds, H D = some (.lst acc) ∧ AnyL H acc ds ∧ ds.length = i ∧ ∀ d, d ∈ ds → Good d) ⟨Grow.of (same_new hD), by simpa using b0.keep (same_new hD), [], [], upd_same, .nil, rfl, fun d hd => (nomatch hd)⟩ (fun i H _ h => hG H h.1) ?_ ?_
  · rintro i x H H' hi ⟨g, b, acc, ds, ha, al, l, gd⟩ ⟨rfl, hp⟩
    obtain ⟨e1, e2⟩ := hs i x H' hi hp g b
    refine ⟨e1, ?_⟩
    show te _ _ _
    refine e2 _ fun y d H4 g4 b4 gd4 an => ?_
    have ha4 := g4 _ _ pD.symm ha
    have ln := anyL_len al
    obtain ⟨bx, hbx⟩ := bx_at b
    have nd : noLs ds = true := noLs_of fun d hd => nf d (gd d hd)
    have al4 : AnyL H4 acc ds := anyL_keep same_del (anyL_keep (Grow.del g4) (anyL_noL hbx _ _ al nd))
    have down : ∀ {v : V} {e : PyData}, Any H4 v e → noL e = true → Any (upd H4 D (.lst (acc ++ [y]))) v e := fun a z => by
      have a1 := any_noL ha4 _ _ a z
      refine a1.keep fun q o eo => ?_
      by_cases y1 : q = D
      · rw [y1, del_same] at eo; cases eo
      · rw [del_ne y1] at eo
        rw [upd_ne y1]
        exact eo
    refine ⟨acc, ha4, Nat.lt_of_lt_of_le (by omega : acc.length < 1000) (by decide), ?_, ?_, acc ++ [y], ds ++ [d], upd_same, ?_, by rw [List.length_append, l] <;> rfl, ?_⟩
    · intro z o ne eo
      rw [upd_ne (ne_of_none eo hD)]
      exact (g.trans g4) z o ne eo
    · obtain ⟨a1, a2, a3, h1, rest⟩ := b4
      refine Bx.more ⟨a1, a2, a3, by rw [upd_ne pD]; exact h1, rest⟩ ?_
      rw [Nat.succ_mul]
      omega
    · refine anyL_snoc ?_ (down an (nf d gd4))
      refine anyL_keep (fun q o eo => ?_) (anyL_noL ha4 _ _ al4 nd)
      by_cases y1 : q = D
      · rw [y1, del_same] at eo; cases eo
      · rw [del_ne y1] at eo
        rw [upd_ne y1]
        exact eo
    · intro z hz
      rcases List.mem_append.mp hz with q | q
      · exact gd z q
      · rw [List.mem_singleton.mp q]
        exact gd4
  · rintro H ⟨g, b, acc, ds, ha, al, l, gd⟩
    exact hq H acc ds g b ha al l gd
/-! ### texts of signs -/
def sg (c : Nat) : Str := ⟨#[c]⟩
theorem join_sg : ∀ cs : List Nat, (Txt.join "" (cs.map sg)).cps.toList = cs := by
  have e0 : ∀ a : Str, (a ++ ("" : Str)) = a := fun a => by
    cases a with
    | mk c =>
      show (⟨c ++ #[]⟩ : Str) = _
      simp
  intro cs
  rw [TL.join_eq]
  induction cs with
  | nil => rfl
  | cons c cs ih =>
    cases cs with
    | nil => rfl
    | cons b r =>
      show ((sg c ++ ("" : Str)) ++ Str.join "" ((b :: r).map sg)).cps.toList = _
      rw [e0]
      show ((#[c] : Array Nat) ++ (Str.join "" ((b :: r).map sg)).cps).toList = _
      rw [Array.toList_append, ih] <;> rfl
/-! ### drafts of rows -/
def tupI (ns : List Int) : PyData := .tuple (ns.map .int)
def sheetD (m : List (List Int)) : PyData := .list (m.map tupI)
def natD (s : Nat) : PyData := .int (s : Nat)
def draftD (x : Str) (q : Int) (ss : List Nat) (ms : List (List (List Int))) : PyData := .list [.str x, .int q, .list (ss.map natD), .list (ms.map sheetD)]
structure MatOk (q : Int) (h w : Nat) (m : List (List Int)) : Prop where
  h : m.length = h
  w : ∀ r, r ∈ m → r.length = w ∧ ∀ e, e ∈ r → 0 ≤ e ∧ e < q
structure Draft (x : Str) (q : Int) (most : Nat) (ss : List Nat) (ms : List (List (List Int))) : Prop where
  sl : ss.length = x.length + 1
  sb : ∀ s, s ∈ ss → s ≤ most
  ml : ms.length = x.length
  mo : ∀ i m, ms[i]? = some m → MatOk q (ss[stA x i]?.getD 0) (ss[goA x i]?.getD 0) m
theorem noL_tupI (r : List Int) : noL (tupI r) = true := by
  show noLs (r.map PyData.int) = true
  refine noLs_of fun d hd => ?_
  obtain ⟨n, _, rfl⟩ := List.mem_map.mp hd
  rfl
/-- the pattern of a draw -/
structure Pat (x : Str) (m : Nat) : Prop where
  l : x.length ≤ m
  a : x.cps.toList.all isArr = true
def spPrimeR : Sp := fun vs H Q _ => ∃ (p : Addr) (n : Nat), vs = [.ref p] ∧ Bx H p n ∧ n ≤ 900000 ∧ ∀ q H', q ∈ primesL → Grow p H H' → Bx H' p (n + 1) → Q (.int q) H'
def spPatR : Sp := fun vs H Q _ => ∃ (p : Addr) (n m : Nat), vs = [.ref p, .int (m : Nat)] ∧ m ≤ 6 ∧ Bx H p n ∧ n ≤ 900000 ∧ ∀ x H', Pat x m → Grow p H H' → Bx H' p (n + 10) → Q (.str x) H'
def spMatR : Sp := fun vs H Q _ => ∃ (p : Addr) (n h w : Nat) (q : Int), vs = [.ref p, .int q, .int (h : Nat), .int (w : Nat)] ∧ q ∈ primesL ∧ h ≤ 6 ∧ w ≤ 6 ∧ Bx H p n ∧ n ≤ 900000 ∧ ∀ M acc m H', H M = none → Grow p H H' → Bx H' p (n + 80) → H' M = some (.lst acc) → AnyL H' acc (m.map tupI) → MatOk q h w m → Q (.ref M) H'
def spMeas : Sp := fun vs H Q _ => ∃ (x : Str) (a : Addr) (i : Nat) (ss : List Nat), vs = [.str x, .ref a, .int (i : Nat)] ∧ H a = some (.lst (ss.map fun s => V.int (s : Nat))) ∧ i < x.length ∧ x.length ≤ 6 ∧ ss.length = x.length + 1 ∧
  ∀ t H', H t = none → Same H H' → H' t = some (.tup [.int ((ss[stA x i]?.getD 0 : Nat) : Int), .int ((ss[goA x i]?.getD 0 : Nat) : Int)]) → Q (.ref t) H'
def spDraft : Sp := fun vs H Q _ => ∃ (p : Addr) (n most : Nat) (x : Str) (q : Int), vs = [.ref p, .str x, .int q, .int (most : Nat)] ∧ Pat x 6 ∧ q ∈ primesL ∧ most ≤ 6 ∧ Bx H p n ∧ n ≤ 800000 ∧
  ∀ l H' ss ms, Draft x q most ss ms → Grow p H H' → Bx H' p (n + 1000) → Any (del H' p) (.ref l) (draftD x q ss ms) → Q (.ref l) H'
end Rw

set_option Elab.async false
set_option linter.all false
set_option maxRecDepth 100000
set_option maxHeartbeats 4000000
/-! TkI: a list held against [] by !=; len of an own object; what is due of a row. -/
namespace Rw
open PySem PySem.Spec PyProof.Rows L2
def rNilN : R2 := fun x y H Q => ∃ a b xs, x = .ref a ∧ y = .ref b ∧ H a = some (.lst xs) ∧ H b = some (.lst []) ∧ Q (.bl (!xs.isEmpty)) H
theorem op_ne_nil {X : Cx} (hu : X.A.units < cLine) : OpR X (compareOp .NotEq) rNilN := by
  intro pins s σ H x y v u Q I rx ry h
  obtain ⟨a, b, xs, rfl, rfl, ea, eb, q⟩ := h
  obtain rfl : v = Value.ref a := rx
  obtain rfl : u = Value.ref b := ry
  obtain ⟨its, ra, pa, _⟩ := I.list (SqL.of ea)
  obtain ⟨its2, rb, pb, _⟩ := I.list (SqL.of eb)
  cases rb
  have ln := ra.length
  cases xs with
  | nil =>
    cases ra
    exact SeqAt.RcNeAt.lists (e := fun _ => true) pa.isList pb.isList rfl hu (fun j h1 h2 => absurd h1 (Nat.not_lt_zero j)) X.prog X.w _ _ ⟨.bl false, H, I, rfl, q⟩
  | cons z zs =>
    refine SeqAt.RcNeAt.lists_lengths pa.isList pb.isList ?_ hu X.prog X.w _ _ ⟨.bl true, H, I, rfl, q⟩
    simp
    intro e
    rw [e] at ln
    cases ln
theorem len_own {prog : Program} {w : World} {A : Around} {E : Value → Shared → Prop} {s : Shared} {K : PySem.W.Frag} {x C f : Addr} {ox : Obj} {od : Option Obj} {Q : Value → Shared → Prop} (X : K.In s.heap) (I : PySem.W.InstAt s.heap x ox C od)
    (hs : PySem.W.findIn K (.ref C) "__len__" = some (some (.ref f))) (hf : PySem.W.isFn K (.ref f) = true)
    (h : wpAny (model prog w) A.in1 (call (.ref f) [.ref x]) (PySem.W.LenBack Q) E s) : wpAny (model prog w) A (call (.builtin "len") [.ref x]) Q E s := by
  refine Calls.call_function_entry kind_len plain_len entry_len (args_len1 _) ?_
  unfold Builtin.«len»
  refine wpAny_bind (m := oneArg "len" _) (wpAny_pure ?_)
  refine wpAny_bind (m := callSpecial? (.ref x) (Str.ofString "__len__")) (PySem.W.special_fn X I hs (beq_iff_eq.mp hf) (wpAny_mono h (fun r s' hr => ?_) fun _ _ y => y))
  cases r <;> first | exact hr.elim | skip
  rename_i n u
  obtain ⟨⟨h0, h1⟩, hq⟩ := hr
  refine wpAny_bind (wpAny_holding (wpAny_pure ?_))
  refine wpAny_bind (wpAny_letGo ?_)
  show wpAny _ _ (if n < 0 then _ else _) _ _ _
  rw [if_neg (by omega)]
  show wpAny _ _ (if n ≥ 2 ^ 63 then _ else _) _ _ _
  rw [if_neg (by omega)]
  exact wpAny_bind (wpAny_mkInt (wpAny_pure ⟨_, rfl, hq⟩))
/-- len(o) by an own __len__ that raises nothing -/
def rLenO (C : Addr) (sp : Sp) : List V → Hp → VK → Prop := fun xs H Q => ∃ a dx fs, xs = [.ref a] ∧ H a = some (.ins C dx fs) ∧ sp [.ref a] H (fun v H' => ∃ n : Int, v = .int n ∧ 0 ≤ n ∧ n < 2 ^ 63 ∧ Q (.int n) H') (fun _ _ _ => False)
theorem call_lenO {X : Cx} {k : Nat} {f C : Addr} {fd : FuncData} {sp : Sp} (hl : PySem.W.findIn X.K (.ref C) "__len__" = some (some (.ref f))) (hfn : PySem.W.isFn X.K (.ref f) = true) (F : FnOk X.prog X.w X.K X.mg X.base CX0 k f fd ["self"] sp) (hr : Room (k + 1) X.A) (hb : Binds X.K fd ["self"] []) :
    CallR X (.builtin "len") (rLenO C sp) := by
  intro pins s σ H xs us Q I r h
  obtain ⟨a, dx, fs, rfl, ea, h⟩ := h
  obtain ⟨u, rfl, ru⟩ := vals1 r
  obtain rfl : u = Value.ref a := ru
  obtain ⟨mA, O, _, _, _, _⟩ := ins_get I.hok ea
  obtain ⟨od, J, _⟩ := O.look
  refine len_own I.kIn J hl hfn (wpAny_call ?_)
  refine codeAny_mono (F.run X.A.in1 X.stack s H ⟨[.ref a], []⟩ [.ref a] [.ref a] _ _ hr.in1 I.env0.in1 (hb _ [.ref a] I.kIn rfl) (.cons rfl .nil) h) fun r s' hq => ?_
  cases r with
  | error er => exact hq.elim
  | ok fl =>
    cases fl with
    | ret u =>
      obtain ⟨v, H', I3, rv, n, rfl, n0, n1, q3⟩ := I.after hq
      obtain ⟨t, rfl⟩ := rv
      exact ⟨⟨n0, n1⟩, .int n, H', I3.tok _, ⟨_, rfl⟩, q3⟩
    | next => exact False.elim hq
    | brk => exact False.elim hq
    | cont => exact False.elim hq
/-! ### what is due of a row -/
def strD : PyData → Str
  | .str x => x | _ => Str.empty
def wD (x : Str) (d : PyData) : PyData := .list [.str x, d]
def rowDue (d0 d1 d2 d3 : PyData) : PyData :=
  if isPatD d0 = true then (if isPr d1 = true then (if sizesOk (strD d0).length d2 = true then (if mapsOk (strD d0).length d3 = true then (match badAt (strD d0) d2 d3 with | some i => wD "matrix" (atD d3 i) | none => wD "told" (.int ((strD d0).length + 1 : Nat))) else wD "maps" d3) else wD "sizes" d2) else wD "prime" d1) else wD "pattern" d0
def barsDue (d : PyData) : PyData := if isPatD d = true then wD "told" (.int ((barsL ((strD d).length + 1)).length : Nat)) else wD "pattern" d
/-- what a thing to make a row of must be for all to go well -/
structure RowFit (d0 d2 d3 : PyData) : Prop where
  sp : Short d0
  ls : (itemsD d2).length ≤ 1000
  fm : FitM d3
def spDueR : Sp := fun vs H Q _ => ∃ v d0 d1 d2 d3, vs = [v] ∧ Any H v (.list [d0, d1, d2, d3]) ∧ RowFit d0 d2 d3 ∧ ∀ l H', Same H H' → Any H' (.ref l) (rowDue d0 d1 d2 d3) → Q (.ref l) H'
def spSheetL : Sp := fun vs H Q _ => ∃ v d h w, vs = [v, .int h, .int w] ∧ Any H v d ∧ Fit d ∧ ∀ H', Same H H' → Q (.bl (isMatD h w d)) H'
def spBarsC : Sp := fun vs H Q _ => ∃ v d, vs = [v] ∧ Any H v d ∧ Short d ∧ ∀ l H', Same H H' → Any H' (.ref l) (barsDue d) → Q (.ref l) H'
def spMeasD : Sp := fun vs H Q _ => ∃ (x : Str) (va : V) (i : Nat) (ds : PyData), vs = [.str x, va, .int (i : Nat)] ∧ Any H va ds ∧ sizesOk x.length ds = true ∧ i < x.length ∧ x.length ≤ 6 ∧
  ∀ t H', H t = none → Same H H' → H' t = some (.tup [.int (szL ds (stA x i)), .int (szL ds (goA x i))]) → Q (.ref t) H'
theorem any_list4 {H : Hp} {v : V} {d0 d1 d2 d3 : PyData} (h : Any H v (.list [d0, d1, d2, d3])) : ∃ a v0 v1 v2 v3, v = .ref a ∧ H a = some (.lst [v0, v1, v2, v3]) ∧ Any H v0 d0 ∧ Any H v1 d1 ∧ Any H v2 d2 ∧ Any H v3 d3 := by
  cases h with
  | lst e al =>
    cases al with
    | cons a0 al =>
      cases al with
      | cons a1 al =>
        cases al with
        | cons a2 al =>
          cases al with
          | cons a3 al =>
            cases al
            exact ⟨_, _, _, _, _, rfl, e, a0, a1, a2, a3⟩
theorem nats_ok {ss : List Nat} {k : Nat} (l : ss.length = k + 1) (h : ∀ s, s ∈ ss → s ≤ 6) : sizesOk k (.list (ss.map natD)) = true := by
  unfold sizesOk
  rw [Bool.and_eq_true, Bool.and_eq_true]
  refine ⟨rfl, decide_eq_true (by show (ss.map natD).length = _; rw [List.length_map]; exact l), List.all_eq_true.mpr fun d hd => ?_⟩
  obtain ⟨s, hs, rfl⟩ := List.mem_map.mp hd
  have := h s hs
  show (decide ((0 : Int) ≤ (s : Nat)) && decide (((s : Nat) : Int) ≤ 6)) = true
  rw [Bool.and_eq_true]
  exact ⟨decide_eq_true (by omega), decide_eq_true (by omega)⟩
theorem nats_sz {ss : List Nat} {j : Nat} : szL (.list (ss.map natD)) j = ((ss[j]?.getD 0 : Nat) : Int) := by
  unfold szL atD
  show intN ((ss.map natD)[j]?.getD .none) = _
  rw [List.getElem?_map]
  cases ss[j]? <;> rfl
end Rw

set_option Elab.async false
set_option linter.all false
set_option maxRecDepth 100000
set_option maxHeartbeats 4000000
/-! K11E: the law's draws: cells, boxes, primes, patterns, matrices, drafts. -/
namespace K11
open PySem PySem.Spec PyProof.Rows L2 Rw
abbrev sCell : Stmt := top 34
abbrev sBox : Stmt := top 35
abbrev sTake : Stmt := top 36
abbrev sPrimeL : Stmt := top 37
abbrev sPatL : Stmt := top 38
abbrev sMatL : Stmt := top 39
abbrev sMeas : Stmt := top 40
abbrev sDraft : Stmt := top 41
abbrev sOdd : Stmt := top 44
abbrev sWhole : Stmt := top 45
abbrev NCell : List Str := ["_law_script", "_law_k"]
theorem scCell : FnScope NCell ["_law_script", "_law_k"] (defScope sCell) := ⟨rfl, rfl, rfl, by decide +kernel, rfl, by decide +kernel, by decide +kernel⟩
abbrev NBox : List Str := ["_law_cell_here"]
theorem scBox : FnScope NBox ["_law_cell_here"] (defScope sBox) := ⟨rfl, rfl, rfl, by decide +kernel, rfl, by decide +kernel, by decide +kernel⟩
abbrev NTake : List Str := ["_law_box_here", "_law_many", "_law_digit", "_law_figure"]
theorem scTake : FnScope NTake ["_law_box_here", "_law_many"] (defScope sTake) := ⟨rfl, rfl, rfl, by decide +kernel, rfl, by decide +kernel, by decide +kernel⟩
abbrev NPrimeL : List Str := ["_law_box_here"]
theorem scPrimeL : FnScope NPrimeL ["_law_box_here"] (defScope sPrimeL) := ⟨rfl, rfl, rfl, by decide +kernel, rfl, by decide +kernel, by decide +kernel⟩
abbrev NPatL : List Str := ["_law_box_here", "_law_most", "_law_k"]
theorem scPatL : FnScope NPatL ["_law_box_here", "_law_most"] (defScope sPatL) := ⟨rfl, rfl, rfl, by decide +kernel, rfl, by decide +kernel, by decide +kernel⟩
abbrev NMatL : List Str := ["_law_box_here", "_law_p", "_law_high", "_law_wide", "_law_odds", "_law_k", "_law_j"]
theorem scMatL : FnScope NMatL ["_law_box_here", "_law_p", "_law_high", "_law_wide"] (defScope sMatL) := ⟨rfl, rfl, rfl, by decide +kernel, rfl, by decide +kernel, by decide +kernel⟩
abbrev NMeas : List Str := ["_law_arrows", "_law_amounts", "_law_k"]
theorem scMeas : FnScope NMeas ["_law_arrows", "_law_amounts", "_law_k"] (defScope sMeas) := ⟨rfl, rfl, rfl, by decide +kernel, rfl, by decide +kernel, by decide +kernel⟩
abbrev NDraft : List Str := ["_law_box_here", "_law_arrows", "_law_p", "_law_most", "_law_k", "_law_amounts", "_law_pieces", "_law_high", "_law_wide"]
theorem scDraft : FnScope NDraft ["_law_box_here", "_law_arrows", "_law_p", "_law_most"] (defScope sDraft) := ⟨rfl, rfl, rfl, by decide +kernel, rfl, by decide +kernel, by decide +kernel⟩
abbrev NOdd : List Str := ["_law_box_here", "_law_some"]
theorem scOdd : FnScope NOdd ["_law_box_here"] (defScope sOdd) := ⟨rfl, rfl, rfl, by decide +kernel, rfl, by decide +kernel, by decide +kernel⟩
abbrev NWhole : List Str := ["_law_thing"]
theorem scWhole : FnScope NWhole ["_law_thing"] (defScope sWhole) := ⟨rfl, rfl, rfl, by decide +kernel, rfl, by decide +kernel, by decide +kernel⟩
section
variable {P : Program} {w : World} {K : PySem.W.Frag} {mg : Str → Option Value} {base : Heap}
theorem okCell {f : Addr} {fd : FuncData} (F : Fun K "_law_cell" "_law_cell" sCell f fd) (zl : mg "len" = none) : FnOk P w K mg base CX0 1 f fd ["_law_script", "_law_k"] (spCellR K) := by
  refine F.ok scCell (fun vs H Q E h => ?_) (fun cdv A outer s H vs Q E hr h => ?_)
  · obtain ⟨a, ns, j, rfl, _⟩ := h
    rfl
  · obtain ⟨a, ns, j, rfl, hs, hj, q⟩ := h
    refine ⟨_, (pss_cons (ps_if (pt_cmpR op_lt (pv 1) (pe_callB call_len_seq (by rfl) zl PySem.boot_len (pa_cons (pv 0) pa_nil)) (nomark _)) (pss_one (ps_ret (pe_ix ix_list (pv 0) (pv 1) (fun _ _ => rfl)))) pss_nil)
      (pss_one (ps_ret (pe_op op_add (pe_op op_mul pe_int (pv 1)) pe_int)))), ?_⟩
    refine ⟨_, rfl, _, rfl, a, _, rfl, .inl hs, _, _, rfl, rfl, _, rfl, ?_⟩
    refine ite2 (fun z => ?_) (fun z => ?_)
    · have z2 := of_decide_eq_true z
      have z3 : j < ns.length := by
        rw [List.length_map] at z2
        omega
      exact ⟨_, rfl, _, rfl, a, _, _, _, rfl, rfl, hs, atI_nat (j := j) (v := .int ns[j]) (by rw [List.getElem?_map, List.getElem?_eq_getElem z3] <;> rfl), q _⟩
    · exact ⟨_, rfl, _, _, rfl, rfl, .inr ⟨by omega, by omega⟩, _, _, rfl, rfl, q _⟩
theorem okBox {f : Addr} {fd : FuncData} (F : Fun K "_law_box" "_law_box" sBox f fd) (zm : mg "max" = none) (zi : mg "int" = none) : FnOk P w K mg base CX0 1 f fd ["_law_cell_here"] spBoxR := by
  refine F.ok scBox (fun vs H Q E h => ?_) (fun cdv A outer s H vs Q E hr h => ?_)
  · obtain ⟨z, rfl, _⟩ := h
    rfl
  · obtain ⟨z, rfl, q⟩ := h
    refine ⟨_, (pss_one (ps_ret (pe_lst (pa_cons (pe_callB (call_max2 rfl) (by rfl) zm (by decide +kernel) (pa_cons pe_int (pa_cons (pe_op op_sub (pv 0) (pe_op op_pow pe_int pe_int)) pa_nil))) (pa_cons (pe_op op_modN (pe_callTy call_int1 (by rfl) zi (by decide +kernel) (pa_cons (pv 0) pa_nil)) pe_int) (pa_cons pe_int pa_nil)))))), ?_⟩
    refine ⟨_, rfl, _, _, rfl, rfl, ⟨by decide, by decide, by decide⟩, _, _, rfl, rfl, _, _, rfl, _, rfl, .inl ⟨_, rfl, _, _, rfl, rfl, (by dsimp only; omega), (by show 3 ≤ sizeLine; decide), fun p hp => ?_⟩⟩
    refine q p _ hp (same_new hp) ⟨_, _, _, upd_same, ?_, ?_, ?_, by omega, by omega⟩
    · split <;> omega
    · rw [fmod_pos (by decide)]
      exact Int.emod_nonneg _ (by decide)
    · rw [fmod_pos (by decide)]
      exact Int.emod_lt_of_pos _ (by decide)
theorem okTake {f : Addr} {fd : FuncData} (F : Fun K "_law_take" "_law_take" sTake f fd) (zi : mg "int" = none) : FnOk P w K mg base CX0 1 f fd ["_law_box_here", "_law_many"] spTakeR := by
  refine F.ok scTake (fun vs H Q E h => ?_) (fun cdv A outer s H vs Q E hr h => ?_)
  · obtain ⟨p, m, n, rfl, _⟩ := h
    rfl
  · obtain ⟨p, m, n, rfl, m0, m1, ⟨a, b, c, hp, a0, b0, b1, c0, c1⟩, hn, q⟩ := h
    refine ⟨_, (pss_cons (ps_if (pt_cmpR op_gt (pe_ix ix_list (pv 0) pe_int (fun _ _ => rfl)) pe_int (nomark _)) (pss_cons (ps_set (i := 2) scTake.nd rfl (Or.inl rfl) (pe_op op_modN (pe_callTy call_int1 (by rfl) zi (by decide +kernel) (pa_cons (pe_ix ix_list (pv 0) pe_int (fun _ _ => rfl)) pa_nil)) (pv 1)))
        (pss_cons (ps_asg (pe_op op_fdivW (pe_ix ix_list (pv 0) pe_int (fun _ _ => rfl)) (pv 1)) (pg_sub (pv 0) pe_int set_list))
        (pss_one (ps_ret (pv 2))))) pss_nil)
      (pss_cons (ps_asg (pe_op op_add (pe_ix ix_list (pv 0) pe_int (fun _ _ => rfl)) pe_int) (pg_sub (pv 0) pe_int set_list))
      (pss_cons (ps_set (i := 3) scTake.nd rfl (Or.inl rfl) (pe_op op_modN (pe_op op_pow (pe_callTy call_int1 (by rfl) zi (by decide +kernel) (pa_cons (pe_op op_add (pe_op op_add (pe_ix ix_list (pv 0) pe_int (fun _ _ => rfl)) (pe_op op_mul pe_int (pe_ix ix_list (pv 0) pe_int (fun _ _ => rfl)))) pe_int) pa_nil)) pe_int) pe_int))
      (pss_cons (ps_set (i := 3) scTake.nd rfl (Or.inl rfl) (pe_op op_modN (pe_op op_pow (pe_callTy call_int1 (by rfl) zi (by decide +kernel) (pa_cons (pe_op op_add (pv 3) (pe_op op_mul pe_int (pe_ix ix_list (pv 0) pe_int (fun _ _ => rfl)))) pa_nil)) pe_int) pe_int))
      (pss_one (ps_ret (pe_op op_modN (pe_callTy call_int1 (by rfl) zi (by decide +kernel) (pa_cons (pe_op op_fdivW (pv 3) pe_int) pa_nil)) (pv 1)))))))), ?_⟩
    refine ⟨_, rfl, p, _, 0, _, rfl, rfl, SqL.of hp, atI_nat (j := 0) rfl, _, _, rfl, rfl, _, rfl, ?_⟩
    refine ite2 (fun z => ?_) (fun z => ?_)
    · refine ⟨_, rfl, p, _, 0, _, rfl, rfl, SqL.of hp, atI_nat (j := 0) rfl, .inl ⟨_, rfl, _, rfl, _, _, rfl, rfl, (by show m ≠ 0; omega), ?_⟩⟩
      refine ⟨_, rfl, p, _, 0, _, rfl, rfl, SqL.of hp, atI_nat (j := 0) rfl, _, rfl, _, _, rfl, rfl, wide_div (b := 200) m0 (by omega) (by decide) (by decide), _, rfl, p, _, 0, 0, rfl, rfl, hp, rfl, ?_⟩
      refine ⟨_, rfl, ?_⟩
      show Q (.int (a.fmod m)) _
      rw [fmod_pos m0]
      exact q _ _ (Int.emod_nonneg _ (by omega)) (Int.emod_lt_of_pos _ m0) Grow.put ⟨_, b, c, upd_same, fdiv_nonneg' a0 m0, b0, b1, c0, by omega⟩
    · refine ⟨_, rfl, p, _, 2, _, rfl, rfl, SqL.of hp, atI_nat (j := 2) rfl, _, _, rfl, rfl, _, rfl, p, _, 2, 2, rfl, rfl, hp, rfl, ?_⟩
      have hp2 : (upd H p (.lst ([V.int a, V.int b, V.int c].set 2 (.int (c + 1))))) p = some (.lst [.int a, .int b, .int (c + 1)]) := upd_same
      refine ⟨_, rfl, p, _, 1, _, rfl, rfl, SqL.of hp2, atI_nat (j := 1) rfl, _, rfl, p, _, 2, _, rfl, rfl, SqL.of hp2, atI_nat (j := 2) rfl, _, _, rfl, rfl, .inl ⟨by omega, by omega⟩, _, _, rfl, rfl, _, _, rfl, rfl, .inl ⟨_, rfl, _, _, rfl, rfl, ⟨by decide, by decide, by omega⟩, _, _, rfl, rfl, (by dsimp only; omega), ?_⟩⟩
      generalize ((b + _ * (c + 1) + _) ^ _ : Int) = y1
      have y2 : 0 ≤ y1.fmod 2147483647 ∧ y1.fmod 2147483647 < 2147483647 := by
        rw [fmod_pos (by decide)]
        exact ⟨Int.emod_nonneg _ (by decide), Int.emod_lt_of_pos _ (by decide)⟩
      refine ⟨_, rfl, _, rfl, p, _, 2, _, rfl, rfl, SqL.of hp2, atI_nat (j := 2) rfl, _, _, rfl, rfl, .inl ⟨by omega, by omega⟩, _, _, rfl, rfl, .inl ⟨_, rfl, _, _, rfl, rfl, ⟨by decide, by decide, by omega⟩, _, _, rfl, rfl, (by dsimp only; omega), ?_⟩⟩
      generalize ((y1.fmod 2147483647 + _ * (c + 1)) ^ _ : Int) = y4
      refine ⟨_, rfl, _, _, rfl, rfl, ⟨by decide, by decide +kernel⟩, .inl ⟨_, rfl, _, rfl, _, _, rfl, rfl, (by show m ≠ 0; omega), ?_⟩⟩
      show Q (.int (Int.fmod _ m)) _
      rw [fmod_pos m0]
      exact q _ _ (Int.emod_nonneg _ (by omega)) (Int.emod_lt_of_pos _ m0) Grow.put ⟨a, b, c + 1, hp2, a0, b0, b1, by omega, by omega⟩
theorem okOdd {f : Addr} {fd : FuncData} (F : Fun K "_law_odd" "_law_odd" sOdd f fd) (GT : Own P w K mg base CX0 1 "_law_take" ["_law_box_here", "_law_many"] [] spTakeR) : FnOk P w K mg base CX0 2 f fd ["_law_box_here"] spOddN := by
  refine F.ok scOdd (fun vs H Q E h => ?_) (fun cdv A outer s H vs Q E hr h => ?_)
  · obtain ⟨p, n, rfl, _⟩ := h
    rfl
  · obtain ⟨p, n, rfl, bx, hn, q⟩ := h
    have nn : ∀ {H1 : Hp} {z : Addr}, Same H H1 → H1 z = none → H z = none := fun k e => k.free e
    refine ⟨_, (pss_cons (ps_set (i := 1) scOdd.nd rfl (Or.inl rfl) (pe_lst (pa_cons pe_non (pa_cons pe_bl (pa_cons pe_bl (pa_cons pe_str (pa_cons pe_str (pa_cons (pe_tup pa_nil) (pa_cons (pe_lst pa_nil) (pa_cons (pe_tup (pa_cons pe_int pa_nil)) (pa_cons (pe_lst (pa_cons pe_int pa_nil)) (pa_cons pe_dnewK (pa_cons (pe_disp (pps_cons pe_str pe_int pps_nil) (by rfl) (by rfl) (fun z => by cases z) (by decide)) (pa_cons (pe_un un_neg pe_int) (pa_cons (pe_op op_pow pe_int pe_int) (pa_cons (pe_un un_neg (pe_op op_pow pe_int pe_int)) (pa_cons (pe_tup (pa_cons (pe_tup (pa_cons pe_int pa_nil)) pa_nil)) (pa_cons pe_str pa_nil))))))))))))))))))
      (pss_one (ps_ret (pe_ix ix_list (pv 1) (pe_own GT hr pass0 (pa_cons (pv 0) (pa_cons pe_int pa_nil))) (fun _ _ => rfl))))), ?_⟩
    refine ⟨by show 0 ≤ sizeLine; decide, fun q1 h1 => ?_⟩
    have k1 := same_new (o := .tup []) h1
    have c1 := k1
    have b1 := bx.keep k1
    have a1 : Any (nw H (upd H q1 (.tup []))) (.ref q1) (.tuple []) := .tup (nw_put h1) .nil
    generalize upd H q1 (.tup []) = H1 at k1 b1 a1 c1 ⊢
    refine ⟨by show 0 ≤ sizeLine; decide, fun q2 h2 => ?_⟩
    have k2 := same_new (o := .lst []) h2
    have c2 := c1.trans k2
    have b2 := b1.keep k2
    have a2 : Any (nw H (upd H1 q2 (.lst []))) (.ref q2) (.list []) := .lst (nw_put (nn c1 h2)) .nil
    have d2 := nw_same (H := H) k2
    generalize upd H1 q2 (.lst []) = H2 at k2 b2 a2 d2 c2 ⊢
    refine ⟨by show 1 ≤ sizeLine; decide, fun q3 h3 => ?_⟩
    have k3 := same_new (o := .tup [.int 1]) h3
    have c3 := c2.trans k3
    have b3 := b2.keep k3
    have a3 : Any (nw H (upd H2 q3 (.tup [.int 1]))) (.ref q3) (.tuple [.int 1]) := .tup (nw_put (nn c2 h3)) (.cons (.int 1) .nil)
    have d3 := nw_same (H := H) k3
    generalize upd H2 q3 (.tup [.int 1]) = H3 at k3 b3 a3 d3 c3 ⊢
    refine ⟨by show 1 ≤ sizeLine; decide, fun q4 h4 => ?_⟩
    have k4 := same_new (o := .lst [.int 0]) h4
    have c4 := c3.trans k4
    have b4 := b3.keep k4
    have a4 : Any (nw H (upd H3 q4 (.lst [.int 0]))) (.ref q4) (.list [.int 0]) := .lst (nw_put (nn c3 h4)) (.cons (.int 0) .nil)
    have d4 := nw_same (H := H) k4
    generalize upd H3 q4 (.lst [.int 0]) = H4 at k4 b4 a4 d4 c4 ⊢
    refine fun q5 h5 => ?_
    have k5 := same_new (o := .dK []) h5
    have c5 := c4.trans k5
    have b5 := b4.keep k5
    have a5 : Any (nw H (upd H4 q5 (.dK []))) (.ref q5) (.dict []) := .dct (nw_put (nn c4 h5)) .nil
    have d5 := nw_same (H := H) k5
    generalize upd H4 q5 (.dK []) = H5 at k5 b5 a5 d5 c5 ⊢
    refine fun q6 h6 => ⟨upd_same, [(Sum.inr "a", .int 1)], rfl, by show 1 ≤ 15; decide, ?_⟩
    rw [upd_upd]
    have k6 := same_new (o := .dK (mergeK [] [(Sum.inr "a", .int 1)])) h6
    have c6 := c5.trans k6
    have b6 := b5.keep k6
    have a6 : Any (nw H (upd H5 q6 (.dK (mergeK [] [(Sum.inr "a", .int 1)])))) (.ref q6) (.dict [(.str "a", .int 1)]) := .dct (kvs := [(Sum.inr "a", .int 1)]) (nw_put (nn c5 h6)) (.cons (.int 1) .nil)
    have d6 := nw_same (H := H) k6
    generalize upd H5 q6 (.dK (mergeK [] [(Sum.inr "a", .int 1)])) = H6 at k6 b6 a6 d6 c6 ⊢
    refine ⟨_, rfl, _, _, rfl, rfl, ⟨by decide, by decide, by decide⟩, _, _, rfl, rfl, ⟨by decide, by decide, by decide⟩, _, rfl, by show 1 ≤ sizeLine; decide, fun q7 h7 => ?_⟩
    have k7 := same_new (o := .tup [.int 1]) h7
    have c7 := c6.trans k7
    have b7 := b6.keep k7
    have a7 : Any (nw H (upd H6 q7 (.tup [.int 1]))) (.ref q7) (.tuple [.int 1]) := .tup (nw_put (nn c6 h7)) (.cons (.int 1) .nil)
    have d7 := nw_same (H := H) k7
    generalize upd H6 q7 (.tup [.int 1]) = H7 at k7 b7 a7 d7 c7 ⊢
    refine ⟨by show 1 ≤ sizeLine; decide, fun q8 h8 => ?_⟩
    have k8 := same_new (o := .tup [.ref q7]) h8
    have c8 := c7.trans k8
    have b8 := b7.keep k8
    have d8 := nw_same (H := H) k8
    have a8 : Any (nw H (upd H7 q8 (.tup [.ref q7]))) (.ref q8) (.tuple [.tuple [.int 1]]) := .tup (nw_put (nn c7 h8)) (.cons (a7.keep d8) .nil)
    generalize upd H7 q8 (.tup [.ref q7]) = H8 at k8 b8 a8 d8 c8 ⊢
    refine ⟨by show 16 ≤ sizeLine; decide, fun l hl => ?_⟩
    have k9 := fun o => same_new (o := o) hl
    have d9 := fun o => nw_same (H := H) (k9 o)
    have w7 := fun o => d8.trans (d9 o)
    have w6 := fun o => d7.trans (w7 o)
    have w5 := fun o => d6.trans (w6 o)
    have w4 := fun o => d5.trans (w5 o)
    have w3 := fun o => d4.trans (w4 o)
    have w2 := fun o => d3.trans (w3 o)
    have w1 := fun o => d2.trans (w2 o)
    have big : ∀ o, Same H (upd H8 l o) := fun o => k1.trans (k2.trans (k3.trans (k4.trans (k5.trans (k6.trans (k7.trans (k8.trans (k9 o))))))))
    refine ⟨_, rfl, _, rfl, p, 16, n, rfl, by decide, by decide, bx.keep (big _), hn, fun r H' r0 r1 G B => ?_⟩
    have nl : l ≠ p := (b8.ne hl).symm
    obtain ⟨op, hop⟩ : ∃ o, H p = some o := by
      obtain ⟨_, _, _, e, _⟩ := bx
      exact ⟨_, e⟩
    have gd := nw_grow (H := H) hop G
    obtain ⟨i, rfl⟩ : ∃ i : Nat, r = (i : Int) := ⟨r.toNat, by omega⟩
    have all : AnyL (nw H H') [.non, .bl true, .bl false, .str "1", .str "", .ref q1, .ref q2, .ref q3, .ref q4, .ref q5, .ref q6, .int (-1), .int (10 ^ Int.toNat 29), .int (-(10 ^ Int.toNat 29)), .ref q8, .str "><"] oddL :=
      .cons .non (.cons (.bl _) (.cons (.bl _) (.cons (.str _) (.cons (.str _) (.cons ((a1.keep (w1 _)).keep gd) (.cons ((a2.keep (w2 _)).keep gd) (.cons ((a3.keep (w3 _)).keep gd) (.cons ((a4.keep (w4 _)).keep gd) (.cons ((a5.keep (w5 _)).keep gd)
        (.cons ((a6.keep (w6 _)).keep gd) (.cons (.int _) (.cons (.int _) (.cons (.int _) (.cons ((a8.keep (d9 _)).keep gd) (.cons (.str _) .nil)))))))))))))))
    obtain ⟨v, d, g1, g2, g3⟩ := AnyL.get all i (by show i < 16; omega)
    exact ⟨l, _, _, v, rfl, rfl, SqL.of (G l _ nl upd_same), atI_nat g1, q v d H' g2 g3 ((Grow.of (big _)).trans G) B⟩
theorem okWhole {f : Addr} {fd : FuncData} (F : Fun K "_law_whole" "_law_whole" sWhole f fd) (zi : mg "isinstance" = none) (zn : mg "int" = none) (zb : mg "bool" = none) : FnOk P w K mg base CX0 1 f fd ["_law_thing"] spWholeR := by
  refine F.ok scWhole (fun vs H Q E h => ?_) (fun cdv A outer s H vs Q E hr h => ?_)
  · obtain ⟨v, d, rfl, _⟩ := h
    rfl
  · obtain ⟨v, d, rfl, an, q⟩ := h
    refine ⟨_, (pss_one (ps_ret (pe_and (pe_callB call_isi (by rfl) zi (by decide +kernel) (pa_cons (pv 0) (pa_cons (pe_bltn (v := .ty "int") rfl zn boot_int rfl) pa_nil))) (pe_one (pe_not (pe_callB call_isi (by rfl) zi (by decide +kernel) (pa_cons (pv 0) (pa_cons (pe_bltn (v := .ty "bool") rfl zb (by decide +kernel) rfl) pa_nil)))))))), ?_⟩
    refine ⟨v, rfl, v, .ty "int", _, _, _, rfl, .ty _, any_ty an, kit_int d, _, rfl, ?_⟩
    cases an with
    | bl b => exact iteT ⟨_, rfl, _, .ty "bool", _, _, _, rfl, .ty _, any_ty (.bl b), kit_bool (.bool b), _, rfl, q⟩
    | int i => exact iteT ⟨_, rfl, _, .ty "bool", _, _, _, rfl, .ty _, any_ty (.int i), kit_bool (.int i), _, rfl, q⟩
    | _ => exact iteF q
set_option pp.maxSteps 300 in
theorem okPrimeL {f : Addr} {fd : FuncData} (F : Fun K "_law_prime" "_law_prime" sPrimeL f fd) (GT : Own P w K mg base CX0 1 "_law_take" ["_law_box_here", "_law_many"] [] spTakeR) : FnOk P w K mg base CX0 2 f fd ["_law_box_here"] spPrimeR := by
  refine F.ok scPrimeL (fun vs H Q E h => ?_) (fun cdv A outer s H vs Q E hr h => ?_)
  · obtain ⟨p, n, rfl, _⟩ := h
    rfl
  · obtain ⟨p, n, rfl, bx, hn, q⟩ := h
    refine ⟨_, (pss_one (ps_ret (pe_ix ix_list (pe_lst (pa_cons pe_int (pa_cons pe_int (pa_cons pe_int (pa_cons pe_int (pa_cons pe_int (pa_cons pe_int (pa_cons pe_int (pa_cons pe_int pa_nil))))))))) (pe_own GT hr pass0 (pa_cons (pv 0) (pa_cons pe_int pa_nil))) (fun _ _ => rfl)))), ?_⟩
    refine ⟨by show 8 ≤ sizeLine; decide, fun l hl => ?_⟩
    have nl : l ≠ p := (bx.ne hl).symm
    refine ⟨_, rfl, p, 8, n, rfl, by decide, by decide, bx.keep (same_new hl), by omega, fun r H' r0 r1 G B => ?_⟩
    obtain ⟨i, rfl⟩ : ∃ i : Nat, r = (i : Int) := ⟨r.toNat, by omega⟩
    have hi : i < ([2, 3, 5, 2, 3, 7, 11, 13] : List Int).length := by show i < 8; omega
    have mem : ∀ z ∈ ([2, 3, 5, 2, 3, 7, 11, 13] : List Int), z ∈ primesL := by decide
    refine ⟨l, ([2, 3, 5, 2, 3, 7, 11, 13] : List Int).map V.int, _, _, rfl, rfl, SqL.of (G l _ nl upd_same), atI_nat (v := .int (([2, 3, 5, 2, 3, 7, 11, 13] : List Int)[i])) (by rw [List.getElem?_map, List.getElem?_eq_getElem hi] <;> rfl), q _ H' (mem _ (List.getElem_mem hi)) ((Grow.of (same_new hl)).trans G) B⟩
theorem okPatL {f : Addr} {fd : FuncData} (F : Fun K "_law_pattern" "_law_pattern" sPatL f fd) (zr : mg "range" = none) (GT : Own P w K mg base CX0 1 "_law_take" ["_law_box_here", "_law_many"] [] spTakeR) : FnOk P w K mg base CX0 2 f fd ["_law_box_here", "_law_most"] spPatR := by
  refine F.ok scPatL (fun vs H Q E h => ?_) (fun cdv A outer s H vs Q E hr h => ?_)
  · obtain ⟨p, n, m, rfl, _⟩ := h
    rfl
  · obtain ⟨p, n, m, rfl, hm, bx, hn, q⟩ := h
    refine ⟨_, (pss_one (ps_ret (pe_join pe_str (pe_lc (own := [("_law_k", 2)]) (g := gName 2) (tt := tYes) rfl scPatL.nd (pi_range1 rfl zr (pa_cons (pe_own GT hr pass0 (pa_cons (pv 0) (pa_cons (pe_op op_add (pv 1) pe_int) pa_nil))) pa_nil)) (blkOk_by (N := NPatL) (sc := defScope sPatL) (by decide +kernel)) (fun _ _ _ _ _ => (pg_name (i := 2) scPatL.nd rfl (Or.inl rfl))) (fun _ _ _ _ _ => pts_nil) (fun _ _ _ _ _ => (pe_ix ix_str pe_str (pe_own GT hr pass0 (pa_cons (pv 0) (pa_cons pe_int pa_nil))) (fun _ _ => rfl))))))), ?_⟩
    refine ⟨⟨_, rfl⟩, ?_⟩
    refine ⟨_, rfl, _, rfl, _, _, rfl, rfl, p, _, n, rfl, by omega, by omega, bx, by omega, fun r H1 r0 r1 G1 B1 => ?_⟩
    refine ⟨r, rfl, by omega, by omega, fun D hD => ?_⟩
    have pD := B1.ne hD
    refine lc_boxN (walk_rng (n := r.toNat)) (by omega) hD B1 (fun _ _ => trivial) (t := 1) (fun d => ∃ c, isArr c = true ∧ d = .str (sg c)) (by rintro d ⟨c, _, rfl⟩; rfl) ?_ ?_
    · rintro i x H2 hi rfl g2 b2
      refine ⟨rfl, fun k hk => ?_⟩
      refine ⟨_, rfl, p, 2, n + 1 + i * 1, rfl, by decide, by decide, b2, by omega, fun r2 H3 a0 a1 G3 B3 => ?_⟩
      rcases (by omega : r2 = 0 ∨ r2 = 1) with e | e
      · subst e
        exact ⟨_, _, 62, rfl, rfl, (by decide), rfl, hk _ _ _ G3 B3 ⟨62, rfl, rfl⟩ (.str _)⟩
      · subst e
        exact ⟨_, _, 60, rfl, rfl, (by decide), rfl, hk _ _ _ G3 B3 ⟨60, rfl, rfl⟩ (.str _)⟩
    · intro H2 acc ds g2 b2 ha al ld gd
      obtain ⟨cs, e1, e2, e3⟩ : ∃ cs : List Nat, ds = cs.map (fun c => PyData.str (sg c)) ∧ cs.all isArr = true ∧ cs.length = ds.length := by
        clear al ld
        induction ds with
        | nil => exact ⟨[], rfl, rfl, rfl⟩
        | cons d ds ih =>
          obtain ⟨cs, h1, h2, h3⟩ := ih fun e he => gd e (List.mem_cons_of_mem _ he)
          obtain ⟨c, hc, e⟩ := gd d List.mem_cons_self
          exact ⟨c :: cs, by rw [e, h1] <;> rfl, by rw [List.all_cons, hc, h2] <;> rfl, by simp [h3]⟩
      have ea : acc = (cs.map sg).map V.str := by
        rw [e1] at al
        clear e2 e3 e1 ha
        induction cs generalizing acc with
        | nil => cases al; rfl
        | cons c cs ih =>
          cases al with
          | cons a b =>
            cases a
            rw [ih _ b] <;> rfl
      have lc : cs.length ≤ m := by omega
      refine ⟨"", D, cs.map sg, rfl, rfl, .inl (SqL.of (by rw [ha, ea])), ?_, ?_⟩
      · have z1 : ((cs.map sg).map (fun y : Str => y.length)) = cs.map fun _ => 1 := by
          rw [List.map_map] <;> rfl
        have z2 : ∀ l : List Nat, (l.map fun _ => 1).sum = l.length := fun l => by
          induction l with
          | nil => rfl
          | cons a l ih => rw [List.map_cons, List.sum_cons, ih, List.length_cons]; omega
        have z3 : (("" : String) : Str).length = 0 := rfl
        rw [z1, z2, z3]
        omega
      · have j := join_sg cs
        refine q _ H2 ⟨?_, ?_⟩ (G1.trans g2) (b2.more (by omega))
        · have : (Txt.join "" (cs.map sg)).cps.toList.length = cs.length := by rw [j]
          rw [Array.length_toList] at this
          show (Txt.join "" (cs.map sg)).cps.size ≤ m
          omega
        · rw [j]
          exact e2
theorem okMatL {f : Addr} {fd : FuncData} (F : Fun K "_law_matrix" "_law_matrix" sMatL f fd) (zr : mg "range" = none) (zt : mg "tuple" = none) (zi : mg "int" = none) (GT : Own P w K mg base CX0 1 "_law_take" ["_law_box_here", "_law_many"] [] spTakeR) : FnOk P w K mg base CX0 2 f fd ["_law_box_here", "_law_p", "_law_high", "_law_wide"] spMatR := by
  refine F.ok scMatL (fun vs H Q E h => ?_) (fun cdv A outer s H vs Q E hr h => ?_)
  · obtain ⟨p, n, hh, ww, q, rfl, _⟩ := h
    rfl
  · obtain ⟨p, n, hh, ww, q, rfl, hq, h6, w6, bx, hn, k0⟩ := h
    have pp := prime_pos hq
    refine ⟨_, (pss_cons (ps_set (i := 4) scMatL.nd rfl (Or.inr rfl) (pe_op op_add pe_int (pe_own GT hr pass0 (pa_cons (pv 0) (pa_cons pe_int pa_nil)))))
      (pss_one (ps_ret (pe_lc (own := [("_law_k", 5)]) (g := gName 5) (tt := tYes) (te := tCB (rTupOf K) (tCons (tLc (iRng1 (tCons (tVar 3) tNil)) (gName 6) tYes _ [6]) tNil)) rfl scMatL.nd (pi_range1 rfl zr (pa_cons (pv 2) pa_nil)) (blkOk_by (N := NMatL) (sc := defScope sMatL) (by decide +kernel)) (fun _ _ _ _ _ => (pg_name (i := 5) scMatL.nd rfl (Or.inl rfl))) (fun _ _ _ _ _ => pts_nil)
        (fun _ _ _ _ _ => (pe_callTy call_tuple_of (by rfl) zt (by decide +kernel) (pa_cons (pe_lc (own := [("_law_j", 6)]) (g := gName 6) (tt := tYes) rfl scMatL.nd (pi_range1 (by rfl) zr (pa_cons (pv 3) pa_nil)) (blkOk_by (N := NMatL) (by rfl)) (fun _ _ _ _ _ => (pg_name (i := 6) scMatL.nd rfl (Or.inl rfl))) (fun _ _ _ _ _ => pts_nil)
          (fun _ _ _ _ _ => (pe_op op_mul (pe_own GT hr pass0 (pa_cons (pv 0) (pa_cons (pv 1) pa_nil))) (pe_callTy call_int1 (by rfl) zi (by decide +kernel) (pa_cons (pe_cmpR op_eq (pe_own GT hr pass0 (pa_cons (pv 0) (pa_cons (pv 4) pa_nil))) pe_int (nomark _)) pa_nil))))) pa_nil))))))), ?_⟩
    refine ⟨_, rfl, p, 3, n, rfl, by decide, by decide, bx, by omega, fun od H1 o0 o1 G1 B1 => ⟨_, _, rfl, rfl, ?_⟩⟩
    refine ⟨_, rfl, (hh : Int), rfl, by omega, by omega, fun D hD => ?_⟩
    have pD := B1.ne hD
    refine lc_boxN (walk_rng (n := hh)) (by omega) hD B1 (fun _ _ => trivial) (t := 12) (fun d => ∃ r : List Int, d = tupI r ∧ r.length = ww ∧ ∀ e, e ∈ r → 0 ≤ e ∧ e < q) (by rintro d ⟨r, rfl, _⟩; exact noL_tupI r) ?_ ?_
    · rintro i x H2 hi rfl g2 b2
      refine ⟨rfl, fun k hk => ?_⟩
      refine ⟨_, rfl, (ww : Int), rfl, by omega, by omega, fun D2 hD2 => ?_⟩
      refine lc_boxN (walk_rng (n := ww)) (by omega) hD2 b2 (fun _ _ => trivial) (t := 2) (fun d => ∃ e : Int, d = .int e ∧ 0 ≤ e ∧ e < q) (by rintro d ⟨e, rfl, _⟩; rfl) ?_ ?_
      · rintro j y H3 hj rfl g3 b3
        refine ⟨rfl, fun k3 hk3 => ?_⟩
        refine ⟨_, rfl, _, rfl, p, q, _, rfl, by omega, by omega, b3, by omega, fun e H4 e0 e1 G4 B4 => ?_⟩
        refine ⟨_, rfl, _, rfl, p, _, _, rfl, by omega, by omega, B4, by omega, fun t H5 t0 t1 G5 B5 => ?_⟩
        refine ⟨rfl, .inr ⟨_, rfl, _, _, rfl, rfl, .inl ⟨by omega, by omega⟩, ?_⟩⟩
        have ez : 0 ≤ e * (if decide (V.int t = V.int 0) = true then (1 : Int) else 0) ∧ e * (if decide (V.int t = V.int 0) = true then (1 : Int) else 0) < q := by
          split
          · rw [Int.mul_one]; exact ⟨e0, e1⟩
          · rw [Int.mul_zero]; exact ⟨Int.le_refl _, by omega⟩
        exact hk3 _ _ _ (G4.trans G5) (B5.more (by omega)) ⟨_, rfl, ez⟩ (.int _)
      · intro H3 acc ds g3 b3 ha al ld gd
        obtain ⟨r, e1, e2⟩ : ∃ r : List Int, ds = r.map .int ∧ ∀ e, e ∈ r → 0 ≤ e ∧ e < q := by
          clear al ld
          induction ds with
          | nil => exact ⟨[], rfl, fun e he => (nomatch he)⟩
          | cons d ds ih =>
            obtain ⟨r, h1, h2⟩ := ih fun e he => gd e (List.mem_cons_of_mem _ he)
            obtain ⟨e, h3, h4⟩ := gd d List.mem_cons_self
            exact ⟨e :: r, by rw [h3, h1] <;> rfl, fun z hz => (List.mem_cons.mp hz).elim (fun y => by rw [y]; exact h4) (h2 z)⟩
        refine ⟨D2, acc, rfl, .inl ⟨SqL.of ha, fun l hl => hk _ (tupI r) _ (g3.trans (Grow.of (same_new hl))) ((b3.keep (same_new hl)).more (by omega)) ⟨r, rfl, by rw [e1, List.length_map] at ld; exact ld, e2⟩ (.tup upd_same ?_)⟩⟩
        rw [← e1]
        exact anyL_keep (same_new hl) al
    · intro H2 acc ds g2 b2 ha al ld gd
      obtain ⟨m, e1, e2⟩ : ∃ m : List (List Int), ds = m.map tupI ∧ ∀ r, r ∈ m → r.length = ww ∧ ∀ e, e ∈ r → 0 ≤ e ∧ e < q := by
        clear al ld
        induction ds with
        | nil => exact ⟨[], rfl, fun e he => (nomatch he)⟩
        | cons d ds ih =>
          obtain ⟨m, h1, h2⟩ := ih fun e he => gd e (List.mem_cons_of_mem _ he)
          obtain ⟨r, h3, h4, h5⟩ := gd d List.mem_cons_self
          exact ⟨r :: m, by rw [h3, h1] <;> rfl, fun z hz => (List.mem_cons.mp hz).elim (fun y => by rw [y]; exact ⟨h4, h5⟩) (h2 z)⟩
      have hD0 : H D = none := by
        cases y : H D with
        | none => rfl
        | some u =>
          obtain ⟨xs, hp⟩ := bx_at B1
          by_cases z : D = p
          · rw [z, hp] at hD; cases hD
          · rw [G1 _ _ z y] at hD; cases hD
      exact k0 D acc m H2 hD0 (G1.trans g2) (b2.more (by omega)) ha (by rw [← e1]; exact al) ⟨by rw [e1, List.length_map] at ld; exact ld, e2⟩
theorem okMeas {f : Addr} {fd : FuncData} (F : Fun K "_law_measures" "_law_measures" sMeas f fd) : FnOk P w K mg base CX0 1 f fd ["_law_arrows", "_law_amounts", "_law_k"] spMeasD := by
  refine F.ok scMeas (fun vs H Q E h => ?_) (fun cdv A outer s H vs Q E hr h => ?_)
  · obtain ⟨x, va, i, ds, rfl, _⟩ := h
    rfl
  · obtain ⟨x, va, i, ds, rfl, as, so, hi, lx, q⟩ := h
    refine ⟨_, (pss_one (ps_ret (pe_ifExp (pt_cmpR op_eq (pe_ix ix_str (pv 0) (pv 2) (fun _ _ => rfl)) pe_str (nomark _)) (pe_tup (pa_cons (pe_ix ix_seq (pv 1) (pv 2) (fun _ _ => rfl)) (pa_cons (pe_ix ix_seq (pv 1) (pe_op op_add (pv 2) pe_int) (fun _ _ => rfl)) pa_nil))) (pe_tup (pa_cons (pe_ix ix_seq (pv 1) (pe_op op_add (pv 2) pe_int) (fun _ _ => rfl)) (pa_cons (pe_ix ix_seq (pv 1) (pv 2) (fun _ _ => rfl)) pa_nil)))))), ?_⟩
    have hi2 : i < x.cps.toList.length := by
      rw [Array.length_toList]
      exact hi
    obtain ⟨ss, sl, sa⟩ := sizes_parts so
    obtain ⟨ks, b, ys, rfl, hss, als⟩ := seq_of as ss
    have a1 := (sz_at so als (i := i) (by omega)).1
    have a2 := (sz_at so als (i := i + 1) (by omega)).1
    have c1 : ((i : Int) + 1) = ((i + 1 : Nat) : Int) := by omega
    have ix : ∀ (j : Nat) (n : Int), ys[j]? = some (.int n) → ∀ k'' : VK, k'' (.int n) H → rIx K (.ref b) (.int (j : Int)) H k'' := fun j n hj k'' hk'' => by
      have q3 := hss (fun _ _ z => z) K
      cases ks with
      | true => exact .inl ⟨b, ys, (j : Int), _, rfl, rfl, q3, atI_nat hj, hk''⟩
      | false => exact .inr (.inl ⟨b, ys, (j : Int), _, rfl, rfl, q3, atI_nat hj, hk''⟩)
    have ix1 : ∀ n, ys[i + 1]? = some (.int n) → ∀ k'' : VK, k'' (.int n) H → rIx K (.ref b) (.int ((i : Int) + 1)) H k'' := fun n hj k'' hk => by
      rw [c1]
      exact ix _ _ hj k'' hk
    refine ⟨_, rfl, _, rfl, x, _, x.cps.toList[i], rfl, rfl, Nat.le_trans lx (by decide), atI_nat (List.getElem?_eq_getElem hi2), rfl, _, rfl, ?_⟩
    have er : isR x i = (x.cps.toList[i] == 62) := by
      unfold isR
      rw [List.getElem?_eq_getElem hi2] <;> rfl
    refine ite2 (fun z => ?_) (fun z => ?_)
    · have z1 : V.str ⟨#[x.cps.toList[i]]⟩ = V.str ">" := of_decide_eq_true z
      have z2 : x.cps.toList[i] = 62 := by
        injection z1 with z3
        have := congrArg (fun y : Str => y.cps[0]?) z3
        exact Option.some.inj this
      have e2 : isR x i = true := by rw [er, z2] <;> rfl
      refine ⟨_, rfl, _, rfl, ix _ _ a1 _ ⟨_, rfl, _, rfl, _, _, rfl, rfl, ix1 _ a2 _ ⟨(by show 2 ≤ sizeLine; decide), fun t ht => q t _ ht (same_new ht) (by
        rw [upd_same]
        unfold stA goA
        rw [e2] <;> rfl)⟩⟩⟩
    · have z2 : ¬ x.cps.toList[i] = 62 := fun y => z (decide_eq_true (by rw [y] <;> rfl))
      have e2 : isR x i = false := by rw [er]; exact beq_eq_false_iff_ne.mpr z2
      refine ⟨_, rfl, _, rfl, _, _, rfl, rfl, ix1 _ a2 _ ⟨_, rfl, _, rfl, ix _ _ a1 _ ⟨(by show 2 ≤ sizeLine; decide), fun t ht => q t _ ht (same_new ht) (by
        rw [upd_same]
        unfold stA goA
        rw [e2] <;> rfl)⟩⟩⟩
theorem okDraft {f : Addr} {fd : FuncData} (F : Fun K "_law_draft" "_law_draft" sDraft f fd) (zr : mg "range" = none) (zl : mg "len" = none) (GT : Own P w K mg base CX0 1 "_law_take" ["_law_box_here", "_law_many"] [] spTakeR) (GM : Own P w K mg base CX0 2 "_law_matrix" ["_law_box_here", "_law_p", "_law_high", "_law_wide"] [] spMatR)
    (GS : Own P w K mg base CX0 1 "_law_measures" ["_law_arrows", "_law_amounts", "_law_k"] [] spMeasD) : FnOk P w K mg base CX0 3 f fd ["_law_box_here", "_law_arrows", "_law_p", "_law_most"] spDraft := by
  refine F.ok scDraft (fun vs H Q E h => ?_) (fun cdv A outer s H vs Q E hr h => ?_)
  · obtain ⟨p, n, most, x, q, rfl, _⟩ := h
    rfl
  · obtain ⟨p, n, most, x, q, rfl, px, hq, m6, bx, hn, k0⟩ := h
    have lx := px.l
    refine ⟨_, (pss_cons (ps_setLc (i := 5) (own := [("_law_k", 4)]) (g := gName 4) (tt := tYes) rfl scDraft.nd rfl rfl (sw_true rfl rfl rfl (by decide +kernel)) (pi_range1 rfl zr (pa_cons (pe_op op_add (pe_callB call_len_str (by rfl) zl (by decide +kernel) (pa_cons (pv 1) pa_nil)) pe_int) pa_nil)) (blkOk_by (N := NDraft) (sc := defScope sDraft) (by decide +kernel)) (fun _ _ _ _ _ => (pg_name (i := 4) scDraft.nd rfl (Or.inl rfl))) (fun _ _ _ _ _ => pts_nil) (fun _ _ _ _ _ => (pe_own GT (hr.mono (by decide)) pass0 (pa_cons (pv 0) (pa_cons (pe_op op_add (pv 3) pe_int) pa_nil)))))
      (pss_cons (ps_set (i := 6) scDraft.nd rfl (Or.inl rfl) (pe_lst pa_nil))
      (pss_cons (ps_for PassesOwn.never rfl (pi_range1 rfl zr (pa_cons (pe_callB call_len_str (by rfl) zl (by decide +kernel) (pa_cons (pv 1) pa_nil)) pa_nil)) (pg_name (i := 4) scDraft.nd rfl (Or.inl rfl)) (pss_cons (ps_asg (pe_own GS (hr.mono (by decide)) pass0 (pa_cons (pv 1) (pa_cons (pv 5) (pa_cons (pv 4) pa_nil)))) (pg_tup rfl (pgs_cons (pg_name (i := 7) scDraft.nd rfl (Or.inl rfl)) (pgs_cons (pg_name (i := 8) scDraft.nd rfl (Or.inl rfl)) pgs_nil))))
        (pss_one (ps_expr (pe_bm PySem.F.plainAttrs_list PySem.F.slot_list_append PySem.F.type_list_append mt_append (pv 6) (pa_cons (pe_own GM (hr.mono (by decide)) pass0 (pa_cons (pv 0) (pa_cons (pv 2) (pa_cons (pv 7) (pa_cons (pv 8) pa_nil))))) pa_nil))))))
      (pss_one (ps_ret (pe_lst (pa_cons (pv 1) (pa_cons (pv 2) (pa_cons (pv 5) (pa_cons (pv 6) pa_nil)))))))))), ?_⟩
    refine ⟨_, rfl, x, rfl, Nat.le_trans lx (by decide), _, _, rfl, rfl, _, rfl, by omega, by omega, fun A hA => ?_⟩
    have en : ((x.length : Int) + 1).toNat = x.length + 1 := by omega
    rw [en]
    refine lc_boxN (walk_rng (n := x.length + 1)) (by omega) hA bx (fun _ _ => trivial) (t := 1) (fun d => ∃ s : Nat, d = natD s ∧ s ≤ most) (by rintro d ⟨s, rfl, _⟩; rfl) ?_ ?_
    · rintro i y H2 hi rfl g2 b2
      refine ⟨rfl, fun k hk => ?_⟩
      refine ⟨_, rfl, _, rfl, _, _, rfl, rfl, p, _, _, rfl, by omega, by omega, b2, by omega, fun r H3 r0 r1 G3 B3 => ?_⟩
      exact hk _ _ _ G3 B3 ⟨r.toNat, by show PyData.int r = .int _; rw [Int.toNat_of_nonneg r0], by omega⟩ (.int _)
    · intro H2 acc ds g2 b2 ha al ld gd
      obtain ⟨ss, e1, e2⟩ : ∃ ss : List Nat, ds = ss.map natD ∧ ∀ s, s ∈ ss → s ≤ most := by
        clear al ld
        induction ds with
        | nil => exact ⟨[], rfl, fun e he => (nomatch he)⟩
        | cons d ds ih =>
          obtain ⟨r, h1, h2⟩ := ih fun e he => gd e (List.mem_cons_of_mem _ he)
          obtain ⟨e, h3, h4⟩ := gd d List.mem_cons_self
          exact ⟨e :: r, by rw [h3, h1] <;> rfl, fun z hz => (List.mem_cons.mp hz).elim (fun y => by rw [y]; exact h4) (h2 z)⟩
      have ls : ss.length = x.length + 1 := by rw [e1, List.length_map] at ld; exact ld
      have eacc : acc = ss.map fun s => V.int (s : Nat) := by
        rw [e1] at al
        have : AnyL H2 acc ((ss.map fun s => ((s : Nat) : Int)).map .int) := by
          rw [List.map_map]
          exact al
        rw [anyL_ints this, List.map_map] <;> rfl
      subst eacc
      have pA := bx.ne hA
      refine ⟨by show 0 ≤ sizeLine; decide, fun L hL => ?_⟩
      have pL := b2.ne hL
      have AL : A ≠ L := ne_of_none ha hL
      refine ⟨_, rfl, x, rfl, Nat.le_trans lx (by decide), _, rfl, by omega, by omega, ?_⟩
      have em : ((x.length : Nat) : Int).toNat = x.length := by omega
      rw [em]
      refine for_range (lo := 0) (n := x.length) (fun i σ' H' => (∃ y4 y7 y8, σ' = [some (.ref p), some (.str x), some (.int q), some (.int (most : Nat)), y4, some (.ref A), some (.ref L), y7, y8]) ∧ Grow p H2 H' ∧ Bx H' p (n + 10 + 81 * i) ∧ H' A = some (.lst (ss.map fun s => V.int (s : Nat))) ∧
        ∃ acc ms, H' L = some (.lst acc) ∧ AnyL (del (del H' p) L) acc (ms.map sheetD) ∧ ms.length = i ∧ ∀ j m, ms[j]? = some m → MatOk q (ss[stA x j]?.getD 0) (ss[goA x j]?.getD 0) m) ⟨⟨_, _, _, rfl⟩, Grow.of (same_new hL), (b2.keep (same_new hL)).more (by omega), same_new hL _ _ ha, [], [], upd_same, .nil, rfl, fun j m h => by simp at h⟩ ?_ ?_
      · rintro i σ' H3 hi ⟨⟨y4, y7, y8, rfl⟩, g3, b3, a3, acc, ms, hl, al3, lm, mo⟩
        have ei : (0 + (i : Int)) = (i : Int) := by omega
        rw [ei]
        have aA : Any H3 (.ref A) (.list (ss.map natD)) := .lst a3 (by
          have := ints_anyL (H := H3) (ss.map fun s => ((s : Nat) : Int))
          rw [List.map_map, List.map_map] at this
          exact this)
        refine ⟨_, rfl, _, rfl, _, rfl, x, _, i, _, rfl, aA, nats_ok ls (fun s hs => Nat.le_trans (e2 s hs) m6), hi, lx, fun t H4 ht k4 e4 => ?_⟩
        rw [nats_sz, nats_sz] at e4
        refine ⟨t, _, rfl, SqT.of e4, rfl, _, _, rfl, _, _, rfl, rfl, ?_⟩
        have pt : p ≠ L := pL
        refine ⟨_, rfl, .inl ⟨rfl, _, SqL.of (k4 _ _ hl)⟩, ?_⟩
        have sb : ∀ j : Nat, ss[j]?.getD 0 ≤ 6 := fun j => by
          cases e : ss[j]? with
          | none => exact Nat.zero_le _
          | some s => exact Nat.le_trans (e2 s (List.mem_of_getElem? e)) m6
        refine ⟨_, rfl, _, rfl, _, rfl, _, rfl, p, _, _, _, q, rfl, hq, sb _, sb _, b3.keep k4, by omega, fun M ac m H5 hM g5 b5 e5 al5 mk => ?_⟩
        have l4 := k4 _ _ hl
        have l5 := g5 _ _ pL.symm l4
        have ML : M ≠ L := fun z => by rw [z, l4] at hM; cases hM
        have pM : p ≠ M := (b3.keep k4).ne hM
        refine ⟨L, acc, _, rfl, rfl, l5, ?_, ?_⟩
        · have := anyL_len al3
          rw [List.length_map, lm] at this
          exact Nat.lt_of_le_of_lt (by omega : acc.length ≤ 1000) (by decide)
        · obtain ⟨bxl, hbx⟩ := bx_at b5
          have nr : noLs (m.map tupI) = true := noLs_of fun d hd => by
            obtain ⟨r, _, rfl⟩ := List.mem_map.mp hd
            exact noL_tupI r
          have al6 : AnyL (del (del H5 p) L) ac (m.map tupI) := anyL_noL (by rw [del_ne pL.symm]; exact l5) _ _ (anyL_noL hbx _ _ al5 nr) nr
          have eqd : ∀ o, del (del (upd H5 L o) p) L = del (del H5 p) L := fun o => by
            funext z
            by_cases y1 : z = L
            · rw [y1, del_same, del_same]
            · rw [del_ne y1, del_ne y1]
              by_cases y2 : z = p
              · rw [y2, del_same, del_same]
              · rw [del_ne y2, del_ne y2, upd_ne y1]
          refine ⟨⟨_, _, _, rfl⟩, fun z o ne eo => ?_, ?_, ?_, acc ++ [.ref M], ms ++ [m], upd_same, ?_, by rw [List.length_append, lm] <;> rfl, fun j m' hj => ?_⟩
          · by_cases zL : z = L
            · rw [zL, hL] at eo; cases eo
            · rw [upd_ne zL]
              exact g5 z o ne (k4 _ _ (g3 z o ne eo))
          · obtain ⟨c1, c2, c3, h1, rest⟩ := b5
            exact Bx.more ⟨c1, c2, c3, by rw [upd_ne pL]; exact h1, rest⟩ (by omega)
          · rw [upd_ne AL]
            exact g5 _ _ pA.symm (k4 _ _ a3)
          · rw [eqd, List.map_append]
            refine anyL_snoc (anyL_keep (Grow.del (Grow.of (Grow.del ((Grow.of k4).trans g5)))) al3) (.lst ?_ al6)
            rw [del_ne ML, del_ne pM.symm]
            exact e5
          · by_cases ej : j < ms.length
            · rw [List.getElem?_append_left ej] at hj
              exact mo j m' hj
            · rw [List.getElem?_append_right (by omega)] at hj
              have ej2 : j = i := by
                have := (List.getElem?_eq_some_iff.mp hj).1
                simp at this
                omega
              rw [ej2, lm, Nat.sub_self] at hj
              have e7 : m = m' := Option.some.inj hj
              rw [ej2, ← e7]
              exact mk
      · rintro σ' H3 ⟨⟨y4, y7, y8, rfl⟩, g3, b3, a3, acc, ms, hl, al3, lm, mo⟩
        refine ⟨_, rfl, _, rfl, _, rfl, _, rfl, (by show 4 ≤ sizeLine; decide), fun l hl2 => ?_⟩
        have gg : Grow p H H3 := g2.trans g3
        have k9 := same_new (o := .lst [.str x, .int q, .ref A, .ref L]) hl2
        have pl := b3.ne hl2
        refine k0 l _ ss ms ⟨ls, e2, lm, mo⟩ (gg.trans (Grow.of k9)) ((b3.keep k9).more (by omega)) ?_
        have d9 : Same (del H3 p) (del (upd H3 l (.lst [.str x, .int q, .ref A, .ref L])) p) := del_new hl2
        refine .lst (by rw [del_ne pl.symm]; exact upd_same) (.cons (.str x) (.cons (.int q) (.cons (.lst (d9 _ _ (by rw [del_ne pA.symm]; exact a3)) ?_) (.cons (.lst (d9 _ _ (by rw [del_ne pL.symm]; exact hl)) (anyL_keep (same_del.trans d9) al3)) .nil))))
        have := ints_anyL (H := del (upd H3 l (.lst [.str x, .int q, .ref A, .ref L])) p) (ss.map fun s => ((s : Nat) : Int))
        rw [List.map_map, List.map_map] at this
        exact this
end
end K11

set_option Elab.async false
set_option linter.all false
set_option maxRecDepth 100000
set_option maxHeartbeats 4000000
/-! TkJ: drafts make rows; own rows made, in a try's body and outside. -/
namespace Rw
open PySem PySem.Spec PyProof.Rows L2
theorem pair_any {H : Hp} {l : Addr} {x : Str} {v : V} {d : PyData} (hl : H l = none) (h : Any H v d) : Any (upd H l (.lst [.str x, v])) (.ref l) (.list [.str x, d]) := .lst upd_same (.cons (.str x) (.cons (h.keep (same_new hl)) .nil))
theorem fmod_id {e q : Int} (h0 : 0 ≤ e) (h1 : e < q) : e.fmod q = e := by
  rw [fmod_pos (by omega)]
  exact Int.emod_eq_of_lt h0 h1
theorem rows_id {q : Int} {h w : Nat} {m : List (List Int)} (k : MatOk q h w m) : rowsM q (sheetD m) = m.map tupI := by
  unfold rowsM
  show (m.map tupI).map (fun r => PyData.tuple ((itemsD r).map (modD q))) = _
  rw [List.map_map]
  refine List.map_congr_left fun r hr => ?_
  show PyData.tuple (((r.map PyData.int)).map (modD q)) = _
  rw [List.map_map]
  unfold tupI
  congr 1
  refine List.map_congr_left fun e he => ?_
  obtain ⟨h0, h1⟩ := (k.w r hr).2 e he
  show PyData.int (e.fmod q) = _
  rw [fmod_id h0 h1]
theorem mat_is {q : Int} {h w : Nat} {m : List (List Int)} (k : MatOk q h w m) : isMatD (h : Nat) (w : Nat) (sheetD m) = true := by
  unfold isMatD
  rw [Bool.and_eq_true, Bool.and_eq_true]
  refine ⟨rfl, decide_eq_true (by show (((m.map tupI).length : Nat) : Int) = _; rw [List.length_map, k.h]), List.all_eq_true.mpr fun d hd => ?_⟩
  obtain ⟨r, hr, rfl⟩ := List.mem_map.mp hd
  unfold isVecD
  rw [Bool.and_eq_true, Bool.and_eq_true]
  refine ⟨rfl, decide_eq_true (by show (((r.map PyData.int).length : Nat) : Int) = _; rw [List.length_map, (k.w r hr).1]), List.all_eq_true.mpr fun e he => ?_⟩
  obtain ⟨n, _, rfl⟩ := List.mem_map.mp he
  rfl
theorem draft_at {ms : List (List (List Int))} {i : Nat} {m : List (List Int)} (h : ms[i]? = some m) : atD (.list (ms.map sheetD)) i = sheetD m := atD_get (by
  show (ms.map sheetD)[i]? = _
  rw [List.getElem?_map, h] <;> rfl)
theorem draft_good {x : Str} {q : Int} {most : Nat} {ss : List Nat} {ms : List (List (List Int))} (d : Draft x q most ss ms) (px : Pat x 6) (hq : q ∈ primesL) (m6 : most ≤ 6) : rowGood x q (.list (ss.map natD)) (.list (ms.map sheetD)) = true := by
  unfold rowGood
  have e1 : isPatD (.str x) = true := by
    show (decide (x.length ≤ 6) && x.cps.toList.all isArr) = true
    rw [decide_eq_true px.l, px.a] <;> rfl
  have e2 : isPr (.int q) = true := decide_eq_true hq
  have e3 : mapsOk x.length (.list (ms.map sheetD)) = true := by
    unfold mapsOk
    rw [Bool.and_eq_true]
    exact ⟨rfl, decide_eq_true (by show (ms.map sheetD).length = _; rw [List.length_map, d.ml])⟩
  have e4 : badAt x (.list (ss.map natD)) (.list (ms.map sheetD)) = none := bad_none fun j hj => by
    have hj2 : j < ms.length := by rw [d.ml]; exact hj
    have h1 : ms[j]? = some ms[j] := List.getElem?_eq_getElem hj2
    unfold matOk
    rw [draft_at h1, nats_sz, nats_sz]
    exact mat_is (d.mo j _ h1)
  rw [e1, e2, nats_ok d.sl (fun s hs => Nat.le_trans (d.sb s hs) m6), e3, e4] <;> rfl
theorem draft_rows {x : Str} {q : Int} {most : Nat} {ss : List Nat} {ms : List (List (List Int))} (d : Draft x q most ss ms) : (itemsD (.list (ms.map sheetD))).map (rowsM q) = ms.map fun m => m.map tupI := by
  show (ms.map sheetD).map (rowsM q) = _
  rw [List.map_map]
  refine List.map_congr_left fun m hm => ?_
  obtain ⟨i, hi⟩ := List.getElem?_of_mem hm
  exact rows_id (d.mo i m hi)
theorem mat_small {q : Int} {h w : Nat} {m : List (List Int)} (k : MatOk q h w m) (hq : q ∈ primesL) (h6 : h ≤ 6) (w6 : w ≤ 6) : Fit (sheetD m) ∧ SheetT (sheetD m) := by
  have pp := prime_pos hq
  have cell : ∀ r, r ∈ m → ∀ d, d ∈ r.map PyData.int → Cell d := fun r hr d hd => by
    obtain ⟨e, he, rfl⟩ := List.mem_map.mp hd
    obtain ⟨h0, h1⟩ := (k.w r hr).2 e he
    exact cell_int (Nat.lt_of_le_of_lt (by omega : e.natAbs ≤ 13) (by decide))
  have lr : ∀ r, r ∈ m → (r.map PyData.int).length ≤ 6 := fun r hr => by rw [List.length_map, (k.w r hr).1]; exact w6
  have lm : (m.map tupI).length ≤ 6 := by rw [List.length_map, k.h]; exact h6
  have row : ∀ d, d ∈ m.map tupI → RowT d := fun d hd => by
    obtain ⟨r, hr, rfl⟩ := List.mem_map.mp hd
    exact ⟨tm_tup (lr r hr) fun d hd => (cell r hr d hd).tm, fit1_of (ds := r.map PyData.int) rfl (by have := lr r hr; omega) fun d hd => (cell r hr d hd).sm, rfl⟩
  have s := sheet_list lm row
  exact ⟨s.f, s⟩
theorem st_le {x : Str} {i : Nat} (h : i < x.length) : stA x i ≤ x.length := Nat.le_trans (stA_le x i) h
theorem get_le {ss : List Nat} {most : Nat} (h : ∀ s, s ∈ ss → s ≤ most) (j : Nat) : ss[j]?.getD 0 ≤ most := by
  cases e : ss[j]? with
  | none => exact Nat.zero_le _
  | some s => exact h s (List.mem_of_getElem? e)
theorem draft_sheet {x : Str} {q : Int} {most : Nat} {ss : List Nat} {ms : List (List (List Int))} (d : Draft x q most ss ms) (hq : q ∈ primesL) (m6 : most ≤ 6) : ∀ e, e ∈ ms.map sheetD → SheetT e := by
  intro e he
  obtain ⟨m, hm, rfl⟩ := List.mem_map.mp he
  obtain ⟨i, hi⟩ := List.getElem?_of_mem hm
  exact (mat_small (d.mo i m hi) hq (Nat.le_trans (get_le d.sb _) m6) (Nat.le_trans (get_le d.sb _) m6)).2
theorem draft_fitM {x : Str} {q : Int} {most : Nat} {ss : List Nat} {ms : List (List (List Int))} (d : Draft x q most ss ms) (px : Pat x 6) (hq : q ∈ primesL) (m6 : most ≤ 6) : FitM (.list (ms.map sheetD)) :=
  ⟨by show (ms.map sheetD).length ≤ _; rw [List.length_map, d.ml]; have := px.l; omega, fun e he => (draft_sheet d hq m6 e he).f⟩
theorem pat_short {x : Str} {m : Nat} (p : Pat x m) (h : m ≤ 6) : Short (.str x) := fun y e => by
  cases e
  have := p.l
  omega
/-! ### rows made -/
/-- the class of rows, its methods at hand -/
structure RowsAt (P : Program) (w : World) (K : PySem.W.Frag) (mg : Str → Option Value) (base : Heap) (C CT CP CZ CA CM : Addr) : Prop where
  g : mg "Row" = some (.ref C)
  cl : Cls K C
  ini : ∃ (f : Addr) (fd : FuncData), Mk K C f ∧ FnOk P w K mg base (L2.CX P w) 6 f fd ["self", "pattern", "prime", "sizes", "maps"] (spIniR C CT CP CZ CA CM) ∧ Binds K fd ["self", "pattern", "prime", "sizes", "maps"] []
section
variable {X : Cx} {C CT CP CZ CA CM : Addr} {p pos : Pos} {e : Expr} {es : List Expr} {t : TA}
def tRowS (C CT CP CZ CA CM : Addr) (W : WX) (t : TA) : TE := fun σ H Q => t σ H fun vs H1 => tRowMk C CT CP CZ CA CM H1 vs Q (fun cls d H' => W cls d σ H')
def tRowN (C CT CP CZ CA CM : Addr) (E : XK) (t : TA) : TE := fun σ H Q => t σ H fun vs H1 => tRowMk C CT CP CZ CA CM H1 vs Q E
theorem pe_rowS {W : WX} (R : RowsAt X.prog X.w X.K X.mg X.base C CT CP CZ CA CM) (hr : Room 7 X.A) (hx : ∀ σ, PassesAt (L2.CX X.prog X.w) X σ (fun cls d H' => W cls d σ H')) (ha : PA X (e :: es) t) (hg : Gl X "Row" := by rfl)
    (he : starEach (e :: es) X.env = (false, eval e X.env) :: starEach es X.env := by rfl) (hpl : (backTo pos (starEach es X.env)).any (·.1) = false := by rfl) : PE X (.Call (.Name "Row" p) (e :: es) [] pos) (tRowS C CT CP CZ CA CM W t) := by
  obtain ⟨f, fd, M, F, hb⟩ := R.ini
  refine ⟨fun pins s σ H Q I h => ?_⟩
  refine wpAny_Call_Name_kw (ld_glob I hg R.g ?_ (by decide))
  refine PySem.W.callWith_K (h₀ := X.base) I.ok.mod.kin M.kp (thn (ha.run pos pins s σ H _ I h) fun us s1 ⟨vs, H1, I1, r, q⟩ => ⟨I1.kIn, ?_⟩) he hpl
  exact run_makeS M F hr hb .nil hx I1 r (row_make q)
theorem pe_rowN {E : XK} (R : RowsAt X.prog X.w X.K X.mg X.base C CT CP CZ CA CM) (hr : Room 7 X.A) (hx : Passes (L2.CX X.prog X.w) X E) (ha : PA X (e :: es) t) (hg : Gl X "Row" := by rfl)
    (he : starEach (e :: es) X.env = (false, eval e X.env) :: starEach es X.env := by rfl) (hpl : (backTo pos (starEach es X.env)).any (·.1) = false := by rfl) : PE X (.Call (.Name "Row" p) (e :: es) [] pos) (tRowN C CT CP CZ CA CM E t) := by
  obtain ⟨f, fd, M, F, hb⟩ := R.ini
  refine ⟨fun pins s σ H Q I h => ?_⟩
  refine wpAny_Call_Name_kw (ld_glob I hg R.g ?_ (by decide))
  refine PySem.W.callWith_K (h₀ := X.base) I.ok.mod.kin M.kp (thn (ha.run pos pins s σ H _ I h) fun us s1 ⟨vs, H1, I1, r, q⟩ => ⟨I1.kIn, ?_⟩) he hpl
  exact run_make M F hr hb .nil hx I1 r (row_make q)
end
def spRowL (C : Addr) : Sp := fun vs H Q _ => ∃ v x q most ss ms, vs = [v] ∧ Any H v (draftD x q ss ms) ∧ Draft x q most ss ms ∧ Pat x 6 ∧ q ∈ primesL ∧ most ≤ 6 ∧
  ∀ a H', H a = none → Same H H' → RowAt C H' a x q (ss.map natD) (ms.map fun m => m.map tupI) → Q (.ref a) H'
/-- of data that is right nothing is refused -/
theorem good_parts {x : Str} {p : Int} {ds dm : PyData} (h : rowGood x p ds dm = true) : isPatD (.str x) = true ∧ isPr (.int p) = true ∧ sizesOk x.length ds = true ∧ mapsOk x.length dm = true ∧ badAt x ds dm = none := by
  unfold rowGood at h
  simp only [Bool.and_eq_true, Option.isNone_iff_eq_none] at h
  exact h
theorem good_err {x : Str} {p : Int} {vp vq va vm : V} {ds dm : PyData} {CT CP CZ CA CM : Addr} {H : Hp} {E : XK} (h : rowGood x p ds dm = true) : RowErr CT CP CZ CA CM H E vp vq va vm (.str x) (.int p) ds dm := by
  obtain ⟨h1, h2, h3, h4, h5⟩ := good_parts h
  refine ⟨fun z => (by rw [h1] at z; cases z), fun _ z => (by rw [h2] at z; cases z), fun y e _ _ z => ?_, fun y e _ _ _ z => ?_, fun y i v H1 e _ _ _ _ z => ?_⟩
  · cases e; rw [h3] at z; cases z
  · cases e; rw [h4] at z; cases z
  · cases e; rw [h5] at z; cases z
def spMatC (C : Addr) : Sp := fun vs H Q _ => ∃ a v d x p ss mm, vs = [.ref a, v] ∧ RowAt C H a x p ss mm ∧ Any H v d ∧ mm.length ≤ 1000 ∧ ∀ l H', Same H H' → Any H' (.ref l) (if inB d (.int 0) (.int ((mm.length : Nat) - 1 : Int)) = true then wD "told" (.list (mm[(intN d).toNat]?.getD [])) else wD "place" d) → Q (.ref l) H'
def spBarsN : Sp := fun vs H Q _ => ∃ x, vs = [.str x] ∧ x.length ≤ 6 ∧ ∀ l acc H', H l = none → Same H H' → H' l = some (.lst acc) → AnyL H' acc ((barsL (x.length + 1)).map barD) → Q (.ref l) H'
end Rw

set_option Elab.async false
set_option linter.all false
set_option maxRecDepth 100000
set_option maxHeartbeats 4000000
/-! K11F: the law's looks; what is due, what is caught. -/
namespace K11
open PySem PySem.Spec PyProof.Rows L2 Rw
abbrev sRowL : Stmt := top 42
abbrev sBarsL : Stmt := top 43
abbrev sListed : Stmt := top 46
abbrev sSheetL : Stmt := top 47
abbrev sArr : Stmt := top 48
abbrev sDue : Stmt := top 49
abbrev sCaught : Stmt := top 50
abbrev sBarsC : Stmt := top 53
abbrev sMatC : Stmt := top 54
abbrev NBarsL : List Str := ["_law_arrows", "_law_found", "_law_a", "_law_b"]
abbrev NSheetL : List Str := ["_law_thing", "_law_high", "_law_wide", "_law_row_here", "_law_item"]
abbrev NArr : List Str := ["_law_thing", "_law_sign"]
abbrev NDue : List Str := ["_law_thing", "_law_arrows", "_law_p", "_law_amounts", "_law_pieces", "_law_k", "_law_high", "_law_wide", "_law_item"]
abbrev NCaught : List Str := ["_law_thing", "e"]
abbrev NBarsC : List Str := ["_law_arrows", "e"]
abbrev NMatC : List Str := ["_law_row_here", "_law_k", "e"]
theorem scRowL : FnScope ["_law_draft_here"] ["_law_draft_here"] (defScope sRowL) := ⟨rfl, rfl, rfl, by decide +kernel, rfl, by decide +kernel, by decide +kernel⟩
theorem scBarsL : FnScope NBarsL ["_law_arrows"] (defScope sBarsL) := ⟨rfl, rfl, rfl, by decide +kernel, rfl, by decide +kernel, by decide +kernel⟩
theorem scListed : FnScope ["_law_thing"] ["_law_thing"] (defScope sListed) := ⟨rfl, rfl, rfl, by decide +kernel, rfl, by decide +kernel, by decide +kernel⟩
theorem scSheetL : FnScope NSheetL ["_law_thing", "_law_high", "_law_wide"] (defScope sSheetL) := ⟨rfl, rfl, rfl, by decide +kernel, rfl, by decide +kernel, by decide +kernel⟩
theorem scArr : FnScope NArr ["_law_thing"] (defScope sArr) := ⟨rfl, rfl, rfl, by decide +kernel, rfl, by decide +kernel, by decide +kernel⟩
theorem scDue : FnScope NDue ["_law_thing"] (defScope sDue) := ⟨rfl, rfl, rfl, by decide +kernel, rfl, by decide +kernel, by decide +kernel⟩
theorem scCaught : FnScope NCaught ["_law_thing"] (defScope sCaught) := ⟨rfl, rfl, rfl, by decide +kernel, rfl, by decide +kernel, by decide +kernel⟩
theorem scBarsC : FnScope NBarsC ["_law_arrows"] (defScope sBarsC) := ⟨rfl, rfl, rfl, by decide +kernel, rfl, by decide +kernel, by decide +kernel⟩
theorem scMatC : FnScope NMatC ["_law_row_here", "_law_k"] (defScope sMatC) := ⟨rfl, rfl, rfl, by decide +kernel, rfl, by decide +kernel, by decide +kernel⟩
/-- what the top has left for the clauses -/
structure TxC (K : PySem.W.Frag) (mg : Str → Option Value) (CR CP CT CZ CA CM : Addr) : Prop where
  gR : mg "RowError" = some (.ref CR)
  tt : PySem.W.exmOne K (.ref CT) (.ref CT) = some true
  pt : PySem.W.exmOne K (.ref CP) (.ref CT) = some false
  pp : PySem.W.exmOne K (.ref CP) (.ref CP) = some true
  zt : PySem.W.exmOne K (.ref CZ) (.ref CT) = some false
  zp : PySem.W.exmOne K (.ref CZ) (.ref CP) = some false
  zz : PySem.W.exmOne K (.ref CZ) (.ref CZ) = some true
  at_ : PySem.W.exmOne K (.ref CA) (.ref CT) = some false
  ap : PySem.W.exmOne K (.ref CA) (.ref CP) = some false
  az : PySem.W.exmOne K (.ref CA) (.ref CZ) = some false
  aa : PySem.W.exmOne K (.ref CA) (.ref CA) = some true
  mt : PySem.W.exmOne K (.ref CM) (.ref CT) = some false
  mp : PySem.W.exmOne K (.ref CM) (.ref CP) = some false
  mz : PySem.W.exmOne K (.ref CM) (.ref CZ) = some false
  ma : PySem.W.exmOne K (.ref CM) (.ref CA) = some false
  mm : PySem.W.exmOne K (.ref CM) (.ref CM) = some true
section
variable {P : Program} {w : World} {K : PySem.W.Frag} {mg : Str → Option Value} {base : Heap} {aI aT C CR CP CT CZ CA CM CL : Addr} {kI : List (Int × Value)} {kT : List (Str × Value)}
theorem okListed {f : Addr} {fd : FuncData} (F : Fun K "_law_listed" "_law_listed" sListed f fd) (T : Txt K w mg aI aT CP CT CZ CA CM CL kI kT) : FnOk P w K mg base CX0 1 f fd ["_law_thing"] spList := by
  refine F.ok scListed (fun vs H Q E h => ?_) (fun cdv A outer s H vs Q E hr h => ?_)
  · obtain ⟨v, d, rfl, _⟩ := h
    rfl
  · obtain ⟨v, d, rfl, an, q⟩ := h
    refine ⟨_, (pss_one (ps_ret (pe_callB call_isiT (by rfl) T.isi (by decide +kernel) (pa_cons (pv 0) (pa_cons (pe_tup (pa_cons (pe_bltn (v := .ty "list") rfl T.list (by decide +kernel) rfl) (pa_cons (pe_bltn (v := .ty "tuple") rfl T.tuple (by decide +kernel) rfl) pa_nil))) pa_nil))))), ?_⟩
    refine ⟨v, rfl, (by show 2 ≤ sizeLine; decide), fun tp htp => ?_⟩
    exact ⟨v, tp, _, _, _, _, rfl, upd_same, .cons (.ty _) (.cons (.ty _) .nil), any_ty (an.keep (same_new htp)), kit_seq d, q _ (same_new htp)⟩
theorem okArr {f : Addr} {fd : FuncData} (F : Fun K "_law_is_arrows" "_law_is_arrows" sArr f fd) (T : Txt K w mg aI aT CP CT CZ CA CM CL kI kT) : FnOk P w K mg base CX0 1 f fd ["_law_thing"] spPat := by
  refine F.ok scArr (fun vs H Q E h => ?_) (fun cdv A outer s H vs Q E hr h => ?_)
  · obtain ⟨v, d, rfl, _⟩ := h
    rfl
  · obtain ⟨v, d, rfl, an, sh, q⟩ := h
    refine ⟨_, (pss_one (ps_ret (pe_and (pe_callB call_isi (by rfl) T.isi (by decide +kernel) (pa_cons (pv 0) (pa_cons (pe_bltn (v := .ty "str") rfl T.str (by decide +kernel) rfl) pa_nil))) (pe_and (pe_cmpR op_lt (pe_callB call_len_str (by rfl) T.len (by decide +kernel) (pa_cons (pv 0) pa_nil)) pe_int (nomark _)) (pe_one (pe_cmpR (op_eq_nil hr.units0) (pe_lc (own := [("_law_sign", 1)]) (g := gName 1) rfl scArr.nd (pi_str (pv 0)) (blkOk_by (N := NArr) (sc := defScope sArr) (by decide +kernel)) (fun _ _ _ _ _ => (pg_name (i := 1) scArr.nd rfl (Or.inl rfl))) (fun _ _ _ _ _ => (pts_one (pt_cmpR op_notIn_sign (pv 1) pe_str (by rfl)))) (fun _ _ _ _ _ => (pv 1))) (pe_lst pa_nil) (by rfl))))))), ?_⟩
    refine ⟨v, rfl, v, .ty "str", _, _, _, rfl, .ty _, any_ty an, kit_str d, _, rfl, ?_⟩
    cases an with
    | str x =>
      have lx := sh x rfl
      refine iteT ⟨_, rfl, x, rfl, (Nat.le_trans lx (by decide)), _, _, rfl, rfl, _, rfl, ?_⟩
      refine ite2 (fun z => ?_) (fun z => ?_)
      · have z2 : x.length ≤ 6 := by
          have := of_decide_eq_true z
          omega
        have e1 : isPatD (.str x) = x.cps.toList.all isArr := by
          show (decide (x.length ≤ 6) && _) = _
          rw [decide_eq_true z2, Bool.true_and]
        refine ⟨_, rfl, x, rfl, fun D hD => ?_⟩
        refine lc_filter walk_str (Nat.le_trans z2 (by decide)) hD (fun _ _ => trivial) (fun i => !isArr (x.cps.toList[i]?.getD 0)) ?_ ?_
        · rintro i y H' hi ⟨c, hc, rfl⟩ s1
          refine ⟨rfl, fun k' hk => ?_, fun k' H' hk => ⟨_, rfl, hk⟩⟩
          have hc2 : x.cps.toList[i]? = some c := by simpa using hc
          refine ⟨_, rfl, c, _, rfl, rfl, _, rfl, ?_⟩
          have h1 := hk _ (fun _ _ z => z)
          rw [hc2] at h1
          have e5 : (!decide (c ∈ (("><" : String) : Str).cps.toList)) = !isArr c := by
            congr 1
            have e6 : (("><" : String) : Str).cps.toList = [62, 60] := rfl
            rw [e6]
            unfold isArr
            by_cases h1 : c = 62
            · simp [h1]
            · by_cases h2 : c = 60
              · simp [h2]
              · simp [h1, h2]
          rw [e5]
          exact h1
        · refine fun H' acc s1 ha hal => ?_
          simp only [Bool.not_not] at hal
          rw [show x.cps.size = x.cps.toList.length by simp, all_get isArr 0] at hal
          refine ⟨by show 0 ≤ sizeLine; decide, fun q1 h1 => ⟨D, q1, acc, rfl, rfl, same_new h1 _ _ ha, upd_same, ?_⟩⟩
          rw [hal, ← e1]
          exact q _ (s1.trans (same_new h1))
      · have e1 : isPatD (.str x) = false := by
          show (decide (x.length ≤ 6) && _) = _
          rw [decide_eq_false (fun y => z (decide_eq_true (by omega))), Bool.false_and]
        rw [e1] at q
        exact q _ (fun _ _ z => z)
    | _ => exact iteF (q _ (fun _ _ z => z))
theorem okSheetL {f : Addr} {fd : FuncData} (F : Fun K "_law_is_sheet" "_law_is_sheet" sSheetL f fd) (T : Txt K w mg aI aT CP CT CZ CA CM CL kI kT) (GL : Own P w K mg base CX0 1 "_law_listed" ["_law_thing"] [] spList) (GW : Own P w K mg base CX0 1 "_law_whole" ["_law_thing"] [] spWholeR) :
    FnOk P w K mg base CX0 2 f fd ["_law_thing", "_law_high", "_law_wide"] spSheetL := by
  refine F.ok scSheetL (fun vs H Q E h => ?_) (fun cdv A outer s H vs Q E hr h => ?_)
  · obtain ⟨v, d, n, m, rfl, _⟩ := h
    rfl
  · obtain ⟨v, d, n, m, rfl, an, ft, q⟩ := h
    have sz := ft.top.len
    refine ⟨_, (pss_cons (ps_if (PW.pt (pw_or (pt_not (pt_val (pe_own GL hr pass0 (pa_cons (pv 0) pa_nil)))) (pw_or1 (pt_cmpR op_ne (pe_callB call_len_seq (by rfl) T.len (by decide +kernel) (pa_cons (pv 0) pa_nil)) (pv 1) (nomark _))))) (pss_one (ps_ret pe_bl)) pss_nil)
      (pss_cons (ps_for PassesOwn.never rfl (pi_seq (pv 0)) (pg_name (i := 3) scSheetL.nd rfl (Or.inl rfl)) (pss_one (ps_if (PW.pt (pw_or (pt_not (pt_val (pe_own GL hr pass0 (pa_cons (pv 3) pa_nil)))) (pw_or (pt_cmpR op_ne (pe_callB call_len_seq (by rfl) T.len (by decide +kernel) (pa_cons (pv 3) pa_nil)) (pv 2) (nomark _)) (pw_or1 (pt_cmpR (op_ne_nil hr.units0) (pe_lc (own := [("_law_item", 4)]) (g := gName 4) rfl scSheetL.nd (pi_seq (pv 3)) (blkOk_by (N := NSheetL) (sc := defScope sSheetL) (by decide +kernel)) (fun _ _ _ _ _ => (pg_name (i := 4) scSheetL.nd rfl (Or.inl rfl))) (fun _ _ _ _ _ => (pts_one (pt_not (pt_val (pe_own GW hr pass0 (pa_cons (pv 4) pa_nil)))))) (fun _ _ _ _ _ => (pv 4))) (pe_lst pa_nil) (by rfl)))))) (pss_one (ps_ret pe_bl)) pss_nil)))
      (pss_one (ps_ret pe_bl)))), ?_⟩
    refine ⟨_, rfl, v, d, rfl, an, fun H1 k1 => ⟨_, rfl, ?_⟩⟩
    rcases seq_flag an with ⟨e, k, a, xs, rfl, hs, al⟩ | e
    · rw [e]
      have ln := anyL_len al
      refine iteF ⟨_, rfl, a, xs, rfl, (hs k1 K).or, _, rfl, rfl, _, rfl, ?_⟩
      have hv : isMatD n m d = (decide (((itemsD d).length : Int) = n) && (itemsD d).all (isVecD m)) := by
        unfold isMatD
        rw [e] <;> rfl
      rw [hv] at q
      by_cases z : V.int (xs.length : Int) = V.int n
      · rw [decide_eq_true z]
        have z2 : (((itemsD d).length : Nat) : Int) = n := by
          injection z with z3
          rw [← ln]
          exact z3
        rw [decide_eq_true z2, Bool.true_and] at q
        refine iteF ⟨.ref a, rfl, a, k, xs, rfl, hs k1 K, ?_⟩
        refine for_it walk_seq (fun i σ' H' => (∃ y3, σ' = [some (.ref a), some (.int n), some (.int m), y3, none]) ∧ Same H1 H' ∧ ∀ j, j < i → isVecD m ((itemsD d)[j]?.getD .none) = true) ⟨⟨_, rfl⟩, fun _ _ z => z, fun j h => by omega⟩ (fun i σ' H' _ z => hs (k1.trans z.2.1) K) ?_ ?_
        · rintro i y σ' H2 H3 hi ⟨⟨y3, rfl⟩, k2, ok⟩ ⟨rfl, hy⟩
          obtain ⟨dx, hdx, anx⟩ := anyL_at al hy
          have kk := k1.trans k2
          have fx := ft.sub dx (List.mem_of_getElem? hdx)
          have edx : (itemsD d)[i]?.getD .none = dx := by rw [hdx] <;> rfl
          have no : ∀ H', isVecD m dx = false → Same H H' → Q (.bl false) H' := fun H' ev kH => by
            have h1 := q H' kH
            have h2 : (itemsD d).all (isVecD m) = false := by
              rw [List.all_eq_false]
              exact ⟨dx, List.mem_of_getElem? hdx, by rw [ev]; simp⟩
            rw [h2] at h1
            exact h1
          refine ⟨_, rfl, y, dx, rfl, anx.keep kk, fun H4 k4 => ⟨_, rfl, ?_⟩⟩
          rcases seq_flag anx with ⟨e2, k5, b, ys, rfl, hs2, al2⟩ | e2
          · rw [e2]
            have ln2 := anyL_len al2
            have hv2 : isVecD m dx = (decide (((itemsD dx).length : Int) = m) && (itemsD dx).all isIntD) := by
              unfold isVecD
              rw [e2] <;> rfl
            refine iteF ⟨_, rfl, b, ys, rfl, (hs2 (kk.trans k4) K).or, _, rfl, rfl, _, rfl, ?_⟩
            by_cases z3 : V.int (ys.length : Int) = V.int m
            · rw [decide_eq_true z3]
              have z4 : (((itemsD dx).length : Nat) : Int) = m := by
                injection z3 with z5
                rw [← ln2]
                exact z5
              rw [decide_eq_true z4, Bool.true_and] at hv2
              refine iteF ⟨.ref b, rfl, b, k5, ys, rfl, hs2 (kk.trans k4) K, fun D hD => ?_⟩
              refine lc_filter walk_seq (by have := fx.len; omega) hD (fun H' s' => hs2 ((kk.trans k4).trans s') K) (fun i => !isIntD ((itemsD dx)[i]?.getD .none)) ?_ ?_
              · refine fun j u H' hj hu s1 => ⟨rfl, fun k' hk => ?_, fun k' H' hk => ⟨_, rfl, hk⟩⟩
                obtain ⟨c, hc, ac⟩ := anyL_at al2 hu
                refine ⟨_, rfl, u, c, rfl, ac.keep ((kk.trans k4).trans s1), _, rfl, ?_⟩
                have h1 := hk _ (fun _ _ z => z)
                rw [hc] at h1
                exact h1
              · refine fun H' acc s1 ha hal => ?_
                simp only [Bool.not_not] at hal
                rw [ln2, all_get isIntD .none] at hal
                refine ⟨by show 0 ≤ sizeLine; decide, fun q1 h1 => ⟨D, q1, acc, rfl, rfl, same_new h1 _ _ ha, upd_same, ?_⟩⟩
                have k9 := ((kk.trans k4).trans s1).trans (same_new (o := .lst []) h1)
                rw [hal, ← hv2]
                refine ⟨_, rfl, ?_⟩
                cases ev : isVecD m dx with
                | true =>
                  refine iteF ⟨⟨_, rfl⟩, ((k2.trans k4).trans s1).trans (same_new h1), fun j hj => ?_⟩
                  by_cases e5 : j < i
                  · exact ok j e5
                  · rw [show j = i by omega, edx]
                    exact ev
                | false => exact iteT (no _ ev k9)
            · rw [decide_eq_false z3]
              have ev : isVecD m dx = false := by
                rw [hv2, decide_eq_false (fun y => z3 (by rw [ln2, y])), Bool.false_and]
              exact iteT (iteT (no _ ev (kk.trans k4)))
          · rw [e2]
            have ev : isVecD m dx = false := by
              unfold isVecD
              rw [e2] <;> rfl
            exact iteT (iteT (no _ ev (kk.trans k4)))
        · rintro σ' H2 ⟨_, k2, ok⟩
          have h2 : (itemsD d).all (isVecD m) = true := by
            rw [List.all_eq_true]
            intro e he
            obtain ⟨j, hj⟩ := List.getElem?_of_mem he
            have hjl : j < xs.length := by
              have := (List.getElem?_eq_some_iff.mp hj).1
              omega
            have := ok j hjl
            rw [hj] at this
            exact this
          have h1 := q H2 (k1.trans k2)
          rw [h2] at h1
          exact h1
      · rw [decide_eq_false z]
        have z2 : ¬ (((itemsD d).length : Nat) : Int) = n := fun y => z (by rw [ln, y])
        rw [decide_eq_false z2] at q
        exact iteT (q _ k1)
    · rw [e]
      have hv : isMatD n m d = false := by
        unfold isMatD
        rw [e] <;> rfl
      rw [hv] at q
      exact iteT (iteT (q _ k1))
end
end K11

set_option Elab.async false
set_option linter.all false
set_option maxRecDepth 100000
set_option maxHeartbeats 4000000
/-! K11G: what is due, what is caught. -/
namespace K11
open PySem PySem.Spec PyProof.Rows L2 Rw
section
variable {P : Program} {w : World} {K : PySem.W.Frag} {mg : Str → Option Value} {base : Heap} {aI aT C CR CP CT CZ CA CM CL : Addr} {kI : List (Int × Value)} {kT : List (Str × Value)}
theorem okDue {f : Addr} {fd : FuncData} (F : Fun K "_law_due" "_law_due" sDue f fd) (T : Txt K w mg aI aT CP CT CZ CA CM CL kI kT) (GA : Own P w K mg base CX0 1 "_law_is_arrows" ["_law_thing"] [] spPat) (GW : Own P w K mg base CX0 1 "_law_whole" ["_law_thing"] [] spWholeR) (GL : Own P w K mg base CX0 1 "_law_listed" ["_law_thing"] [] spList)
    (GM : Own P w K mg base CX0 1 "_law_measures" ["_law_arrows", "_law_amounts", "_law_k"] [] spMeasD) (GS : Own P w K mg base CX0 2 "_law_is_sheet" ["_law_thing", "_law_high", "_law_wide"] [] spSheetL) : FnOk P w K mg base CX0 3 f fd ["_law_thing"] spDueR := by
  refine F.ok scDue (fun vs H Q E h => ?_) (fun cdv A outer s H vs Q E hr h => ?_)
  · obtain ⟨v, d0, d1, d2, d3, rfl, _⟩ := h
    rfl
  · obtain ⟨v, d0, d1, d2, d3, rfl, an, rf, q⟩ := h
    obtain ⟨a, v0, v1, v2, v3, rfl, ea, a0, a1, a2, a3⟩ := any_list4 an
    refine ⟨_, (pss_cons (ps_asg (pv 0) (pg_lst rfl (pgs_cons (pg_name (i := 1) scDue.nd rfl (Or.inl rfl)) (pgs_cons (pg_name (i := 2) scDue.nd rfl (Or.inl rfl)) (pgs_cons (pg_name (i := 3) scDue.nd rfl (Or.inl rfl)) (pgs_cons (pg_name (i := 4) scDue.nd rfl (Or.inl rfl)) pgs_nil))))))
      (pss_cons (ps_if (pt_not (pt_val (pe_own GA (hr.mono (by decide)) pass0 (pa_cons (pv 1) pa_nil)))) (pss_one (ps_ret (pe_lst (pa_cons pe_str (pa_cons (pv 1) pa_nil))))) pss_nil)
      (pss_cons (ps_if (PW.pt (pw_or (pt_not (pt_val (pe_own GW (hr.mono (by decide)) pass0 (pa_cons (pv 2) pa_nil)))) (pw_or1 (pt_cmpR op_notIn_seq (pv 2) (pe_lst (pa_cons pe_int (pa_cons pe_int (pa_cons pe_int (pa_cons pe_int (pa_cons pe_int (pa_cons pe_int pa_nil))))))) (by rfl))))) (pss_one (ps_ret (pe_lst (pa_cons pe_str (pa_cons (pv 2) pa_nil))))) pss_nil)
      (pss_cons (ps_if (PW.pt (pw_or (pt_not (pt_val (pe_own GL (hr.mono (by decide)) pass0 (pa_cons (pv 3) pa_nil)))) (pw_or1 (pt_cmpR op_ne (pe_callB call_len_seq (by rfl) T.len (by decide +kernel) (pa_cons (pv 3) pa_nil)) (pe_op op_add (pe_callB call_len_str (by rfl) T.len (by decide +kernel) (pa_cons (pv 1) pa_nil)) pe_int) (nomark _))))) (pss_one (ps_ret (pe_lst (pa_cons pe_str (pa_cons (pv 3) pa_nil))))) pss_nil)
      (pss_cons (ps_if (pt_cmpR (op_ne_nil hr.units0) (pe_lc (own := [("_law_item", 8)]) (g := gName 8) rfl scDue.nd (pi_seq (pv 3)) (blkOk_by (N := NDue) (sc := defScope sDue) (by decide +kernel)) (fun _ _ _ _ _ => (pg_name (i := 8) scDue.nd rfl (Or.inl rfl))) (fun _ _ _ _ _ => (pts_one (PW.pt (pw_or (pt_not (pt_val (pe_own GW (hr.mono (by decide)) pass0 (pa_cons (pv 8) pa_nil)))) (pw_or1 (pt_not (pt_chain op_le op_le pe_int (pv 8) pe_int))))))) (fun _ _ _ _ _ => (pv 8))) (pe_lst pa_nil) (by rfl)) (pss_one (ps_ret (pe_lst (pa_cons pe_str (pa_cons (pv 3) pa_nil))))) pss_nil)
      (pss_cons (ps_if (PW.pt (pw_or (pt_not (pt_val (pe_own GL (hr.mono (by decide)) pass0 (pa_cons (pv 4) pa_nil)))) (pw_or1 (pt_cmpR op_ne (pe_callB call_len_seq (by rfl) T.len (by decide +kernel) (pa_cons (pv 4) pa_nil)) (pe_callB call_len_str (by rfl) T.len (by decide +kernel) (pa_cons (pv 1) pa_nil)) (nomark _))))) (pss_one (ps_ret (pe_lst (pa_cons pe_str (pa_cons (pv 4) pa_nil))))) pss_nil)
      (pss_cons (ps_for PassesOwn.never rfl (pi_range1 rfl T.range (pa_cons (pe_callB call_len_str (by rfl) T.len (by decide +kernel) (pa_cons (pv 1) pa_nil)) pa_nil)) (pg_name (i := 5) scDue.nd rfl (Or.inl rfl)) (pss_cons (ps_asg (pe_own GM (hr.mono (by decide)) pass0 (pa_cons (pv 1) (pa_cons (pv 3) (pa_cons (pv 5) pa_nil)))) (pg_tup rfl (pgs_cons (pg_name (i := 6) scDue.nd rfl (Or.inl rfl)) (pgs_cons (pg_name (i := 7) scDue.nd rfl (Or.inl rfl)) pgs_nil))))
        (pss_one (ps_if (pt_not (pt_val (pe_own GS (hr.mono (by decide)) pass0 (pa_cons (pe_ix ix_seq (pv 4) (pv 5) (fun _ _ => rfl)) (pa_cons (pv 6) (pa_cons (pv 7) pa_nil)))))) (pss_one (ps_ret (pe_lst (pa_cons pe_str (pa_cons (pe_ix ix_seq (pv 4) (pv 5) (fun _ _ => rfl)) pa_nil))))) pss_nil))))
      (pss_one (ps_ret (pe_lst (pa_cons pe_str (pa_cons (pe_op op_add (pe_callB call_len_str (by rfl) T.len (by decide +kernel) (pa_cons (pv 1) pa_nil)) pe_int) pa_nil)))))))))))), ?_⟩
    refine ⟨_, rfl, a, _, rfl, SqL.of ea, rfl, _, _, rfl, _, _, rfl, _, _, rfl, _, _, rfl, rfl, ?_⟩
    refine ⟨_, rfl, v0, d0, rfl, a0, rf.sp, fun H1 k1 => ⟨_, rfl, ?_⟩⟩
    cases e0 : isPatD d0 with
    | false =>
      refine iteT ⟨_, rfl, by show 2 ≤ sizeLine; decide, fun l hl => q l _ (k1.trans (same_new hl)) ?_⟩
      rw [show rowDue d0 d1 d2 d3 = wD "pattern" d0 by unfold rowDue; rw [e0] <;> rfl]
      exact pair_any hl (a0.keep k1)
    | true =>
      obtain ⟨x, rfl⟩ : ∃ x, d0 = .str x := by
        cases d0 with
        | str x => exact ⟨x, rfl⟩
        | _ => cases e0
      cases a0
      have lx : x.length ≤ 6 := by
        have h1 : (decide (x.length ≤ 6) && x.cps.toList.all isArr) = true := e0
        rw [Bool.and_eq_true] at h1
        exact of_decide_eq_true h1.1
      have lz : x.length ≤ sizeLine := Nat.le_trans lx (by decide)
      refine iteF ?_
      have badP : isPr d1 = false → ∀ H2 l, Same H H2 → H2 l = none → Q (.ref l) (upd H2 l (.lst [.str "prime", v1])) := fun ep H2 l k hl => q l _ (k.trans (same_new hl)) (by
        rw [show rowDue (.str x) d1 d2 d3 = wD "prime" d1 by unfold rowDue; rw [e0, ep] <;> rfl]
        exact pair_any hl (a1.keep k))
      refine ⟨_, rfl, v1, d1, rfl, a1.keep k1, _, rfl, ?_⟩
      cases ed : isIntD d1 with
      | false =>
        have ep : isPr d1 = false := by cases d1 <;> first | rfl | cases ed
        exact iteT (iteT ⟨_, rfl, by show 2 ≤ sizeLine; decide, fun l hl => badP ep H1 l k1 hl⟩)
      | true =>
        obtain ⟨p, rfl, rfl⟩ := int_of a1 ed
        refine iteF ⟨_, rfl, by show 6 ≤ sizeLine; decide, fun q1 h1 => ⟨q1, primesL.map V.int, rfl, .inl (SqL.of upd_same), rfl, flat_ints _, _, rfl, ?_⟩⟩
        have k2 := k1.trans (same_new (o := .lst (primesL.map V.int)) h1)
        rw [inV_ints]
        by_cases hp : p ∈ primesL
        · rw [decide_eq_true hp]
          refine iteF ?_
          have ep : isPr (.int p) = true := decide_eq_true hp
          have badS : sizesOk x.length d2 = false → ∀ H2 l, Same H H2 → H2 l = none → Q (.ref l) (upd H2 l (.lst [.str "sizes", v2])) := fun es H2 l k hl => q l _ (k.trans (same_new hl)) (by
            rw [show rowDue (.str x) (.int p) d2 d3 = wD "sizes" d2 by unfold rowDue; rw [e0, ep, show sizesOk (strD (.str x)).length d2 = false from es] <;> rfl]
            exact pair_any hl (a2.keep k))
          refine ⟨_, rfl, v2, d2, rfl, a2.keep k2, fun H3 k3 => ⟨_, rfl, ?_⟩⟩
          have k23 := k2.trans k3
          rcases seq_flag a2 with ⟨e2, ks, b, ys, rfl, hs2, al2⟩ | e2
          · rw [e2]
            have ln2 := anyL_len al2
            refine iteF ⟨_, rfl, b, ys, rfl, (hs2 k23 K).or, _, rfl, x, rfl, lz, _, _, rfl, rfl, rfl, _, rfl, ?_⟩
            by_cases z2 : (itemsD d2).length = x.length + 1
            · rw [show decide (V.int (ys.length : Int) = V.int ((x.length : Int) + 1)) = true from decide_eq_true (by rw [ln2, z2] <;> rfl)]
              refine iteF ⟨.ref b, rfl, b, ks, ys, rfl, hs2 k23 K, fun D hD => ?_⟩
              refine lc_filter walk_seq (by omega) hD (fun H' s' => hs2 (k23.trans s') K) (fun i => !isSzD ((itemsD d2)[i]?.getD .none)) ?_ ?_
              · refine fun i y H' hi hy s1 => ⟨rfl, fun k' hk => ?_, fun k' H' hk => ⟨_, rfl, hk⟩⟩
                obtain ⟨c, hc, ac⟩ := anyL_at al2 hy
                have ac2 := ac.keep (k23.trans s1)
                have fin : ∀ b, b = !isSzD c → k' b H' := fun b eb => by
                  have h1 := hk _ (fun _ _ z => z)
                  rw [hc] at h1
                  rw [eb]
                  exact h1
                refine ⟨_, rfl, y, c, rfl, ac2, _, rfl, ?_⟩
                cases ec : isIntD c with
                | false => exact iteT (fin _ (by cases c <;> first | rfl | cases ec))
                | true =>
                  obtain ⟨n, rfl, rfl⟩ := int_of ac2 ec
                  refine iteF ⟨_, rfl, _, _, rfl, rfl, _, rfl, ?_⟩
                  have ev : isSzD (.int n) = (decide ((0 : Int) ≤ n) && decide (n ≤ 6)) := rfl
                  refine ite2 (fun z => ?_) (fun z => ?_)
                  · refine ⟨_, _, rfl, rfl, _, rfl, fin _ ?_⟩
                    rw [ev, of_decide_eq_true z |> decide_eq_true, Bool.true_and]
                  · refine ⟨_, rfl, fin _ ?_⟩
                    rw [ev, decide_eq_false (fun y => z (decide_eq_true y)), Bool.false_and]
              · refine fun H' acc s1 ha hal => ?_
                simp only [Bool.not_not] at hal
                rw [ln2, all_get isSzD .none] at hal
                refine ⟨by show 0 ≤ sizeLine; decide, fun q2 h2 => ⟨D, q2, acc, rfl, rfl, same_new h2 _ _ ha, upd_same, ?_⟩⟩
                have k5 := (k23.trans s1).trans (same_new (o := .lst []) h2)
                have es : sizesOk x.length d2 = (itemsD d2).all isSzD := by
                  unfold sizesOk
                  rw [e2, decide_eq_true z2] <;> rfl
                rw [hal, ← es]
                refine ⟨_, rfl, ?_⟩
                cases eS : sizesOk x.length d2 with
                | false => exact iteT ⟨_, rfl, by show 2 ≤ sizeLine; decide, fun l hl => badS eS _ l k5 hl⟩
                | true =>
                  refine iteF ?_
                  have badM : mapsOk x.length d3 = false → ∀ H2 l, Same H H2 → H2 l = none → Q (.ref l) (upd H2 l (.lst [.str "maps", v3])) := fun em H2 l k hl => q l _ (k.trans (same_new hl)) (by
                    rw [show rowDue (.str x) (.int p) d2 d3 = wD "maps" d3 by unfold rowDue; rw [e0, ep, show sizesOk (strD (.str x)).length d2 = true from eS, show mapsOk (strD (.str x)).length d3 = false from em] <;> rfl]
                    exact pair_any hl (a3.keep k))
                  refine ⟨_, rfl, v3, d3, rfl, a3.keep k5, fun H6 k6 => ⟨_, rfl, ?_⟩⟩
                  have k56 := k5.trans k6
                  rcases seq_flag a3 with ⟨e3, km, c, zs, rfl, hs3, al3⟩ | e3
                  · rw [e3]
                    have ln3 := anyL_len al3
                    refine iteF ⟨_, rfl, c, zs, rfl, (hs3 k56 K).or, _, rfl, x, rfl, lz, rfl, _, rfl, ?_⟩
                    by_cases z3 : (itemsD d3).length = x.length
                    · rw [show decide (V.int (zs.length : Int) = V.int (x.length : Int)) = true from decide_eq_true (by rw [ln3, z3])]
                      have eM : mapsOk x.length d3 = true := by
                        unfold mapsOk
                        rw [e3, decide_eq_true z3] <;> rfl
                      have due : ∀ r, badAt x d2 d3 = r → rowDue (.str x) (.int p) d2 d3 = (match r with | some i => wD "matrix" (atD d3 i) | none => wD "told" (.int (x.length + 1 : Nat))) := fun r hr => by
                        unfold rowDue
                        rw [e0, ep, show sizesOk (strD (.str x)).length d2 = true from eS, show mapsOk (strD (.str x)).length d3 = true from eM, show badAt (strD (.str x)) d2 d3 = r from hr] <;> rfl
                      refine iteF ⟨_, rfl, x, rfl, lz, _, rfl, by omega, by omega, ?_⟩
                      have em : ((x.length : Nat) : Int).toNat = x.length := by omega
                      rw [em]
                      refine for_range (lo := 0) (n := x.length) (fun i σ' H' => (∃ y5 y6 y7, σ' = [some (.ref a), some (.str x), some (.int p), some (.ref b), some (.ref c), y5, y6, y7, none]) ∧ Same H6 H' ∧ ∀ j, j < i → matOk x d2 d3 j = true) ⟨⟨_, _, _, rfl⟩, fun _ _ z => z, fun j h => by omega⟩ ?_ ?_
                      · rintro i σ' H7 hi ⟨⟨y5, y6, y7, rfl⟩, k7, ok⟩
                        have k67 := k56.trans k7
                        have ei : (0 + (i : Int)) = (i : Int) := by omega
                        rw [ei]
                        refine ⟨_, rfl, _, rfl, _, rfl, x, _, i, d2, rfl, a2.keep k67, eS, hi, lx, fun t H8 ht k8 e8 => ?_⟩
                        have k78 := k67.trans k8
                        refine ⟨t, _, rfl, SqT.of e8, rfl, _, _, rfl, _, _, rfl, rfl, ?_⟩
                        have hi3 : i < (itemsD d3).length := by omega
                        have g3 : (itemsD d3)[i]? = some (itemsD d3)[i] := List.getElem?_eq_getElem hi3
                        obtain ⟨y, hy, ay⟩ := anyL_of al3 g3
                        have ed3 : atD d3 i = (itemsD d3)[i] := atD_get g3
                        rw [← ed3] at ay
                        have ix : ∀ H9, Same H H9 → ∀ k'' : VK, k'' y H9 → rIx K (.ref c) (.int (i : Int)) H9 k'' := fun H9 k9 k'' hk'' => by
                          have q3 := hs3 k9 K
                          cases km with
                          | true => exact .inl ⟨c, zs, (i : Int), _, rfl, rfl, q3, atI_nat hy, hk''⟩
                          | false => exact .inr (.inl ⟨c, zs, (i : Int), _, rfl, rfl, q3, atI_nat hy, hk''⟩)
                        refine ⟨_, rfl, _, rfl, ix _ k78 _ ⟨_, rfl, _, rfl, y, _, _, _, rfl, ay.keep k78, atD_fit rf.fm hi3, fun H9 k9 => ⟨_, rfl, ?_⟩⟩⟩
                        have k89 := k78.trans k9
                        have em2 : isMatD (szL d2 (stA x i)) (szL d2 (goA x i)) (atD d3 i) = matOk x d2 d3 i := rfl
                        rw [em2]
                        cases eo : matOk x d2 d3 i with
                        | true =>
                          refine iteF ⟨⟨_, _, _, rfl⟩, (k7.trans k8).trans k9, fun j hj => ?_⟩
                          by_cases e5 : j < i
                          · exact ok j e5
                          · rw [show j = i by omega]
                            exact eo
                        | false =>
                          refine iteT ⟨_, rfl, _, rfl, ix _ k89 _ ⟨by show 2 ≤ sizeLine; decide, fun l hl => q l _ (k89.trans (same_new hl)) ?_⟩⟩
                          rw [due _ (bad_some hi eo ok)]
                          exact pair_any hl (ay.keep k89)
                      · rintro σ' H7 ⟨⟨y5, y6, y7, rfl⟩, k7, ok⟩
                        refine ⟨_, rfl, x, rfl, lz, _, _, rfl, rfl, by show 2 ≤ sizeLine; decide, fun l hl => q l _ ((k56.trans k7).trans (same_new hl)) ?_⟩
                        rw [due _ (bad_none ok)]
                        exact .lst upd_same (.cons (.str _) (.cons (.int _) .nil))
                    · rw [show decide (V.int (zs.length : Int) = V.int (x.length : Int)) = false from decide_eq_false (fun y => z3 (by
                        injection y with y2
                        rw [← ln3]
                        exact Int.ofNat.inj y2))]
                      have eM : mapsOk x.length d3 = false := by
                        unfold mapsOk
                        rw [decide_eq_false z3, Bool.and_false]
                      exact iteT ⟨_, rfl, by show 2 ≤ sizeLine; decide, fun l hl => badM eM _ l k56 hl⟩
                  · rw [e3]
                    have eM : mapsOk x.length d3 = false := by
                      unfold mapsOk
                      rw [e3] <;> rfl
                    exact iteT (iteT ⟨_, rfl, by show 2 ≤ sizeLine; decide, fun l hl => badM eM _ l k56 hl⟩)
            · rw [show decide (V.int (ys.length : Int) = V.int ((x.length : Int) + 1)) = false from decide_eq_false (fun y => z2 (by
                injection y with y2
                omega))]
              have eS : sizesOk x.length d2 = false := by
                unfold sizesOk
                rw [decide_eq_false z2, Bool.false_and, Bool.and_false]
              exact iteT ⟨_, rfl, by show 2 ≤ sizeLine; decide, fun l hl => badS eS _ l k23 hl⟩
          · rw [e2]
            have eS : sizesOk x.length d2 = false := by
              unfold sizesOk
              rw [e2] <;> rfl
            exact iteT (iteT ⟨_, rfl, by show 2 ≤ sizeLine; decide, fun l hl => badS eS _ l k23 hl⟩)
        · rw [decide_eq_false hp]
          exact iteT ⟨_, rfl, by show 2 ≤ sizeLine; decide, fun l hl => badP (decide_eq_false hp) _ l k2 hl⟩
end
end K11

set_option Elab.async false
set_option linter.all false
set_option maxRecDepth 100000
set_option maxHeartbeats 4000000
/-! K11H: what is caught; rows of drafts; the law's bars. -/
namespace Rw
open PySem PySem.Spec PyProof.Rows L2
theorem part_rng (a : Nat) : ∀ n, partL a n = (List.range (n - a)).map fun j => (a, a + j)
  | 0 => by simp [partL]
  | n + 1 => by
    rw [part_succ, part_rng a n]
    by_cases h : a ≤ n
    · rw [if_pos h, show n + 1 - a = (n - a) + 1 by omega, List.range_succ, List.map_append]
      show _ ++ [(a, n)] = _ ++ [(a, a + (n - a))]
      rw [show a + (n - a) = n by omega]
    · rw [if_neg h, show n + 1 - a = n - a by omega]
theorem anyL_app {H : Hp} : ∀ {xs ys : List V} {ds es : List PyData}, AnyL H xs ds → AnyL H ys es → AnyL H (xs ++ ys) (ds ++ es)
  | _, _, _, _, .nil, b => b
  | _, _, _, _, .cons a r, b => .cons a (anyL_app r b)
/-- methods of rows at hand -/
structure RowLenAt (P : Program) (w : World) (K : PySem.W.Frag) (mg : Str → Option Value) (base : Heap) (C : Addr) : Prop where
  has : ∃ (f : Addr) (fd : FuncData), PySem.W.findIn K (.ref C) "__len__" = some (some (.ref f)) ∧ PySem.W.isFn K (.ref f) = true ∧ FnOk P w K mg base CX0 1 f fd ["self"] (spLenR C) ∧ Binds K fd ["self"] []
structure RowMatAt (P : Program) (w : World) (K : PySem.W.Frag) (mg : Str → Option Value) (base : Heap) (C CL : Addr) : Prop where
  has : ∃ (f : Addr) (fd : FuncData), Meth K C "matrix" f ∧ FnOk P w K mg base (L2.CX P w) 4 f fd ["self", "index"] (spMatx C CL) ∧ Binds K fd ["self", "index"] []
theorem row_lookup {dx ts tm : Addr} {x : Str} {p : Int} : ([(("_pattern" : Str), V.str x), ("_prime", .int p), ("_sizes", .ref ts), ("_maps", .ref tm)]).lookup ("matrix" : Str) = none := rfl
end Rw
namespace K11
open PySem PySem.Spec PyProof.Rows L2 Rw
section
variable {P : Program} {w : World} {K : PySem.W.Frag} {mg : Str → Option Value} {base : Heap} {aI aT C CR CP CT CZ CA CM CL : Addr} {kI : List (Int × Value)} {kT : List (Str × Value)}
abbrev rLenS (K : PySem.W.Frag) : List V → Hp → VK → Prop := fun xs H Q => ∃ p ys, xs = [.ref p] ∧ (SqL K H p ys ∨ SqT K H p ys) ∧ Q (.int ys.length) H
abbrev tTold (t : TE) : TS := tRet (tLst (tCons (tC (.str "told")) (tCons t tNil)))
abbrev tIxL (K : PySem.W.Frag) (i j : Nat) : TE := tOp (rIxL K) (tVar i) (tC (.int (j : Nat)))
theorem okCaught {f : Addr} {fd : FuncData} (F : Fun K "_law_caught" "_law_caught" sCaught f fd) (T : Txt K w mg aI aT CP CT CZ CA CM CL kI kT) (TC : TxC K mg CR CP CT CZ CA CM) (R : RowsAt P w K mg base C CT CP CZ CA CM) (RL : RowLenAt P w K mg base C) : FnOk P w K mg base CX0 8 f fd ["_law_thing"] spDueR := by
  obtain ⟨fl, fdl, hl, hfn, Fl, bl⟩ := RL.has
  refine F.ok scCaught (fun vs H Q E h => ?_) (fun cdv A outer s H vs Q E hr h => ?_)
  · obtain ⟨v, d0, d1, d2, d3, rfl, _⟩ := h
    rfl
  · obtain ⟨v, d0, d1, d2, d3, rfl, an, rf, q⟩ := h
    obtain ⟨a, v0, v1, v2, v3, rfl, ea, a0, a1, a2, a3⟩ := any_list4 an
    refine ⟨_, (pss_one (ps_tries (tb := fun W => tTold (tCB (rLenO C (spLenR C)) (tCons (tRowS C CT CP CZ CA CM W (tCons (tIxL K 0 0) (tCons (tIxL K 0 1) (tCons (tIxL K 0 2) (tCons (tIxL K 0 3) tNil))))) tNil))) rfl rfl scCaught.nd takes0
      (fun W pn xe tk pw => (pss_one (ps_ret (pe_lst (pa_cons pe_str (pa_cons (pe_callB (call_lenO hl hfn Fl (hr.mono (by decide)) bl) (by rfl) T.len (by decide +kernel) (pa_cons (pe_rowS (W := W) R (hr.mono (by decide)) (fun σ => passAt tk σ) (pa_cons (pe_ix ix_list (pv 0) pe_int (fun _ _ => rfl)) (pa_cons (pe_ix ix_list (pv 0) pe_int (fun _ _ => rfl)) (pa_cons (pe_ix ix_list (pv 0) pe_int (fun _ _ => rfl)) (pa_cons (pe_ix ix_list (pv 0) pe_int (fun _ _ => rfl)) pa_nil))))) pa_nil)) pa_nil))))))
      (.as (i := 1) rfl rfl ⟨rfl, by decide, .inl T.eT.g⟩ (fun a oe cls d pn hz hf => pss_one (ps_ret (pe_lst (pa_cons pe_str (pa_cons (pe_xf T.eT.xf T.eT.no hz hf (pv 1)) pa_nil)))))
      (.as (i := 1) rfl rfl ⟨rfl, by decide, .inl T.eP.g⟩ (fun a oe cls d pn hz hf => pss_one (ps_ret (pe_lst (pa_cons pe_str (pa_cons (pe_xf T.eP.xf T.eP.no hz hf (pv 1)) pa_nil)))))
      (.as (i := 1) rfl rfl ⟨rfl, by decide, .inl T.eZ.g⟩ (fun a oe cls d pn hz hf => pss_one (ps_ret (pe_lst (pa_cons pe_str (pa_cons (pe_xf T.eZ.xf T.eZ.no hz hf (pv 1)) pa_nil)))))
      (.as (i := 1) rfl rfl ⟨rfl, by decide, .inl T.eA.g⟩ (fun a oe cls d pn hz hf => pss_one (ps_ret (pe_lst (pa_cons pe_str (pa_cons (pe_xf T.eA.xf T.eA.no hz hf (pv 1)) pa_nil)))))
      (.as (i := 1) rfl rfl ⟨rfl, by decide, .inl T.eM.g⟩ (fun a oe cls d pn hz hf => pss_one (ps_ret (pe_lst (pa_cons pe_str (pa_cons (pe_xf T.eM.xf T.eM.no hz hf (pv 1)) pa_nil)))))
      (.anon ⟨rfl, by decide, .inl TC.gR⟩ (fun a oe cls d pn hz hf => pss_one (ps_ret (pe_lst (pa_cons pe_str pa_nil)))) .nil)))))))), ?_⟩
    refine ⟨_, rfl, a, _, 0, _, rfl, rfl, SqL.of ea, atI_nat (j := 0) rfl, ?_⟩
    refine ⟨_, rfl, a, _, 1, _, rfl, rfl, SqL.of ea, atI_nat (j := 1) rfl, ?_⟩
    refine ⟨_, rfl, a, _, 2, _, rfl, rfl, SqL.of ea, atI_nat (j := 2) rfl, ?_⟩
    refine ⟨_, rfl, a, _, 3, _, rfl, rfl, SqL.of ea, atI_nat (j := 3) rfl, ?_⟩
    refine ⟨v0, v1, v2, v3, d0, d1, d2, d3, rfl, ⟨a0, a1, a2, a3, rf.sp, rf.ls, rf.fm⟩, ⟨?_, ?_, ?_, ?_, ?_⟩, ?_⟩
    · intro e0 dd H1 sm hd hx
      refine ⟨true, TC.tt, fun _ a ha => ?_, fun z => (nomatch z)⟩
      refine ⟨_, rfl, rfl, rfl, dd, _, v0, rfl, hx, rfl, (by show 2 ≤ sizeLine; decide), fun l hl => q l _ (sm.trans (same_new hl)) ?_⟩
      rw [show rowDue d0 d1 d2 d3 = wD "pattern" d0 by unfold rowDue; rw [e0] <;> rfl]
      exact pair_any hl (a0.keep sm)
    · intro e0 e1 dd H1 sm hd hx
      refine ⟨false, TC.pt, fun z => (nomatch z), fun _ => ⟨true, TC.pp, fun _ a ha => ?_, fun z => (nomatch z)⟩⟩
      refine ⟨_, rfl, rfl, rfl, dd, _, v1, rfl, hx, rfl, (by show 2 ≤ sizeLine; decide), fun l hl => q l _ (sm.trans (same_new hl)) ?_⟩
      rw [show rowDue d0 d1 d2 d3 = wD "prime" d1 by unfold rowDue; rw [e0, e1] <;> rfl]
      exact pair_any hl (a1.keep sm)
    · intro x ex e0 e1 e2 dd H1 sm hd hx
      subst ex
      refine ⟨false, TC.zt, fun z => (nomatch z), fun _ => ⟨false, TC.zp, fun z => (nomatch z), fun _ => ⟨true, TC.zz, fun _ a ha => ?_, fun z => (nomatch z)⟩⟩⟩
      refine ⟨_, rfl, rfl, rfl, dd, _, v2, rfl, hx, rfl, (by show 2 ≤ sizeLine; decide), fun l hl => q l _ (sm.trans (same_new hl)) ?_⟩
      rw [show rowDue (.str x) d1 d2 d3 = wD "sizes" d2 by unfold rowDue; rw [e0, e1, show sizesOk (strD (.str x)).length d2 = false from e2] <;> rfl]
      exact pair_any hl (a2.keep sm)
    · intro x ex e0 e1 e2 e3 dd H1 sm hd hx
      subst ex
      refine ⟨false, TC.at_, fun z => (nomatch z), fun _ => ⟨false, TC.ap, fun z => (nomatch z), fun _ => ⟨false, TC.az, fun z => (nomatch z), fun _ => ⟨true, TC.aa, fun _ a ha => ?_, fun z => (nomatch z)⟩⟩⟩⟩
      refine ⟨_, rfl, rfl, rfl, dd, _, v3, rfl, hx, rfl, (by show 2 ≤ sizeLine; decide), fun l hl => q l _ (sm.trans (same_new hl)) ?_⟩
      rw [show rowDue (.str x) d1 d2 d3 = wD "maps" d3 by unfold rowDue; rw [e0, e1, show sizesOk (strD (.str x)).length d2 = true from e2, show mapsOk (strD (.str x)).length d3 = false from e3] <;> rfl]
      exact pair_any hl (a3.keep sm)
    · intro x i v H0 ex e0 e1 e2 e3 e4 k0 av dd H1 sm hd hx
      subst ex
      refine ⟨false, TC.mt, fun z => (nomatch z), fun _ => ⟨false, TC.mp, fun z => (nomatch z), fun _ => ⟨false, TC.mz, fun z => (nomatch z), fun _ => ⟨false, TC.ma, fun z => (nomatch z), fun _ => ⟨true, TC.mm, fun _ a ha => ?_, fun z => (nomatch z)⟩⟩⟩⟩⟩
      refine ⟨_, rfl, rfl, rfl, dd, _, v, rfl, hx, rfl, (by show 2 ≤ sizeLine; decide), fun l hl => q l _ ((k0.trans sm).trans (same_new hl)) ?_⟩
      rw [show rowDue (.str x) d1 d2 d3 = wD "matrix" (atD d3 i) by unfold rowDue; rw [e0, e1, show sizesOk (strD (.str x)).length d2 = true from e2, show mapsOk (strD (.str x)).length d3 = true from e3, show badAt (strD (.str x)) d2 d3 = some i from e4] <;> rfl]
      exact pair_any hl (av.keep sm)
    · intro x p o H' e0 e1 good ho k ra
      subst e0 e1
      obtain ⟨dx, ts, tm, eo, _, _⟩ := id ra
      obtain ⟨g1, g2, g3, g4, g5⟩ := good_parts good
      refine ⟨o, dx, _, rfl, eo, o, x, p, _, _, rfl, ra, _, rfl, by omega, ?_, ?_⟩
      · have := rf.ls
        omega
      · refine ⟨by show 2 ≤ sizeLine; decide, fun l hl => q l _ (k.trans (same_new hl)) ?_⟩
        rw [show rowDue (.str x) (.int p) d2 d3 = wD "told" (.int ((strD (.str x)).length + 1 : Nat)) by unfold rowDue; rw [g1, g2, show sizesOk (strD (.str x)).length d2 = true from g3, show mapsOk (strD (.str x)).length d3 = true from g4, show badAt (strD (.str x)) d2 d3 = none from g5] <;> rfl]
        have e5 : (itemsD d2).length = x.length + 1 := (sizes_parts g3).2.1
        rw [e5]
        exact .lst upd_same (.cons (.str _) (.cons (.int _) .nil))
theorem okBarsC {f : Addr} {fd : FuncData} (F : Fun K "_law_bars_caught" "_law_bars_caught" sBarsC f fd) (T : Txt K w mg aI aT CP CT CZ CA CM CL kI kT) (TC : TxC K mg CR CP CT CZ CA CM) (GB : Own P w K mg base (L2.CX P w) 5 "bars" ["pattern"] [] (spBars CT)) : FnOk P w K mg base CX0 6 f fd ["_law_arrows"] spBarsC := by
  refine F.ok scBarsC (fun vs H Q E h => ?_) (fun cdv A outer s H vs Q E hr h => ?_)
  · obtain ⟨v, d, rfl, _⟩ := h
    rfl
  · obtain ⟨v, d, rfl, an, sh, q⟩ := h
    refine ⟨_, (pss_one (ps_tries (tb := fun W => tTold (tCB (rLenS K) (tCons (tOwnS (spBars CT) [] W (tCons (tVar 0) tNil)) tNil))) rfl rfl scBarsC.nd takes0
      (fun W pn xe tk pw => (pss_one (ps_ret (pe_lst (pa_cons pe_str (pa_cons (pe_callB call_len_seq (by rfl) T.len (by decide +kernel) (pa_cons (pe_ownS (W := W) GB hr (fun σ => passAt tk σ) (pa_cons (pv 0) pa_nil)) pa_nil)) pa_nil))))))
      (.as (i := 1) rfl rfl ⟨rfl, by decide, .inl T.eT.g⟩ (fun a oe cls d pn hz hf => pss_one (ps_ret (pe_lst (pa_cons pe_str (pa_cons (pe_xf T.eT.xf T.eT.no hz hf (pv 1)) pa_nil))))) .nil))), ?_⟩
    refine ⟨_, rfl, v, d, rfl, an, sh, ?_, ?_⟩
    · intro e0 dd H1 sm hd hx
      refine ⟨true, TC.tt, fun _ a ha => ?_, fun z => (nomatch z)⟩
      refine ⟨_, rfl, rfl, rfl, dd, _, v, rfl, hx, rfl, (by show 2 ≤ sizeLine; decide), fun l hl => q l _ (sm.trans (same_new hl)) ?_⟩
      rw [show barsDue d = wD "pattern" d by unfold barsDue; rw [e0] <;> rfl]
      exact pair_any hl (an.keep sm)
    · intro x ex e0 l acc H' hl k hx al
      subst ex
      refine ⟨l, acc, rfl, .inl (SqL.of hx), by show 2 ≤ sizeLine; decide, fun l2 hl2 => q l2 _ (k.trans (same_new hl2)) ?_⟩
      rw [show barsDue (.str x) = wD "told" (.int ((barsL ((strD (.str x)).length + 1)).length : Nat)) by unfold barsDue; rw [e0] <;> rfl]
      have ln := anyL_len al
      rw [List.length_map] at ln
      rw [ln]
      exact .lst upd_same (.cons (.str _) (.cons (.int _) .nil))
theorem okMatC {f : Addr} {fd : FuncData} (F : Fun K "_law_matrix_caught" "_law_matrix_caught" sMatC f fd) (T : Txt K w mg aI aT CP CT CZ CA CM CL kI kT) (ll : PySem.W.exmOne K (.ref CL) (.ref CL) = some true) (cl : Cls K C) (RM : RowMatAt P w K mg base C CL) : FnOk P w K mg base CX0 6 f fd ["_law_row_here", "_law_k"] (spMatC C) := by
  obtain ⟨fm, fdm, hm, Fm, bm⟩ := RM.has
  refine F.ok scMatC (fun vs H Q E h => ?_) (fun cdv A outer s H vs Q E hr h => ?_)
  · obtain ⟨a, v, d, x, p, ss, mm, rfl, _⟩ := h
    rfl
  · obtain ⟨a, v, d, x, p, ss, mm, rfl, ra, an, lm, q⟩ := h
    obtain ⟨dx, ts, tm, ea, _, _⟩ := id ra
    refine ⟨_, (pss_one (ps_tries rfl rfl scMatC.nd takes0
      (fun W pn xe tk pw => (pss_one (ps_ret (pe_lst (pa_cons pe_str (pa_cons (pe_methS (W := W) (pv 0) cl hm Fm (hr.mono (by decide)) bm .nil (fun σ => passAt tk σ) (pa_cons (pv 1) pa_nil)) pa_nil))))))
      (.as (i := 2) rfl rfl ⟨rfl, by decide, .inl T.eL.g⟩ (fun a oe cls d pn hz hf => pss_one (ps_ret (pe_lst (pa_cons pe_str (pa_cons (pe_xf T.eL.xf T.eL.no hz hf (pv 2)) pa_nil))))) .nil))), ?_⟩
    refine ⟨_, rfl, a, dx, _, rfl, ea, rfl, _, rfl, a, v, d, x, p, ss, mm, rfl, ra, an, lm, ?_, ?_⟩
    · intro e0 H0 k0 dd H1 sm hd hx
      refine ⟨true, ll, fun _ a ha => ?_, fun z => (nomatch z)⟩
      refine ⟨_, rfl, rfl, rfl, dd, _, v, rfl, hx, rfl, (by show 2 ≤ sizeLine; decide), fun l hl => q l _ ((k0.trans sm).trans (same_new hl)) ?_⟩
      rw [e0]
      exact pair_any hl (an.keep (k0.trans sm))
    · intro i ei hi l ys H' hl k hx al
      subst ei
      refine ⟨by show 2 ≤ sizeLine; decide, fun l2 hl2 => q l2 _ (k.trans (same_new hl2)) ?_⟩
      have e0 : inB (.int (i : Nat)) (.int 0) (.int ((mm.length : Nat) - 1 : Int)) = true := by
        show (decide ((0 : Int) ≤ (i : Nat)) && decide (((i : Nat) : Int) ≤ (mm.length : Nat) - 1)) = true
        rw [Bool.and_eq_true]
        exact ⟨decide_eq_true (by omega), decide_eq_true (by omega)⟩
      rw [e0, if_pos rfl]
      exact .lst upd_same (.cons (.str _) (.cons (.lst (same_new hl2 _ _ hx) (anyL_keep (same_del.trans (same_new hl2)) al)) .nil))
theorem okRowL {f : Addr} {fd : FuncData} (F : Fun K "_law_row" "_law_row" sRowL f fd) (R : RowsAt P w K mg base C CT CP CZ CA CM) : FnOk P w K mg base (L2.CX P w) 8 f fd ["_law_draft_here"] (spRowL C) := by
  refine F.okX scRowL (fun vs H Q E h => ?_) (fun cdv A outer s H vs Q E hr h => ?_)
  · obtain ⟨v, x, q, most, ss, ms, rfl, _⟩ := h
    rfl
  · obtain ⟨v, x, q, most, ss, ms, rfl, an, dr, px, hq, m6, k0⟩ := h
    obtain ⟨a, v0, v1, v2, v3, rfl, ea, a0, a1, a2, a3⟩ := any_list4 an
    refine ⟨_, (pss_one (ps_ret (pe_rowN (E := E) R (hr.mono (by decide)) (passes_call (takes_of rfl rfl rfl rfl) (fun _ _ _ _ z => z)) (pa_cons (pe_ix ix_list (pv 0) pe_int (fun _ _ => rfl)) (pa_cons (pe_ix ix_list (pv 0) pe_int (fun _ _ => rfl)) (pa_cons (pe_ix ix_list (pv 0) pe_int (fun _ _ => rfl)) (pa_cons (pe_ix ix_list (pv 0) pe_int (fun _ _ => rfl)) pa_nil))))))), ?_⟩
    refine ⟨_, rfl, a, _, 0, _, rfl, rfl, SqL.of ea, atI_nat (j := 0) rfl, ?_⟩
    refine ⟨_, rfl, a, _, 1, _, rfl, rfl, SqL.of ea, atI_nat (j := 1) rfl, ?_⟩
    refine ⟨_, rfl, a, _, 2, _, rfl, rfl, SqL.of ea, atI_nat (j := 2) rfl, ?_⟩
    refine ⟨_, rfl, a, _, 3, _, rfl, rfl, SqL.of ea, atI_nat (j := 3) rfl, ?_⟩
    have good := draft_good dr px hq m6
    refine ⟨v0, v1, v2, v3, _, _, _, _, rfl, ⟨a0, a1, a2, a3, pat_short px (by decide), ?_, draft_fitM dr px hq m6⟩, good_err good, ?_⟩
    · show (ss.map natD).length ≤ 1000
      rw [List.length_map, dr.sl]
      have := px.l
      omega
    · intro y p o H' e0 e1 g ho k ra
      cases e0
      cases e1
      rw [draft_rows dr] at ra
      exact k0 o H' ho k ra
theorem okBarsL {f : Addr} {fd : FuncData} (F : Fun K "_law_bars" "_law_bars" sBarsL f fd) (T : Txt K w mg aI aT CP CT CZ CA CM CL kI kT) : FnOk P w K mg base CX0 1 f fd ["_law_arrows"] spBarsN := by
  refine F.ok scBarsL (fun vs H Q E h => ?_) (fun cdv A outer s H vs Q E hr h => ?_)
  · obtain ⟨x, rfl, _⟩ := h
    rfl
  · obtain ⟨x, rfl, lx, q⟩ := h
    have lz : x.length ≤ sizeLine := Nat.le_trans lx (by decide)
    refine ⟨_, (pss_cons (ps_set (i := 1) scBarsL.nd rfl (Or.inl rfl) (pe_lst pa_nil))
      (pss_cons (ps_for PassesOwn.never rfl (pi_range1 rfl T.range (pa_cons (pe_op op_add (pe_callB call_len_str (by rfl) T.len (by decide +kernel) (pa_cons (pv 0) pa_nil)) pe_int) pa_nil)) (pg_name (i := 2) scBarsL.nd rfl (Or.inr rfl)) (pss_one (ps_set (i := 1) scBarsL.nd rfl (Or.inl rfl) (pe_op op_cat (pv 1) (pe_lc (own := [("_law_b", 3)]) (g := gName 3) (tt := tYes) rfl scBarsL.nd (pi_range2 rfl T.range (pa_cons (pv 2) (pa_cons (pe_op op_add (pe_callB call_len_str (by rfl) T.len (by decide +kernel) (pa_cons (pv 0) pa_nil)) pe_int) pa_nil))) (blkOk_by (N := NBarsL) (sc := defScope sBarsL) (by decide +kernel)) (fun _ _ _ _ _ => (pg_name (i := 3) scBarsL.nd rfl (Or.inl rfl))) (fun _ _ _ _ _ => pts_nil) (fun _ _ _ _ _ => (pe_tup (pa_cons (pv 2) (pa_cons (pv 3) pa_nil)))))))))
      (pss_one (ps_ret (pv 1))))), ?_⟩
    refine ⟨by show 0 ≤ sizeLine; decide, fun F0 hF0 => ?_⟩
    refine ⟨_, rfl, x, rfl, lz, _, _, rfl, rfl, _, rfl, by omega, by omega, ?_⟩
    have en : ((x.length : Int) + 1).toNat = x.length + 1 := by omega
    rw [en]
    generalize hN : x.length + 1 = n
    refine for_range (lo := 0) (n := n) (fun i σ' H' => ∃ Fa acc y2, σ' = [some (.str x), some (.ref Fa), y2, none] ∧ Same H H' ∧ H Fa = none ∧ H' Fa = some (.lst acc) ∧ AnyL H' acc ((preL n i).map barD)) ⟨F0, [], _, rfl, same_new hF0, hF0, upd_same, .nil⟩ ?_ ?_
    · rintro i σ' H1 hi ⟨Fa, acc, y2, rfl, k1, hF, ha, al⟩
      have ei : (0 + (i : Int)) = (i : Int) := by omega
      rw [ei]
      refine ⟨_, rfl, _, rfl, _, rfl, x, rfl, lz, _, _, rfl, rfl, (i : Int), _, rfl, ⟨by omega, by omega, by omega, by omega⟩, fun D hD => ?_⟩
      have em : (((x.length : Int) + 1) - (i : Int)).toNat = n - i := by omega
      rw [em]
      refine lc_tup (n := n - i) walk_range (by omega) hD (fun _ _ => trivial) (fun j => barD (i, i + j)) (fun _ _ => rfl) ?_ ?_
      · rintro j y H2 hj rfl s2 _
        refine ⟨rfl, fun k hk => ?_⟩
        refine ⟨_, rfl, _, rfl, (by show 2 ≤ sizeLine; decide), fun t ht => hk _ _ (same_new ht) (.tup upd_same ?_)⟩
        have e1 : ((i : Int) + (j : Int)) = ((i + j : Nat) : Int) := by omega
        show AnyL _ [V.int (i : Int), V.int ((i : Int) + (j : Int))] _
        rw [e1]
        exact .cons (.int _) (.cons (.int _) .nil)
      · intro H2 ac2 s2 ha2 al2
        have ln1 := anyL_len al
        have ln2 := anyL_len al2
        rw [List.length_map] at ln1
        rw [List.length_map, List.length_range] at ln2
        have h1 := pre_len n i
        have h3 : i * n ≤ 7 * 7 := Nat.mul_le_mul (by omega) (by omega)
        refine ⟨Fa, D, acc, ac2, rfl, rfl, s2 _ _ ha, ha2, Nat.le_trans (by omega : acc.length + ac2.length ≤ 100) (by decide), fun pN hp => ?_⟩
        have k9 := (k1.trans s2).trans (same_new (o := .lst (acc ++ ac2)) hp)
        refine ⟨pN, _, _, rfl, k9, (k1.trans s2).free hp, upd_same, ?_⟩
        have e2 : (preL n (i + 1)).map barD = (preL n i).map barD ++ (List.range (n - i)).map fun j => barD (i, i + j) := by
          rw [pre_succ, List.map_append, part_rng, List.map_map] <;> rfl
        rw [e2]
        exact anyL_app (anyL_keep (s2.trans (same_new hp)) al) (anyL_keep (same_del.trans (same_new hp)) al2)
    · rintro σ' H1 ⟨Fa, acc, y2, rfl, k1, hF, ha, al⟩
      refine ⟨_, rfl, q Fa acc H1 hF k1 ha ?_⟩
      rw [hN]
      exact al
end
end K11

set_option Elab.async false
set_option linter.all false
set_option maxRecDepth 100000
set_option maxHeartbeats 4000000
/-! TkO: sheets under way. -/
namespace Rw
open PySem PySem.Spec PyProof.Rows L2
/-- the rows of a new sheet: new lists of small ints, each another -/
structure RowsOk (H0 H : Hp) (A : Addr) (xs : List V) (rs : List (List Int)) : Prop where
  len : xs.length = rs.length
  row : ∀ (i : Nat) (r : List Int), rs[i]? = some r → ∃ b : Addr, xs[i]? = some (.ref b) ∧ H b = some (.lst (r.map V.int)) ∧ H0 b = none ∧ b ≠ A
  inj : ∀ (i j : Nat) (b : Addr), xs[i]? = some (.ref b) → xs[j]? = some (.ref b) → i = j
  wide : ∀ r, r ∈ rs → r.length ≤ 4 ∧ ∀ n, n ∈ r → n.natAbs ≤ 100
/-- a new list at A with new rows of any kind -/
structure Gen (H Hn : Hp) (p A : Addr) (c : Nat) : Prop where
  g : Grow p H Hn
  bx : Bx Hn p c
  new : H A = none
  ex : ∃ xs ds, Hn A = some (.lst xs) ∧ AnyL (del (nw H Hn) A) xs ds ∧ ds.length ≤ 5 ∧ ∀ d, d ∈ ds → RowT d
structure Shp (H Hn : Hp) (p A : Addr) (c hi wi : Nat) : Prop where
  g : Grow p H Hn
  bx : Bx Hn p c
  new : H A = none
  ex : ∃ xs rs, Hn A = some (.lst xs) ∧ RowsOk H Hn A xs rs ∧ rs.length = hi ∧ hi ≤ 4 ∧ ∀ r, r ∈ rs → r.length = wi
theorem anyL_all {H : Hp} : ∀ {xs : List V} {ds : List PyData}, xs.length = ds.length → (∀ (i : Nat) (x : V) (d : PyData), xs[i]? = some x → ds[i]? = some d → Any H x d) → AnyL H xs ds
  | [], [], _, _ => .nil
  | x :: xs, d :: ds, l, h => .cons (h 0 x d rfl rfl) (anyL_all (by simpa using l) fun i x d e1 e2 => h (i + 1) x d (by simpa using e1) (by simpa using e2))
theorem nw_at {H Hn : Hp} {b : Addr} {o : HO} (h0 : H b = none) (h : Hn b = some o) : nw H Hn b = some o := by
  show (if H b = none then Hn b else none) = _
  rw [if_pos h0]
  exact h
theorem ints_row {H : Hp} {b : Addr} {r : List Int} (h : H b = some (.lst (r.map V.int))) : Any H (.ref b) (.list (r.map .int)) := .lst h (ints_anyL r)
theorem row_ints {r : List Int} (h : r.length ≤ 4 ∧ ∀ n, n ∈ r → n.natAbs ≤ 100) : RowT (.list (r.map .int)) := row_list (by rw [List.length_map]; omega) (by
  intro d hd
  obtain ⟨n, hn, rfl⟩ := List.mem_map.mp hd
  exact cell_int (Nat.lt_of_le_of_lt (h.2 n hn) (by decide)))
theorem Shp.gen {H Hn : Hp} {p A : Addr} {c hi wi : Nat} (s : Shp H Hn p A c hi wi) : Gen H Hn p A c := by
  obtain ⟨xs, rs, ha, ok, l1, l2, l3⟩ := s.ex
  refine ⟨s.g, s.bx, s.new, xs, rs.map (fun r => .list (r.map .int)), ha, ?_, by rw [List.length_map]; omega, ?_⟩
  · refine anyL_all (by rw [List.length_map]; exact ok.len) fun i x d e1 e2 => ?_
    rw [List.getElem?_map] at e2
    cases e3 : rs[i]? with
    | none => rw [e3] at e2; cases e2
    | some r =>
      rw [e3] at e2
      cases e2
      obtain ⟨b, h1, h2, h3, h4⟩ := ok.row i r e3
      rw [e1] at h1
      cases h1
      refine ints_row ?_
      rw [del_ne h4]
      exact nw_at h3 h2
  · intro d hd
    obtain ⟨r, hr, rfl⟩ := List.mem_map.mp hd
    exact row_ints (ok.wide r hr)
theorem Gen.more {H Hn : Hp} {p A : Addr} {c e : Nat} (s : Gen H Hn p A c) (l : c ≤ e) : Gen H Hn p A e := ⟨s.g, s.bx.more l, s.new, s.ex⟩
theorem Gen.pA {H Hn : Hp} {p A : Addr} {c n : Nat} (s : Gen H Hn p A c) (b : Bx H p n) : p ≠ A := b.ne s.new
/-- only the box has turned, and new things have come -/
theorem Gen.grow {H Hn H2 : Hp} {p A : Addr} {c e n : Nat} (s : Gen H Hn p A c) (b0 : Bx H p n) (k : Grow p Hn H2) (b : Bx H2 p e) : Gen H H2 p A e := by
  obtain ⟨xs, ds, ha, al, l, r⟩ := s.ex
  obtain ⟨_, _, _, hp, _⟩ := id b0
  refine ⟨s.g.trans k, b, s.new, xs, ds, k _ _ (b0.ne s.new).symm ha, anyL_keep ?_ al, l, r⟩
  exact Grow.del (Grow.of (nw_grow hp k))
theorem Shp.grow {H Hn H2 : Hp} {p A : Addr} {c e n hi wi : Nat} (s : Shp H Hn p A c hi wi) (b0 : Bx H p n) (k : Grow p Hn H2) (b : Bx H2 p e) : Shp H H2 p A e hi wi := by
  obtain ⟨xs, rs, ha, ok, l1, l2, l3⟩ := s.ex
  refine ⟨s.g.trans k, b, s.new, xs, rs, k _ _ (b0.ne s.new).symm ha, ⟨ok.len, fun i r e => ?_, ok.inj, ok.wide⟩, l1, l2, l3⟩
  obtain ⟨q, h1, h2, h3, h4⟩ := ok.row i r e
  exact ⟨q, h1, k _ _ (b0.ne h3).symm h2, h3, h4⟩
/-- new in the later is new in the whole -/
theorem nw_from {H Hn H2 : Hp} {p : Addr} {n : Nat} (b0 : Bx Hn p n) (g : Grow p H Hn) : Same (nw Hn H2) (nw H H2) := fun b o e => by
  have e' : (if Hn b = none then H2 b else none) = some o := e
  by_cases z : Hn b = none
  · rw [if_pos z] at e'
    refine nw_at ?_ e'
    cases y : H b with
    | none => rfl
    | some u =>
      by_cases w : b = p
      · obtain ⟨_, _, _, hp, _⟩ := b0
        rw [w, hp] at z
        cases z
      · rw [g _ _ w y] at z
        cases z
  · rw [if_neg z] at e'
    cases e'
theorem anyL_set {H : Hp} : ∀ {xs : List V} {ds : List PyData} {j : Nat} {v : V} {d : PyData}, AnyL H xs ds → Any H v d → AnyL H (xs.set j v) (ds.set j d)
  | _, _, _, _, _, .nil, _ => .nil
  | _, _, 0, _, _, .cons _ r, a => .cons a r
  | _, _, j + 1, _, _, .cons b r, a => .cons b (anyL_set r a)
theorem mem_set {α : Type} {ds : List α} {j : Nat} {d e : α} (h : e ∈ ds.set j d) : e = d ∨ e ∈ ds := by
  rcases List.mem_or_eq_of_mem_set h with z | z
  · exact .inr z
  · exact .inl z
/-- an item of the list at A is set to a thing that is new since -/
theorem Gen.put {H Hn H2 : Hp} {p A : Addr} {c e n : Nat} (s : Gen H Hn p A c) (b0 : Bx H p n) (k : Grow p Hn H2) (b : Bx H2 p e) {v : V} {d : PyData} (a : Any (nw Hn H2) v d) (r : RowT d) :
    ∃ xs, H2 A = some (.lst xs) ∧ ∀ j, Gen H (upd H2 A (.lst (xs.set j v))) p A e := by
  obtain ⟨xs, ds, ha, al, l, rr⟩ := s.ex
  have pA := b0.ne s.new
  refine ⟨xs, k _ _ pA.symm ha, fun j => ?_⟩
  have new := s.new
  obtain ⟨x1, x2, x3, hp, _⟩ := id b0
  have s2 : Same (del (nw H Hn) A) (del (nw H (upd H2 A (.lst (xs.set j v)))) A) := fun q o eo => by
    by_cases y : q = A
    · rw [y, del_same] at eo
      cases eo
    · rw [del_ne y] at eo ⊢
      have e2 := nw_grow hp k _ _ eo
      have e3 : H q = none := by
        cases w : H q with
        | none => rfl
        | some u =>
          have e4 : (if H q = none then Hn q else none) = some o := eo
          rw [if_neg (by rw [w]; exact fun z => by cases z)] at e4
          cases e4
      refine nw_at e3 ?_
      rw [upd_ne y]
      have e5 : (if H q = none then H2 q else none) = some o := e2
      rw [if_pos e3] at e5
      exact e5
  have s3 : Same (nw Hn H2) (del (nw H (upd H2 A (.lst (xs.set j v)))) A) := fun q o eo => by
    have y : q ≠ A := fun y => by
      have e4 : (if Hn q = none then H2 q else none) = some o := eo
      rw [if_neg (by rw [y, ha]; exact fun z => by cases z)] at e4
      cases e4
    have e1 := nw_from s.bx s.g _ _ eo
    rw [del_ne y]
    have e3 : H q = none := by
      cases w : H q with
      | none => rfl
      | some u =>
        have e4 : (if H q = none then H2 q else none) = some o := e1
        rw [if_neg (by rw [w]; exact fun z => by cases z)] at e4
        cases e4
    refine nw_at e3 ?_
    rw [upd_ne y]
    have e5 : (if H q = none then H2 q else none) = some o := e1
    rw [if_pos e3] at e5
    exact e5
  refine ⟨?_, ?_, new, xs.set j v, ds.set j d, upd_same, anyL_set (anyL_keep s2 al) (a.keep s3), by rw [List.length_set]; exact l, fun d' hd => ?_⟩
  · intro q o ne eo
    rw [upd_ne (ne_of_none eo new)]
    exact (s.g.trans k) q o ne eo
  · obtain ⟨a1, a2, a3, h1, rest⟩ := b
    exact ⟨a1, a2, a3, by rw [upd_ne pA]; exact h1, rest⟩
  · rcases mem_set hd with z | z
    · rw [z]; exact r
    · exact rr d' z
/-- a new row behind the others -/
theorem Gen.snoc {H Hn H2 : Hp} {p A : Addr} {c e n : Nat} (s : Gen H Hn p A c) (b0 : Bx H p n) (k : Grow p Hn H2) (b : Bx H2 p e) {q : Addr} {r : List Int} (hq : Hn q = none) (h2 : H2 q = some (.lst (r.map V.int))) (rr : RowT (.list (r.map .int))) (few : ∀ xs, H2 A = some (.lst xs) → xs.length ≤ 4) :
    ∃ xs, H2 A = some (.lst xs) ∧ Gen H (upd H2 A (.lst (xs ++ [.ref q]))) p A e := by
  obtain ⟨xs, ds, ha, al, l, r0⟩ := s.ex
  have pA := b0.ne s.new
  have ha2 := k _ _ pA.symm ha
  have l4 := few xs ha2
  have ln := anyL_len al
  obtain ⟨x1, x2, x3, hp, _⟩ := id b0
  have new := s.new
  have q0 : H q = none := by
    cases y : H q with
    | none => rfl
    | some u =>
      obtain ⟨y1, y2, y3, hp2, _⟩ := s.bx
      by_cases w : q = p
      · rw [w, hp2] at hq
        cases hq
      · rw [s.g _ _ w y] at hq
        cases hq
  have qA : q ≠ A := fun y => by rw [y, ha] at hq; cases hq
  have s2 : Same (del (nw H Hn) A) (del (nw H (upd H2 A (.lst (xs ++ [.ref q])))) A) := fun z o eo => by
    by_cases y : z = A
    · rw [y, del_same] at eo
      cases eo
    · rw [del_ne y] at eo ⊢
      have e3 : H z = none := by
        cases w : H z with
        | none => rfl
        | some u =>
          have e4 : (if H z = none then Hn z else none) = some o := eo
          rw [if_neg (by rw [w]; exact fun z => by cases z)] at e4
          cases e4
      have e2 := nw_grow hp k _ _ eo
      refine nw_at e3 ?_
      rw [upd_ne y]
      have e5 : (if H z = none then H2 z else none) = some o := e2
      rw [if_pos e3] at e5
      exact e5
  refine ⟨xs, ha2, ?_, ?_, new, xs ++ [.ref q], ds ++ [.list (r.map .int)], upd_same, anyL_snoc (anyL_keep s2 al) (ints_row ?_), by rw [List.length_append, List.length_singleton]; omega, fun d hd => ?_⟩
  · intro z o ne eo
    rw [upd_ne (ne_of_none eo new)]
    exact (s.g.trans k) z o ne eo
  · obtain ⟨a1, a2, a3, h1, rest⟩ := b
    exact ⟨a1, a2, a3, by rw [upd_ne pA]; exact h1, rest⟩
  · rw [del_ne qA]
    refine nw_at q0 ?_
    rw [upd_ne qA]
    exact h2
  · rcases List.mem_append.mp hd with z | z
    · exact r0 d z
    · rw [List.mem_singleton.mp z]
      exact rr
/-- an item of a row is set to a thing that is new since -/
theorem Shp.cell {H Hn H2 : Hp} {p A : Addr} {c e n hi wi : Nat} (s : Shp H Hn p A c hi wi) (b0 : Bx H p n) (k : Grow p Hn H2) (b : Bx H2 p e) {v : V} {d : PyData} (a : Any (nw Hn H2) v d) (cd : Cell d) {i : Nat} (hi2 : i < hi) :
    ∃ (xs : List V) (q : Addr) (r : List Int), H2 A = some (.lst xs) ∧ xs[i]? = some (.ref q) ∧ H2 q = some (.lst (r.map V.int)) ∧ r.length = wi ∧ ∀ j, Gen H (upd H2 q (.lst ((r.map V.int).set j v))) p A e := by
  obtain ⟨xs, rs, ha, ok, l1, l2, l3⟩ := s.ex
  have hlt : i < rs.length := by omega
  obtain ⟨q, h1, h2, h3, h4⟩ := ok.row i rs[i] (List.getElem?_eq_getElem hlt)
  have hm : rs[i] ∈ rs := List.getElem_mem hlt
  have pA := b0.ne s.new
  have pq := b0.ne h3
  have new := s.new
  obtain ⟨x1, x2, x3, hp, _⟩ := id b0
  have ha2 := k _ _ pA.symm ha
  refine ⟨xs, q, rs[i], ha2, h1, k _ _ pq.symm h2, l3 _ hm, fun j => ?_⟩
  have s3 : Same (nw Hn H2) (del (nw H (upd H2 q (.lst ((rs[i].map V.int).set j v)))) A) := fun z o eo => by
    have off : ∀ {w : Addr} {u : HO}, Hn w = some u → z ≠ w := fun e y => by
      have e4 : (if Hn z = none then H2 z else none) = some o := eo
      rw [if_neg (by rw [y, e]; exact fun z => by cases z)] at e4
      cases e4
    have e1 := nw_from s.bx s.g _ _ eo
    rw [del_ne (off ha)]
    have e3 : H z = none := by
      cases w : H z with
      | none => rfl
      | some u =>
        have e4 : (if H z = none then H2 z else none) = some o := e1
        rw [if_neg (by rw [w]; exact fun z => by cases z)] at e4
        cases e4
    refine nw_at e3 ?_
    rw [upd_ne (off h2)]
    have e5 : (if H z = none then H2 z else none) = some o := e1
    rw [if_pos e3] at e5
    exact e5
  have inner : AnyL (del (nw H (upd H2 q (.lst ((rs[i].map V.int).set j v)))) A) ((rs[i].map V.int).set j v) ((rs[i].map PyData.int).set j d) := anyL_set (ints_anyL _) (a.keep s3)
  refine ⟨?_, ?_, new, xs, (rs.map (fun r => PyData.list (r.map .int))).set i (.list ((rs[i].map PyData.int).set j d)), ?_, ?_, by rw [List.length_set, List.length_map]; omega, fun e' he => ?_⟩
  · intro z o ne eo
    rw [upd_ne (ne_of_none eo h3)]
    exact (s.g.trans k) z o ne eo
  · obtain ⟨a1, a2, a3, h1, rest⟩ := b
    exact ⟨a1, a2, a3, by rw [upd_ne pq]; exact h1, rest⟩
  · rw [upd_ne h4.symm]
    exact ha2
  · refine anyL_all (by rw [List.length_set, List.length_map]; exact ok.len) fun t x dd e1 e2 => ?_
    by_cases y : t = i
    · subst y
      rw [h1] at e1
      cases e1
      rw [List.getElem?_set_self (by rw [List.length_map]; exact hlt)] at e2
      cases e2
      refine .lst ?_ inner
      rw [del_ne h4]
      refine nw_at h3 ?_
      exact upd_same
    · rw [List.getElem?_set_ne (fun z => y z.symm), List.getElem?_map] at e2
      cases e3 : rs[t]? with
      | none => rw [e3] at e2; cases e2
      | some r =>
        rw [e3] at e2
        cases e2
        obtain ⟨w, g1, g2, g3, g4⟩ := ok.row t r e3
        rw [e1] at g1
        cases g1
        refine ints_row ?_
        rw [del_ne g4]
        refine nw_at g3 ?_
        have wq : w ≠ q := fun z => y (ok.inj t i w e1 (by rw [z]; exact h1))
        rw [upd_ne wq]
        exact k _ _ (b0.ne g3).symm g2
  · rcases mem_set he with z | z
    · rw [z]
      have wide := ok.wide _ hm
      refine row_list (by rw [List.length_set, List.length_map]; omega) fun x hx => ?_
      rcases mem_set hx with y | y
      · rw [y]; exact cd
      · obtain ⟨n, hn, rfl⟩ := List.mem_map.mp y
        exact cell_int (Nat.lt_of_le_of_lt (wide.2 n hn) (by decide))
    · obtain ⟨r, hr, rfl⟩ := List.mem_map.mp z
      exact row_ints (ok.wide r hr)
theorem anyL_drop {H : Hp} : ∀ {xs : List V} {ds : List PyData} (j : Nat), AnyL H xs ds → AnyL H (xs.drop j) (ds.drop j)
  | _, _, 0, h => h
  | _, _, _ + 1, .nil => .nil
  | _, _, j + 1, .cons _ r => anyL_drop j r
theorem anyL_take {H : Hp} : ∀ {xs : List V} {ds : List PyData} (j : Nat), AnyL H xs ds → AnyL H (xs.take j) (ds.take j)
  | _, _, 0, _ => .nil
  | _, _, _ + 1, .nil => .nil
  | _, _, j + 1, .cons a r => .cons a (anyL_take j r)
/-- one row more -/
theorem Shp.snoc {H Hn H2 : Hp} {p A : Addr} {c e n i wi : Nat} (s : Shp H Hn p A c i wi) (b0 : Bx H p n) (k : Grow p Hn H2) (b : Bx H2 p e) {q : Addr} {r : List Int} (hq : Hn q = none) (h2 : H2 q = some (.lst (r.map V.int))) (rl : r.length = wi) (w4 : wi ≤ 4) (sm : ∀ n, n ∈ r → n.natAbs ≤ 100) (l4 : i + 1 ≤ 4) :
    ∃ xs, H2 A = some (.lst xs) ∧ xs.length = i ∧ Shp H (upd H2 A (.lst (xs ++ [.ref q]))) p A e (i + 1) wi := by
  obtain ⟨xs, rs, ha, ok, l1, l2, l3⟩ := s.ex
  have pA := b0.ne s.new
  have ha2 := k _ _ pA.symm ha
  have new := s.new
  have qA : q ≠ A := fun y => by rw [y, ha] at hq; cases hq
  have q0 : H q = none := by
    cases y : H q with
    | none => rfl
    | some u =>
      obtain ⟨y1, y2, y3, hp2, _⟩ := s.bx
      by_cases w : q = p
      · rw [w, hp2] at hq
        cases hq
      · rw [s.g _ _ w y] at hq
        cases hq
  have ln := ok.len
  have in_old : ∀ (t : Nat) (z : Addr), (xs ++ [V.ref q])[t]? = some (.ref z) → (xs[t]? = some (.ref z) ∧ z ≠ q) ∨ (t = xs.length ∧ z = q) := by
    intro t z e1
    by_cases y : t < xs.length
    · rw [List.getElem?_append_left y] at e1
      refine .inl ⟨e1, fun zq => ?_⟩
      have y2 : t < rs.length := by omega
      obtain ⟨w, g1, g2, g3, g4⟩ := ok.row t rs[t] (List.getElem?_eq_getElem y2)
      rw [e1] at g1
      cases g1
      rw [zq, hq] at g2
      cases g2
    · rw [List.getElem?_append_right (by omega)] at e1
      have e3 : t - xs.length = 0 := by
        cases y3 : t - xs.length with
        | zero => rfl
        | succ m => rw [y3] at e1; simp at e1
      rw [e3] at e1
      refine .inr ⟨by omega, ?_⟩
      have e4 : V.ref q = V.ref z := Option.some.inj e1
      injection e4 with e5
      exact e5.symm
  refine ⟨xs, ha2, by omega, ?_, ?_, new, xs ++ [.ref q], rs ++ [r], upd_same, ⟨by rw [List.length_append, List.length_append, ln] <;> rfl, ?_, ?_, ?_⟩, by rw [List.length_append, l1] <;> rfl, l4, ?_⟩
  · intro z o ne eo
    rw [upd_ne (ne_of_none eo new)]
    exact (s.g.trans k) z o ne eo
  · obtain ⟨a1, a2, a3, h1, rest⟩ := b
    exact ⟨a1, a2, a3, by rw [upd_ne pA]; exact h1, rest⟩
  · intro t r' e1
    by_cases y : t < rs.length
    · rw [List.getElem?_append_left y] at e1
      obtain ⟨w, g1, g2, g3, g4⟩ := ok.row t r' e1
      refine ⟨w, by rw [List.getElem?_append_left (by omega)]; exact g1, ?_, g3, g4⟩
      rw [upd_ne g4]
      exact k _ _ (b0.ne g3).symm g2
    · rw [List.getElem?_append_right (by omega)] at e1
      have e3 : t - rs.length = 0 := by
        cases y3 : t - rs.length with
        | zero => rfl
        | succ m => rw [y3] at e1; simp at e1
      rw [e3] at e1
      have e4 : r = r' := Option.some.inj e1
      subst e4
      have e5 : t = xs.length := by omega
      refine ⟨q, by rw [e5, List.getElem?_append_right (Nat.le_refl _), Nat.sub_self] <;> rfl, ?_, q0, qA⟩
      rw [upd_ne qA]
      exact h2
  · intro t t' z e1 e2
    rcases in_old t z e1 with ⟨a1, a2⟩ | ⟨a1, a2⟩
    · rcases in_old t' z e2 with ⟨b1, b2⟩ | ⟨b1, b2⟩
      · exact ok.inj t t' z a1 b1
      · exact absurd b2 a2
    · rcases in_old t' z e2 with ⟨b1, b2⟩ | ⟨b1, b2⟩
      · exact absurd a2 b2
      · omega
  · intro r' hr
    rcases List.mem_append.mp hr with z | z
    · exact ok.wide r' z
    · rw [List.mem_singleton.mp z]
      exact ⟨by omega, sm⟩
  · intro r' hr
    rcases List.mem_append.mp hr with z | z
    · exact l3 r' z
    · rw [List.mem_singleton.mp z]
      exact rl
end Rw

set_option Elab.async false
set_option linter.all false
set_option maxRecDepth 100000
set_option maxHeartbeats 4000000
/-! TkK: sheets that are bent; things to make rows of. -/
namespace Rw
open PySem PySem.Spec PyProof.Rows L2
theorem ixn {n j : Nat} (hj : j < n) : ixN n (j : Int) = some j := by
  unfold ixN
  rw [if_pos (by omega), if_pos (by omega)]
  simp
theorem fresh_of {H H1 : Hp} {p q : Addr} {c : Nat} (g : Grow p H H1) (bx : Bx H1 p c) (hq : H1 q = none) : H q = none := by
  cases y : H q with
  | none => rfl
  | some u =>
    obtain ⟨y1, y2, y3, hp2, _⟩ := bx
    by_cases w : q = p
    · rw [w, hp2] at hq
      cases hq
    · rw [g _ _ w y] at hq
      cases hq
def spBentS : Sp := fun vs H Q _ => ∃ (p : Addr) (v : V) (n h w : Nat) (q : Int) (m : List (List Int)), vs = [.ref p, v] ∧ Any (del H p) v (sheetD m) ∧ MatOk q h w m ∧ q ∈ primesL ∧ h ≤ 4 ∧ w ≤ 4 ∧ Bx H p n ∧ n ≤ 900000 ∧ ∀ v d H', SheetT d → Any (nw H H') v d → Grow p H H' → Bx H' p (n + 100) → Q v H'
end Rw
namespace Rw
open PySem PySem.Spec PyProof.Rows L2
/-! ### things to make rows of -/
def off (p F : Addr) (H : Hp) : Hp := del (del H p) F
theorem off_same {p F : Addr} {H H' : Hp} (k : ∀ b o, b ≠ p → b ≠ F → H b = some o → H' b = some o) : Same (off p F H) (off p F H') := fun b o e => by
  unfold off at e ⊢
  by_cases y1 : b = F
  · rw [y1, del_same] at e; cases e
  · rw [del_ne y1] at e ⊢
    by_cases y2 : b = p
    · rw [y2, del_same] at e; cases e
    · rw [del_ne y2] at e ⊢
      exact k b o y2 y1 e
theorem off_sub {p F : Addr} {H : Hp} : Same (off p F H) H := same_del.trans same_del
theorem off_subp {p F : Addr} {H : Hp} : Same (off p F H) (del H p) := same_del
theorem nw_off {p F : Addr} {H H' : Hp} (hp : H p ≠ none) (hF : H F ≠ none) : Same (nw H H') (off p F H') := fun b o e => by
  have e2 : (if H b = none then H' b else none) = some o := e
  split at e2
  · rename_i h
    unfold off
    rw [del_ne (fun z => hF (by rw [← z]; exact h)), del_ne (fun z => hp (by rw [← z]; exact h))]
    exact e2
  · cases e2
structure StrT (d : PyData) : Prop where
  tm : Tq 0 d
  sh : Short d
structure SizT (k : Nat) (d : PyData) : Prop where
  tm : Tq 1 d
  l : (itemsD d).length ≤ k
  c : ∀ e, e ∈ itemsD d → Cell e
structure MapT (k : Nat) (d : PyData) : Prop where
  tm : Tq 3 d
  l : (itemsD d).length ≤ k
  c : ∀ e, e ∈ itemsD d → SheetT e
theorem SizT.up {k m : Nat} {d : PyData} (s : SizT k d) (h : k ≤ m) : SizT m d := ⟨s.tm, Nat.le_trans s.l h, s.c⟩
theorem MapT.up {k m : Nat} {d : PyData} (s : MapT k d) (h : k ≤ m) : MapT m d := ⟨s.tm, Nat.le_trans s.l h, s.c⟩
theorem siz_list {k : Nat} {ds : List PyData} (h : k ≤ 12) (l : ds.length ≤ k) (c : ∀ e, e ∈ ds → Cell e) : SizT k (.list ds) := ⟨tq_list (by omega) fun d hd => (c d hd).tm.q, l, c⟩
theorem map_list {k : Nat} {ds : List PyData} (h : k ≤ 12) (l : ds.length ≤ k) (c : ∀ e, e ∈ ds → SheetT e) : MapT k (.list ds) := ⟨tq_list (by omega) fun d hd => (c d hd).tm.q, l, c⟩
theorem odd_one : ∀ d ∈ oddL, (itemsD d).length ≤ 1 := by
  intro d hd
  unfold oddL at hd
  simp only [List.mem_cons, List.not_mem_nil, or_false] at hd
  rcases hd with z | z | z | z | z | z | z | z | z | z | z | z | z | z | z | z <;> subst z <;> simp [itemsD]
theorem odd_str {d : PyData} (h : d ∈ oddL) : StrT d := ⟨(odd_cell d h).tm.q, odd_short d h⟩
theorem odd_siz {d : PyData} (h : d ∈ oddL) {k : Nat} (hk : 1 ≤ k) : SizT k d := ⟨(odd_cell d h).tm.q.up (by decide), Nat.le_trans (odd_one d h) hk, fun e he => (odd_items d h e he).1⟩
theorem odd_map {d : PyData} (h : d ∈ oddL) {k : Nat} (hk : 1 ≤ k) : MapT k d := ⟨(odd_cell d h).tm.q.up (by decide), Nat.le_trans (odd_one d h) hk, fun e he => (odd_items d h e he).2⟩
structure Fnd (H Hn : Hp) (p F : Addr) (c a b : Nat) : Prop where
  g : Grow p H Hn
  bx : Bx Hn p c
  new : H F = none
  ex : ∃ u0 u1 u2 u3 d0 d1 d2 d3, Hn F = some (.lst [u0, u1, u2, u3]) ∧ Any (off p F Hn) u0 d0 ∧ Any (off p F Hn) u1 d1 ∧ Any (off p F Hn) u2 d2 ∧ Any (off p F Hn) u3 d3 ∧ StrT d0 ∧ Tq 0 d1 ∧ SizT a d2 ∧ MapT b d3
theorem Fnd.grow {H Hn H2 : Hp} {p F : Addr} {c e n a b : Nat} (s : Fnd H Hn p F c a b) (b0 : Bx H p n) (k : Grow p Hn H2) (bx : Bx H2 p e) : Fnd H H2 p F e a b := by
  obtain ⟨u0, u1, u2, u3, d0, d1, d2, d3, hF, a0, a1, a2, a3, r⟩ := s.ex
  have pF := b0.ne s.new
  have kk : Same (off p F Hn) (off p F H2) := off_same fun x o n1 n2 ex => k x o n1 ex
  exact ⟨s.g.trans k, bx, s.new, u0, u1, u2, u3, d0, d1, d2, d3, k _ _ pF.symm hF, a0.keep kk, a1.keep kk, a2.keep kk, a3.keep kk, r⟩
theorem Fnd.more {H Hn : Hp} {p F : Addr} {c e a b a' b' : Nat} (s : Fnd H Hn p F c a b) (h : c ≤ e) (ha : a ≤ a') (hb : b ≤ b') : Fnd H Hn p F e a' b' := by
  obtain ⟨u0, u1, u2, u3, d0, d1, d2, d3, hF, a0, a1, a2, a3, r0, r1, r2, r3⟩ := s.ex
  exact ⟨s.g, s.bx.more h, s.new, u0, u1, u2, u3, d0, d1, d2, d3, hF, a0, a1, a2, a3, r0, r1, r2.up ha, r3.up hb⟩
/-- the list is written anew -/
theorem Fnd.put {H Hn : Hp} {p F : Addr} {c n a b : Nat} (g : Grow p H Hn) (bx : Bx Hn p c) (new : H F = none) (b0 : Bx H p n) {u0 u1 u2 u3 : V} {d0 d1 d2 d3 : PyData} (a0 : Any (off p F Hn) u0 d0) (a1 : Any (off p F Hn) u1 d1) (a2 : Any (off p F Hn) u2 d2) (a3 : Any (off p F Hn) u3 d3)
    (r0 : StrT d0) (r1 : Tq 0 d1) (r2 : SizT a d2) (r3 : MapT b d3) : Fnd H (upd Hn F (.lst [u0, u1, u2, u3])) p F c a b := by
  have pF := b0.ne new
  have kk : Same (off p F Hn) (off p F (upd Hn F (.lst [u0, u1, u2, u3]))) := off_same fun x o n1 n2 ex => by rw [upd_ne n2]; exact ex
  refine ⟨fun x o n1 ex => ?_, ?_, new, u0, u1, u2, u3, d0, d1, d2, d3, upd_same, a0.keep kk, a1.keep kk, a2.keep kk, a3.keep kk, r0, r1, r2, r3⟩
  · rw [upd_ne (ne_of_none ex new)]
    exact g x o n1 ex
  · obtain ⟨c1, c2, c3, h1, rest⟩ := bx
    exact ⟨c1, c2, c3, by rw [upd_ne pF]; exact h1, rest⟩
structure ThingT (d : PyData) : Prop where
  ex : ∃ d0 d1 d2 d3, d = .list [d0, d1, d2, d3] ∧ StrT d0 ∧ Tq 0 d1 ∧ SizT 7 d2 ∧ MapT 6 d3
def spBent : Sp := fun vs H Q _ => ∃ (p : Addr) (v : V) (n : Nat) (x : Str) (q : Int) (ss : List Nat) (ms : List (List (List Int))), vs = [.ref p, v] ∧ Any (del H p) v (draftD x q ss ms) ∧ Draft x q 3 ss ms ∧ Pat x 4 ∧ q ∈ primesL ∧ Bx H p n ∧ n ≤ 800000 ∧
  ∀ v' d H', ThingT d → Any (del H' p) v' d → Grow p H H' → Bx H' p (n + 1000) → Q v' H'
theorem op_mul_str {X : Cx} : OpR X (binaryOp .Mult) (fun x y H Q => ∃ z n, x = .str z ∧ y = .int n ∧ PySem.MulOk z n ∧ Q (.str (Txt.mul z n)) H) := by
  intro pins s σ H x y v u Q I rx ry h
  obtain ⟨z, n, rfl, rfl, ok, q⟩ := h
  obtain ⟨t, rfl⟩ := rx
  obtain ⟨t', rfl⟩ := ry
  exact PySem.SB.mul ok fun t' k => ⟨.str _, H, I.tok _, ⟨_, rfl⟩, q⟩
end Rw

set_option Elab.async false
set_option linter.all false
set_option maxRecDepth 100000
set_option maxHeartbeats 4000000
/-! K11J: bent sheets. -/
namespace K11
open PySem PySem.Spec PyProof.Rows L2 Rw
abbrev sBentS : Stmt := top 51
abbrev NBentS : List Str := ["_law_box_here", "_law_sheet", "_law_some", "_law_way", "_law_k", "_law_row_here"]
theorem scBentS : FnScope NBentS ["_law_box_here", "_law_sheet"] (defScope sBentS) := ⟨rfl, rfl, rfl, by decide +kernel, rfl, by decide +kernel, by decide +kernel⟩
section
variable {P : Program} {w : World} {K : PySem.W.Frag} {mg : Str → Option Value} {base : Heap} {aI aT C CR CP CT CZ CA CM CL : Addr} {kI : List (Int × Value)} {kT : List (Str × Value)}
theorem okBentS {f : Addr} {fd : FuncData} (F : Fun K "_law_bent_sheet" "_law_bent_sheet" sBentS f fd) (T : Txt K w mg aI aT CP CT CZ CA CM CL kI kT) (GT : Own P w K mg base CX0 1 "_law_take" ["_law_box_here", "_law_many"] [] spTakeR) (GO : Own P w K mg base CX0 2 "_law_odd" ["_law_box_here"] [] spOddN) :
    FnOk P w K mg base CX0 3 f fd ["_law_box_here", "_law_sheet"] spBentS := by
  refine F.ok scBentS (fun vs H Q E h => ?_) (fun cdv A outer s H vs Q E hr h => ?_)
  · obtain ⟨p, v, n, hh, ww, q, m, rfl, _⟩ := h
    rfl
  · obtain ⟨p, v, n, hh, ww, qq, m, rfl, an, mo, hq, h4, w4, bx, hn, q⟩ := h
    have pp := prime_pos hq
    refine ⟨_, (pss_cons (ps_setLc (i := 2) (own := [("_law_row_here", 5)]) (g := gName 5) (tt := tYes) rfl scBentS.nd rfl rfl (sw_true rfl rfl rfl (by decide +kernel)) (pi_seq (pv 1)) (blkOk_by (N := NBentS) (sc := defScope sBentS) (by decide +kernel)) (fun _ _ _ _ _ => (pg_name (i := 5) scBentS.nd rfl (Or.inl rfl))) (fun _ _ _ _ _ => pts_nil) (fun _ _ _ _ _ => (pe_callTy call_lstA (by rfl) T.list (by decide +kernel) (pa_cons (pv 5) pa_nil))))
      (pss_cons (ps_set (i := 3) scBentS.nd rfl (Or.inl rfl) (pe_own GT (hr.mono (by decide)) pass0 (pa_cons (pv 0) (pa_cons pe_int pa_nil))))
      (pss_cons (ps_if (pt_cmpR op_eq (pv 3) pe_int (nomark _)) (pss_one (ps_ret (pe_own GO (hr.mono (by decide)) pass0 (pa_cons (pv 0) pa_nil)))) pss_nil)
      (pss_cons (ps_if (pt_cmpR op_eq (pv 3) pe_int (nomark _)) (pss_one (ps_ret (pe_op op_cat (pv 2) (pe_lst (pa_cons (pe_lst (pa_cons pe_int pa_nil)) pa_nil))))) pss_nil)
      (pss_cons (ps_if (pt_cmpR op_eq (pv 3) pe_int (nomark _)) (pss_one (ps_ret (pe_slice sl_list (pv 2) (po_some pe_int) po_none))) pss_nil)
      (pss_cons (ps_if (pt_cmpR (op_eq_nil hr.units0) (pv 2) (pe_lst pa_nil) (by rfl)) (pss_one (ps_ret (pe_lst (pa_cons (pe_lst pa_nil) pa_nil)))) pss_nil)
      (pss_cons (ps_set (i := 4) scBentS.nd rfl (Or.inl rfl) (pe_own GT (hr.mono (by decide)) pass0 (pa_cons (pv 0) (pa_cons (pe_callB call_len_seq (by rfl) T.len (by decide +kernel) (pa_cons (pv 2) pa_nil)) pa_nil))))
      (Evl.pss_cut (ps_if (pt_cmpR op_eq (pv 3) pe_int (nomark _)) (pss_one (ps_asg (pe_op op_cat (pe_ix ix_list (pv 2) (pv 4) (fun _ _ => rfl)) (pe_lst (pa_cons pe_int pa_nil))) (pg_sub (pv 2) (pv 4) set_list))) (pss_one (ps_if (PW.pt (pw_and (pt_cmpR op_eq (pv 3) pe_int (nomark _)) (pw_and1 (pt_cmpR (op_ne_nil hr.units0) (pe_ix ix_list (pv 2) (pv 4) (fun _ _ => rfl)) (pe_lst pa_nil) (by rfl))))) (pss_one (ps_asg (pe_ix ix_list (pe_lst (pa_cons pe_bl (pa_cons pe_non (pa_cons pe_str (pa_cons (pe_tup (pa_cons pe_int pa_nil)) pa_nil))))) (pe_own GT (hr.mono (by decide)) pass0 (pa_cons (pv 0) (pa_cons pe_int pa_nil))) (fun _ _ => rfl)) (pg_sub (pe_ix ix_list (pv 2) (pv 4) (fun _ _ => rfl)) (pe_own GT (hr.mono (by decide)) pass0 (pa_cons (pv 0) (pa_cons (pe_callB call_len_seq (by rfl) T.len (by decide +kernel) (pa_cons (pe_ix ix_list (pv 2) (pv 4) (fun _ _ => rfl)) pa_nil)) pa_nil))) set_list))) (pss_one (ps_asg (pe_own GO (hr.mono (by decide)) pass0 (pa_cons (pv 0) pa_nil)) (pg_sub (pv 2) (pv 4) set_list))))))
      (pss_one (ps_ret (pv 2))))))))))), ?_⟩
    obtain ⟨sa, xs0, rfl, hsa, al0⟩ : ∃ a xs, v = .ref a ∧ (del H p) a = some (.lst xs) ∧ AnyL (del H p) xs (m.map tupI) := by
      cases an with
      | lst e al => exact ⟨_, _, rfl, e, al⟩
    have sp : sa ≠ p := fun z => by rw [z, del_same] at hsa; cases hsa
    have hs0 : H sa = some (.lst xs0) := by rw [del_ne sp] at hsa; exact hsa
    have l0 := anyL_len al0
    rw [List.length_map, mo.h] at l0
    refine ⟨_, rfl, sa, true, xs0, rfl, SqL.of hs0, fun Ad hA => ?_⟩
    refine lc_it (walk_seq (k := true)) (Pv := fun i H1 => Shp H H1 p Ad n i ww) ⟨Grow.of (same_new hA), bx.keep (same_new hA), hA, [], [], upd_same, ⟨rfl, fun i r e => by simp at e, fun i j b e => by simp at e, fun r hr => (nomatch hr)⟩, rfl, by omega, fun r hr => (nomatch hr)⟩ (fun i H1 _ z => SqL.of (z.g _ _ sp hs0)) ?_ ?_
    · rintro i y H1 H1' hi sh ⟨rfl, hy⟩
      refine ⟨rfl, ?_⟩
      obtain ⟨d, hd, ad⟩ := anyL_at al0 hy
      rw [List.getElem?_map] at hd
      obtain ⟨r, hr1, rfl⟩ : ∃ r, m[i]? = some r ∧ d = tupI r := by
        cases e : m[i]? with
        | none => rw [e] at hd; cases hd
        | some r => rw [e] at hd; exact ⟨r, rfl, (Option.some.inj hd).symm⟩
      obtain ⟨rl, re⟩ := mo.w r (List.mem_of_getElem? hr1)
      refine ⟨_, rfl, y, tupI r, rfl, (ad.keep sh.g.del).keep same_del, rfl, fun l ys hl al => ?_⟩
      have eys : ys = r.map V.int := anyL_ints al
      subst eys
      obtain ⟨xs, e3, l3, sh3⟩ := sh.snoc bx (Grow.of (same_new hl)) (sh.bx.keep (same_new hl)) hl (r := r) upd_same rl w4 (fun e he => by have := re e he; omega) (by omega)
      exact ⟨xs, e3, Nat.lt_of_le_of_lt (by omega : xs.length ≤ 1000) (by decide), sh3⟩
    · intro H1 sh
      rw [l0] at sh
      obtain ⟨xx, yy, zz, hpx, _⟩ := id bx
      have Ap := (bx.ne sh.new).symm
      refine ⟨_, rfl, p, 6, n, rfl, by decide, by decide, sh.bx, by omega, fun wy H2 wy0 wy1 G2 B2 => ?_⟩
      have sh2 := sh.grow bx G2 B2
      have nwD : ∀ {H3 : Hp}, Grow p H2 H3 → Same (nw H H2) (nw H H3) := fun k => nw_grow hpx k
      refine ⟨_, rfl, rfl, _, rfl, ite2 (fun _ => ?_) (fun _ => ?_)⟩
      · refine ⟨_, rfl, p, n + 1, rfl, B2, by omega, fun v d H3 hd an3 G3 B3 => ?_⟩
        exact q v d H3 (odd_sheet hd) (an3.keep (nw_from sh2.bx sh2.g)) (sh2.g.trans G3) (B3.more (by omega))
      obtain ⟨xs, ds, ea, al, ld, rd⟩ := sh2.gen.ex
      have lx := anyL_len al
      refine ⟨_, rfl, rfl, _, rfl, ite2 (fun _ => ?_) (fun _ => ?_)⟩
      · refine ⟨_, rfl, by show 1 ≤ sizeLine; decide, fun q1 h1 => ⟨by show 1 ≤ sizeLine; decide, fun q2 h2 => ?_⟩⟩
        have k1 := same_new (o := .lst [.int 0]) h1
        have k2 := same_new (o := .lst [.ref q1]) h2
        refine ⟨Ad, q2, xs, [.ref q1], rfl, rfl, k2 _ _ (k1 _ _ ea), upd_same, Nat.le_trans (by show xs.length + 1 ≤ 100; omega) (by decide), fun q3 h3 => ?_⟩
        have k3 := same_new (o := .lst (xs ++ [.ref q1])) h3
        have kk := (k1.trans k2).trans k3
        have n1 : H q1 = none := fresh_of sh2.g B2 h1
        have n3 : H q3 = none := fresh_of (sh2.g.trans (Grow.of (k1.trans k2))) ((B2.keep k1).keep k2) h3
        refine q _ (.list (ds ++ [.list [.int 0]])) _ (sheet_list (by rw [List.length_append]; show _ + 1 ≤ 6; omega) fun e he => ?_) (.lst (nw_at n3 upd_same) ?_) (sh2.g.trans (Grow.of kk)) (((B2.keep k1).keep k2).keep k3 |>.more (by omega))
        · rcases List.mem_append.mp he with z | z
          · exact rd e z
          · rw [List.mem_singleton.mp z]
            exact row_list (by show 1 ≤ 6; decide) fun c hc => by rw [List.mem_singleton.mp hc]; exact cell_int (by decide)
        · refine anyL_snoc (anyL_keep (same_del.trans (nw_same kk)) al) (.lst (nw_at n1 (k3 _ _ (k2 _ _ upd_same))) (.cons (.int 0) .nil))
      refine ⟨_, rfl, rfl, _, rfl, ite2 (fun _ => ?_) (fun _ => ?_)⟩
      · refine ⟨_, rfl, 1, rfl, Ad, xs, rfl, SqL.of ea, fun q1 h1 => ?_⟩
        have k1 := same_new (o := .lst (cutV xs (some 1) none)) h1
        have n1 : H q1 = none := fresh_of sh2.g B2 h1
        refine q _ (.list ((ds.drop (HT.sIx xs.length 0 (some 1))).take (HT.sIx xs.length xs.length none - HT.sIx xs.length 0 (some 1)))) _ (sheet_list ?_ fun e he => rd e (List.mem_of_mem_drop (List.mem_of_mem_take he))) (.lst (nw_at n1 upd_same) (anyL_take _ (anyL_drop _ (anyL_keep (same_del.trans (nw_same k1)) al)))) (sh2.g.trans (Grow.of k1)) ((B2.keep k1).more (by omega))
        rw [List.length_take, List.length_drop]
        omega
      refine ⟨_, rfl, by show 0 ≤ sizeLine; decide, fun q0 h0 => ⟨Ad, q0, xs, rfl, rfl, same_new h0 _ _ ea, upd_same, _, rfl, ?_⟩⟩
      have k0 := same_new (o := .lst []) h0
      have B3 := B2.keep k0
      have sh3 := sh2.grow bx (Grow.of k0) B3
      have e3 := k0 _ _ ea
      generalize upd H2 q0 (.lst []) = H3 at k0 B3 sh3 e3 ⊢
      refine ite2 (fun _ => ?_) (fun ne => ?_)
      · refine ⟨by show 0 ≤ sizeLine; decide, fun q1 h1 => ⟨by show 1 ≤ sizeLine; decide, fun q2 h2 => ?_⟩⟩
        have k1 := same_new (o := .lst []) h1
        have k2 := same_new (o := .lst [.ref q1]) h2
        have n1 : H q1 = none := fresh_of sh3.g B3 h1
        have n2 : H q2 = none := fresh_of (sh3.g.trans (Grow.of k1)) (B3.keep k1) h2
        refine q _ (.list [.list []]) _ (sheet_list (by show 1 ≤ 6; decide) fun e he => ?_) (.lst (nw_at n2 upd_same) (.cons (.lst (nw_at n1 (k2 _ _ upd_same)) .nil) .nil)) (sh3.g.trans (Grow.of (k1.trans k2))) (((B3.keep k1).keep k2).more (by omega))
        rw [List.mem_singleton.mp he]
        exact row_list (by show 0 ≤ 6; decide) fun c hc => (nomatch hc)
      have xp : 0 < xs.length := by
        cases xs with
        | nil => exact (ne rfl).elim
        | cons a b => exact Nat.succ_pos _
      refine ⟨_, rfl, _, rfl, Ad, xs, rfl, .inl (SqL.of e3), p, _, n + 1, rfl, by omega, by omega, B3, by omega, fun kk H4 kk0 kk1 G4 B4 => ?_⟩
      have sh4 := sh3.grow bx G4 B4
      have e4 := G4 _ _ Ap e3
      obtain ⟨j, rfl⟩ : ∃ j : Nat, kk = (j : Int) := ⟨kk.toNat, by omega⟩
      have hj : j < xs.length := by omega
      refine ⟨fun σ' H5 => ∃ c, c ≤ n + 20 ∧ Gen H H5 p Ad c ∧ σ'[2]? = some (some (.ref Ad)), ?_, ?_⟩
      · refine ⟨_, rfl, rfl, _, rfl, ite2 (fun _ => ?_) (fun _ => ?_)⟩
        · -- one more item in a row
          obtain ⟨xs', rs, ea', ok, lr, _, lw⟩ := sh4.ex
          rw [e4] at ea'
          cases ea'
          have lxr := ok.len
          obtain ⟨b, x1, x2, x3, x4⟩ := ok.row j rs[j] (List.getElem?_eq_getElem (by omega))
          refine ⟨_, rfl, _, rfl, Ad, _, _, _, rfl, rfl, SqL.of e4, atI_nat x1, by show 1 ≤ sizeLine; decide, fun q1 h1 => ?_⟩
          have k1 := same_new (o := .lst [.int 0]) h1
          have rw4 := lw _ (List.getElem_mem (show j < rs.length by omega))
          refine ⟨b, q1, (rs[j]).map V.int, [.int 0], rfl, rfl, k1 _ _ x2, upd_same, Nat.le_trans (by rw [List.length_map]; show _ + 1 ≤ 100; omega) (by decide), fun q2 h2 => ?_⟩
          have k2 := same_new (o := .lst ((rs[j]).map V.int ++ [.int 0])) h2
          have n2 : H4 q2 = none := k1.free h2
          have B5 := (B4.keep k1).keep k2
          have sm := ok.wide _ (List.getElem_mem (show j < rs.length by omega))
          obtain ⟨xs2, e5, g5⟩ := sh4.gen.put bx (Grow.of (k1.trans k2)) B5 (v := .ref q2) (d := .list ((rs[j] ++ [0]).map .int)) (.lst (nw_at n2 upd_same) (by
            have := ints_anyL (H := nw H4 (upd (upd H4 q1 (.lst [.int 0])) q2 (.lst ((rs[j]).map V.int ++ [.int 0])))) (rs[j] ++ [0])
            rw [List.map_append] at this
            exact this)) (row_list (by rw [List.length_map, List.length_append]; show _ + 1 ≤ 6; omega) fun c hc => by
              obtain ⟨e, he, rfl⟩ := List.mem_map.mp hc
              rcases List.mem_append.mp he with z | z
              · exact cell_int (Nat.lt_of_le_of_lt (sm.2 e z) (by decide))
              · rw [List.mem_singleton.mp z]; exact cell_int (by decide))
          rw [k2 _ _ (k1 _ _ e4)] at e5
          cases e5
          refine ⟨_, rfl, _, rfl, Ad, _, _, j, rfl, rfl, k2 _ _ (k1 _ _ e4), ixn hj, n + 1 + 1, by omega, g5 j, rfl⟩
        · refine ⟨_, rfl, rfl, _, rfl, ite2 (fun _ => ?_) (fun _ => iteF ?_)⟩
          · -- another thing in a row
            obtain ⟨xs', rs, ea', ok, lr, _, lw⟩ := sh4.ex
            rw [e4] at ea'
            cases ea'
            have lxr := ok.len
            obtain ⟨b, x1, x2, x3, x4⟩ := ok.row j rs[j] (List.getElem?_eq_getElem (by omega))
            have rw4 := lw _ (List.getElem_mem (show j < rs.length by omega))
            refine ⟨_, rfl, _, rfl, Ad, _, _, _, rfl, rfl, SqL.of e4, atI_nat x1, by show 0 ≤ sizeLine; decide, fun q1 h1 => ⟨b, q1, _, rfl, rfl, same_new h1 _ _ x2, upd_same, _, rfl, ?_⟩⟩
            have k1 := same_new (o := .lst []) h1
            have B5 := B4.keep k1
            have sh5 := sh4.grow bx (Grow.of k1) B5
            have e5 := k1 _ _ e4
            have x25 := k1 _ _ x2
            generalize upd H4 q1 (.lst []) = H5 at k1 B5 sh5 e5 x25 ⊢
            refine ite2 (fun nn => ?_) (fun nn => ?_)
            · have wp : 0 < ww := by
                rw [← rw4]
                cases hz : rs[j] with
                | nil => rw [hz] at nn; cases nn
                | cons a b => exact Nat.succ_pos _
              -- the thing
              refine ⟨by show 1 ≤ sizeLine; decide, fun t1 ht1 => ⟨by show 4 ≤ sizeLine; decide, fun l1 hl1 => ?_⟩⟩
              have k6 := same_new (o := .tup [.int 1]) ht1
              have k7 := same_new (o := .lst [.bl true, .non, .str "1", .ref t1]) hl1
              have k67 := k6.trans k7
              have B7 := B5.keep k67
              have pl1 := (B5.keep k6).ne hl1
              have pt1 := B5.ne ht1
              refine ⟨_, rfl, p, 4, n + 1 + 1, rfl, by decide, by decide, B7, by omega, fun r1 H8 r10 r11 G8 B8 => ?_⟩
              obtain ⟨i1, rfl⟩ : ∃ i1 : Nat, r1 = (i1 : Int) := ⟨r1.toNat, by omega⟩
              have G58 : Grow p H5 H8 := (Grow.of k67).trans G8
              have nt1 : H5 t1 = none := ht1
              have at1 : Any (nw H5 H8) (.ref t1) (.tuple [.int 1]) := .tup (nw_at nt1 (G8 _ _ pt1.symm (k7 _ _ upd_same))) (.cons (.int 1) .nil)
              have all : AnyL (nw H5 H8) [.bl true, .non, .str "1", .ref t1] [.bool true, .none, .str "1", .tuple [.int 1]] := .cons (.bl _) (.cons .non (.cons (.str _) (.cons at1 .nil)))
              obtain ⟨v, d, g1, g2, g3⟩ := AnyL.get all i1 (by show i1 < 4; omega)
              have cd : Cell d := by
                have mem : d ∈ oddL := by
                  unfold oddL
                  simp only [List.mem_cons, List.not_mem_nil, or_false] at g2 ⊢
                  rcases g2 with z | z | z | z <;> simp [z]
                exact odd_cell d mem
              refine ⟨l1, _, _, v, rfl, rfl, SqL.of (G8 _ _ pl1.symm upd_same), atI_nat g1, ?_⟩
              -- where it goes
              have e8 := G58 _ _ Ap e5
              have bp : b ≠ p := fun z => by rw [z, hpx] at x3; cases x3
              have x28 := G58 _ _ bp x25
              refine ⟨_, rfl, _, rfl, Ad, _, _, .ref b, rfl, rfl, SqL.of e8, atI_nat x1, ?_⟩
              refine ⟨_, rfl, _, rfl, _, rfl, Ad, _, _, .ref b, rfl, rfl, SqL.of e8, atI_nat x1, b, _, rfl, .inl (SqL.of x28), p, _, n + 1 + 1 + 1, rfl, by rw [List.length_map]; omega, by rw [List.length_map]; omega, B8, by omega, fun r4 H9 s0 s1 G9 B9 => ?_⟩
              rw [List.length_map] at s1
              obtain ⟨_, _, _, hp5, _⟩ := id B5
              obtain ⟨xs2, b2, row, f1, f2, f3, f4, f5⟩ := sh5.cell bx (G58.trans G9) B9 (g3.keep (nw_grow hp5 G9)) cd (i := j) (by omega)
              rw [G9 _ _ Ap e8] at f1
              cases f1
              rw [x1] at f2
              cases f2
              refine ⟨b, _, r4, r4.toNat, rfl, rfl, f3, ?_, n + 1 + 1 + 1 + 1, by omega, f5 _, rfl⟩
              have e10 : r4 = ((r4.toNat : Nat) : Int) := by omega
              rw [e10]
              exact ixn (by rw [List.length_map]; omega)
            · -- an odd row
              refine ⟨_, rfl, p, _, rfl, B5, by omega, fun v d H6 hd an6 G6 B6 => ?_⟩
              obtain ⟨xs2, f1, f2⟩ := sh5.gen.put bx G6 B6 an6 (odd_cell d hd).row
              rw [G6 _ _ Ap e5] at f1
              cases f1
              exact ⟨_, rfl, _, rfl, Ad, _, _, j, rfl, rfl, G6 _ _ Ap e5, ixn hj, _, by omega, f2 j, rfl⟩
          · refine ⟨_, rfl, p, _, rfl, B4, by omega, fun v d H6 hd an6 G6 B6 => ?_⟩
            obtain ⟨xs2, f1, f2⟩ := sh4.gen.put bx G6 B6 an6 (odd_cell d hd).row
            rw [G6 _ _ Ap e4] at f1
            cases f1
            exact ⟨_, rfl, _, rfl, Ad, _, _, j, rfl, rfl, G6 _ _ Ap e4, ixn hj, _, by omega, f2 j, rfl⟩
      · rintro σ' H5 ⟨c, hc, g5, hσ⟩
        refine ⟨_, hσ, ?_⟩
        obtain ⟨xs5, ds5, ea5, al5, ld5, rd5⟩ := g5.ex
        exact q _ (.list ds5) _ (sheet_list (by omega) rd5) (.lst (nw_at g5.new ea5) (anyL_keep same_del al5)) g5.g (g5.bx.more (by omega))
end
end K11

set_option Elab.async false
set_option linter.all false
set_option maxRecDepth 100000
set_option maxHeartbeats 4000000
/-! TkKb: the four parts of a thing, one exchanged. -/
namespace Rw
open PySem PySem.Spec PyProof.Rows L2
theorem off_from {H Hn : Hp} {p F : Addr} (new : H F = none) (g : Grow p H Hn) : Same (del H p) (off p F Hn) := fun b o e => by
  unfold off
  by_cases y : b = p
  · rw [y, del_same] at e; cases e
  · rw [del_ne y] at e
    have n2 : b ≠ F := ne_of_none e new
    rw [del_ne n2, del_ne y]
    exact g b o y e
/-- what was there stays, when a new list is written -/
theorem off_put {H1 H3 : Hp} {p F L : Addr} {o : HO} (hL : H1 L = none) (k : ∀ x u, x ≠ p → x ≠ F → H1 x = some u → H3 x = some u) : Same (off p F H1) (off p F (upd H3 L o)) := off_same fun x u n1 n2 ex => by
  rw [upd_ne (ne_of_none ex hL)]
  exact k x u n1 n2 ex
theorem nw_offput {H H' : Hp} {p F L : Addr} {o : HO} (hp : H p ≠ none) (hF : H F ≠ none) (hL : H L ≠ none) : Same (nw H H') (off p F (upd H' L o)) := fun b u e => by
  have e2 : (if H b = none then H' b else none) = some u := e
  split at e2
  · rename_i h
    unfold off
    rw [del_ne (fun z => hF (by rw [← z]; exact h)), del_ne (fun z => hp (by rw [← z]; exact h)), upd_ne (fun z => hL (by rw [← z]; exact h))]
    exact e2
  · cases e2
theorem Bx.some {H : Hp} {p : Addr} {n : Nat} (b : Bx H p n) : H p ≠ none := by
  obtain ⟨_, _, _, h, _⟩ := b
  rw [h]
  exact fun z => by cases z
section
variable {H Hn : Hp} {p F : Addr} {c n a b : Nat}
theorem Fnd.here (s : Fnd H Hn p F c a b) : Hn F ≠ none := by
  obtain ⟨u0, u1, u2, u3, d0, d1, d2, d3, hF, _⟩ := s.ex
  rw [hF]
  exact fun z => by cases z
theorem Fnd.odd (s : Fnd H Hn p F c a b) (b0 : Bx H p n) (ha : 1 ≤ a) (hb : 1 ≤ b) {v : V} {d : PyData} (hd : d ∈ oddL) (an : Any (off p F Hn) v d) {j : Nat} (hj : j < 4) : ∃ us, Hn F = some (.lst us) ∧ us.length = 4 ∧ Fnd H (upd Hn F (.lst (us.set j v))) p F c a b := by
  obtain ⟨u0, u1, u2, u3, d0, d1, d2, d3, hF, a0, a1, a2, a3, r0, r1, r2, r3⟩ := s.ex
  refine ⟨_, hF, rfl, ?_⟩
  rcases (by omega : j = 0 ∨ j = 1 ∨ j = 2 ∨ j = 3) with e | e | e | e <;> subst e
  · exact Fnd.put s.g s.bx s.new b0 an a1 a2 a3 (odd_str hd) r1 r2 r3
  · exact Fnd.put s.g s.bx s.new b0 a0 an a2 a3 r0 (odd_cell d hd).tm.q r2 r3
  · exact Fnd.put s.g s.bx s.new b0 a0 a1 an a3 r0 r1 (odd_siz hd ha) r3
  · exact Fnd.put s.g s.bx s.new b0 a0 a1 a2 an r0 r1 r2 (odd_map hd hb)
theorem Fnd.str (s : Fnd H Hn p F c a b) (b0 : Bx H p n) {v : V} {d : PyData} (r : StrT d) (an : Any (off p F Hn) v d) : ∃ us, Hn F = some (.lst us) ∧ us.length = 4 ∧ Fnd H (upd Hn F (.lst (us.set 0 v))) p F c a b := by
  obtain ⟨u0, u1, u2, u3, d0, d1, d2, d3, hF, a0, a1, a2, a3, r0, r1, r2, r3⟩ := s.ex
  exact ⟨_, hF, rfl, Fnd.put s.g s.bx s.new b0 an a1 a2 a3 r r1 r2 r3⟩
theorem Fnd.siz (s : Fnd H Hn p F c a b) (b0 : Bx H p n) {v : V} {d : PyData} {a' : Nat} (r : SizT a' d) (an : Any (off p F Hn) v d) : ∃ us, Hn F = some (.lst us) ∧ us.length = 4 ∧ Fnd H (upd Hn F (.lst (us.set 2 v))) p F c a' b := by
  obtain ⟨u0, u1, u2, u3, d0, d1, d2, d3, hF, a0, a1, a2, a3, r0, r1, r2, r3⟩ := s.ex
  exact ⟨_, hF, rfl, Fnd.put s.g s.bx s.new b0 a0 a1 an a3 r0 r1 r r3⟩
theorem Fnd.map (s : Fnd H Hn p F c a b) (b0 : Bx H p n) {v : V} {d : PyData} {b' : Nat} (r : MapT b' d) (an : Any (off p F Hn) v d) : ∃ us, Hn F = some (.lst us) ∧ us.length = 4 ∧ Fnd H (upd Hn F (.lst (us.set 3 v))) p F c a b' := by
  obtain ⟨u0, u1, u2, u3, d0, d1, d2, d3, hF, a0, a1, a2, a3, r0, r1, r2, r3⟩ := s.ex
  exact ⟨_, hF, rfl, Fnd.put s.g s.bx s.new b0 a0 a1 a2 an r0 r1 r2 r⟩
theorem Fnd.at2 (s : Fnd H Hn p F c a b) : ∃ us u d, Hn F = some (.lst us) ∧ us.length = 4 ∧ us[2]? = some u ∧ Any (off p F Hn) u d ∧ SizT a d := by
  obtain ⟨u0, u1, u2, u3, d0, d1, d2, d3, hF, a0, a1, a2, a3, r0, r1, r2, r3⟩ := s.ex
  exact ⟨_, _, _, hF, rfl, rfl, a2, r2⟩
theorem Fnd.at3 (s : Fnd H Hn p F c a b) : ∃ us u d, Hn F = some (.lst us) ∧ us.length = 4 ∧ us[3]? = some u ∧ Any (off p F Hn) u d ∧ MapT b d := by
  obtain ⟨u0, u1, u2, u3, d0, d1, d2, d3, hF, a0, a1, a2, a3, r0, r1, r2, r3⟩ := s.ex
  exact ⟨_, _, _, hF, rfl, rfl, a3, r3⟩
/-- the new list in the place of the sizes is written -/
theorem Fnd.in2 (s : Fnd H Hn p F c a b) (b0 : Bx H p n) {us zs : List V} {ds : List PyData} {L : Addr} {H3 : Hp} {e a' : Nat} (hF : Hn F = some (.lst us)) (hL : Hn L = none) (k : ∀ x o, x ≠ p → x ≠ F → Hn x = some o → H3 x = some o)
    (h3 : H3 F = some (.lst (us.set 2 (.ref L)))) (bx : Bx H3 p e) (al : AnyL (off p F (upd H3 L (.lst zs))) zs ds) (r : SizT a' (.list ds)) : Fnd H (upd H3 L (.lst zs)) p F e a' b := by
  obtain ⟨u0, u1, u2, u3, d0, d1, d2, d3, hF', a0, a1, a2, a3, r0, r1, r2, r3⟩ := s.ex
  rw [hF] at hF'
  cases hF'
  have LF : L ≠ F := fun z => by rw [z, hF] at hL; cases hL
  have Lp : L ≠ p := fun z => s.bx.some (by rw [← z]; exact hL)
  have kk : Same (off p F Hn) (off p F (upd H3 L (.lst zs))) := off_put hL k
  refine ⟨fun x o n1 ex => ?_, ?_, s.new, u0, u1, .ref L, u3, d0, d1, .list ds, d3, by rw [upd_ne (Ne.symm LF)]; exact h3, a0.keep kk, a1.keep kk, .lst ?_ al, a3.keep kk, r0, r1, r, r3⟩
  · have e1 := s.g x o n1 ex
    rw [upd_ne (ne_of_none e1 hL)]
    exact k x o n1 (ne_of_none ex s.new) e1
  · obtain ⟨c1, c2, c3, h1, rest⟩ := bx
    exact ⟨c1, c2, c3, by rw [upd_ne (Ne.symm Lp)]; exact h1, rest⟩
  · unfold off
    rw [del_ne LF, del_ne Lp, upd_same]
theorem Fnd.in3 (s : Fnd H Hn p F c a b) (b0 : Bx H p n) {us zs : List V} {ds : List PyData} {L : Addr} {H3 : Hp} {e b' : Nat} (hF : Hn F = some (.lst us)) (hL : Hn L = none) (k : ∀ x o, x ≠ p → x ≠ F → Hn x = some o → H3 x = some o)
    (h3 : H3 F = some (.lst (us.set 3 (.ref L)))) (bx : Bx H3 p e) (al : AnyL (off p F (upd H3 L (.lst zs))) zs ds) (r : MapT b' (.list ds)) : Fnd H (upd H3 L (.lst zs)) p F e a b' := by
  obtain ⟨u0, u1, u2, u3, d0, d1, d2, d3, hF', a0, a1, a2, a3, r0, r1, r2, r3⟩ := s.ex
  rw [hF] at hF'
  cases hF'
  have LF : L ≠ F := fun z => by rw [z, hF] at hL; cases hL
  have Lp : L ≠ p := fun z => s.bx.some (by rw [← z]; exact hL)
  have kk : Same (off p F Hn) (off p F (upd H3 L (.lst zs))) := off_put hL k
  refine ⟨fun x o n1 ex => ?_, ?_, s.new, u0, u1, u2, .ref L, d0, d1, d2, .list ds, by rw [upd_ne (Ne.symm LF)]; exact h3, a0.keep kk, a1.keep kk, a2.keep kk, .lst ?_ al, r0, r1, r2, r⟩
  · have e1 := s.g x o n1 ex
    rw [upd_ne (ne_of_none e1 hL)]
    exact k x o n1 (ne_of_none ex s.new) e1
  · obtain ⟨c1, c2, c3, h1, rest⟩ := bx
    exact ⟨c1, c2, c3, by rw [upd_ne (Ne.symm Lp)]; exact h1, rest⟩
  · unfold off
    rw [del_ne LF, del_ne Lp, upd_same]
theorem Fnd.thing (s : Fnd H Hn p F c 7 6) (b0 : Bx H p n) : ∃ d, ThingT d ∧ Any (del Hn p) (.ref F) d := by
  have pF := b0.ne s.new
  obtain ⟨u0, u1, u2, u3, d0, d1, d2, d3, hF, a0, a1, a2, a3, r0, r1, r2, r3⟩ := s.ex
  exact ⟨_, ⟨d0, d1, d2, d3, rfl, r0, r1, r2, r3⟩, .lst (by
    rw [del_ne (Ne.symm pF)]
    exact hF) (.cons (a0.keep off_subp) (.cons (a1.keep off_subp) (.cons (a2.keep off_subp) (.cons (a3.keep off_subp) .nil))))⟩
end
theorem str_t {x : Str} (h : x.length ≤ 7) (c : ∀ z ∈ x.cps.toList, z < 16 ^ 8) : StrT (.str x) := ⟨tq_str h c, fun y e => by cases e; omega⟩
theorem str_app_len (x y : Str) : (x ++ y).length = x.length + y.length := by
  show (x.cps ++ y.cps).size = _
  rw [Array.size_append]
  rfl
theorem str_app_mem {x y : Str} {P : Nat → Prop} (h1 : ∀ z ∈ x.cps.toList, P z) (h2 : ∀ z ∈ y.cps.toList, P z) : ∀ z ∈ (x ++ y).cps.toList, P z := by
  intro z hz
  have hz2 : z ∈ (x.cps ++ y.cps).toList := hz
  rw [Array.toList_append] at hz2
  rcases List.mem_append.mp hz2 with e | e
  · exact h1 z e
  · exact h2 z e
theorem str_app_t {x y : Str} (px : Pat x 4) (ly : y.length ≤ 1) (cy : ∀ z ∈ y.cps.toList, z < 16 ^ 8) : StrT (.str (x ++ y)) :=
  str_t (by rw [str_app_len]; have := px.l; omega) (str_app_mem (arr_small px.a) cy)
theorem str_cut_t {x : Str} (px : Pat x 4) (lo hi : Option Int) : StrT (.str (cutS x lo hi)) := by
  refine str_t (by have := cutS_length x lo hi; have := px.l; omega) fun z hz => ?_
  have hz2 : z ∈ (x.cps.toList.drop (HT.sIx x.length 0 lo)).take (HT.sIx x.length x.length hi - HT.sIx x.length 0 lo) := by simpa [cutS] using hz
  exact arr_small px.a z (List.mem_of_mem_drop (List.mem_of_mem_take hz2))
end Rw

set_option Elab.async false
set_option linter.all false
set_option maxRecDepth 100000
set_option maxHeartbeats 8000000
/-! K11L: things to make rows of, bent. -/
namespace K11
open PySem PySem.Spec PyProof.Rows L2 Rw
abbrev sBent : Stmt := top 52
abbrev NBent : List Str := ["_law_box_here", "_law_draft_here", "_law_found", "_law_turn", "_law_way", "_law_k"]
theorem scBent : FnScope NBent ["_law_box_here", "_law_draft_here"] (defScope sBent) := ⟨rfl, rfl, rfl, by decide +kernel, rfl, by decide +kernel, by decide +kernel⟩
section
variable {P : Program} {w : World} {K : PySem.W.Frag} {mg : Str → Option Value} {base : Heap} {aI aT C CR CP CT CZ CA CM CL : Addr} {kI : List (Int × Value)} {kT : List (Str × Value)}
theorem okBent {f : Addr} {fd : FuncData} (F : Fun K "_law_bent" "_law_bent" sBent f fd) (T : Txt K w mg aI aT CP CT CZ CA CM CL kI kT) (GT : Own P w K mg base CX0 1 "_law_take" ["_law_box_here", "_law_many"] [] spTakeR) (GO : Own P w K mg base CX0 2 "_law_odd" ["_law_box_here"] [] spOddN)
    (GL : Own P w K mg base CX0 1 "_law_listed" ["_law_thing"] [] spList) (GB : Own P w K mg base CX0 3 "_law_bent_sheet" ["_law_box_here", "_law_sheet"] [] spBentS) :
    FnOk P w K mg base CX0 4 f fd ["_law_box_here", "_law_draft_here"] spBent := by
  refine F.ok scBent (fun vs H Q E h => ?_) (fun cdv A outer s H vs Q E hr h => ?_)
  · obtain ⟨p, v, n, x, qq, ss, ms, rfl, _⟩ := h
    rfl
  · obtain ⟨p, v, n, x, qq, ss, ms, rfl, an, dr, px, hq, bx, hn, q⟩ := h
    have pp := prime_pos hq
    refine ⟨_, (pss_cons (ps_set (i := 2) scBent.nd rfl (Or.inl rfl) (pe_lst (pa_cons (pe_ix ix_list (pv 1) pe_int (fun _ _ => rfl)) (pa_cons (pe_ix ix_list (pv 1) pe_int (fun _ _ => rfl)) (pa_cons (pe_callTy call_list_of (by rfl) T.list (by decide +kernel) (pa_cons (pe_ix ix_list (pv 1) pe_int (fun _ _ => rfl)) pa_nil)) (pa_cons (pe_callTy call_list_of (by rfl) T.list (by decide +kernel) (pa_cons (pe_ix ix_list (pv 1) pe_int (fun _ _ => rfl)) pa_nil)) pa_nil))))))
    (pss_cons (ps_for PassesOwn.never rfl (pi_range1 rfl T.range (pa_cons (pe_op op_add pe_int (pe_own GT (hr.mono (by decide)) pass0 (pa_cons (pv 0) (pa_cons pe_int pa_nil)))) pa_nil)) (pg_name (i := 3) scBent.nd rfl (Or.inl rfl)) (pss_cons (ps_set (i := 4) scBent.nd rfl (Or.inl rfl) (pe_own GT (hr.mono (by decide)) pass0 (pa_cons (pv 0) (pa_cons pe_int pa_nil))))
      (Evl.pss_cut (ps_if (pt_cmpR op_lt (pv 4) pe_int (nomark _)) (pss_one (ps_asg (pe_own GO (hr.mono (by decide)) pass0 (pa_cons (pv 0) pa_nil)) (pg_sub (pv 2) (pv 4) set_list))) pss_nil)
      (Evl.pss_cut (ps_if (PW.pt (pw_and (pt_cmpR op_eq (pv 4) pe_int (nomark _)) (pw_and1 (pt_cmpR op_eq (pe_own GT (hr.mono (by decide)) pass0 (pa_cons (pv 0) (pa_cons pe_int pa_nil))) pe_int (nomark _))))) (pss_one (ps_asg (pe_ix ix_list (pe_lst (pa_cons (pe_op op_mul_str pe_str pe_int) (pa_cons (pe_op op_add_str (pe_ix ix_list (pv 1) pe_int (fun _ _ => rfl)) pe_str) (pa_cons (pe_op op_add_str (pe_ix ix_list (pv 1) pe_int (fun _ _ => rfl)) pe_str) (pa_cons (pe_slice sl_str (pe_ix ix_list (pv 1) pe_int (fun _ _ => rfl)) (po_some pe_int) po_none) (pa_cons pe_str pa_nil)))))) (pe_own GT (hr.mono (by decide)) pass0 (pa_cons (pv 0) (pa_cons pe_int pa_nil))) (fun _ _ => rfl)) (pg_sub (pv 2) pe_int set_list))) pss_nil)
      (Evl.pss_cut (ps_if (PW.pt (pw_and (pt_cmpR op_eq (pv 4) pe_int (nomark _)) (pw_and1 (pt_val (pe_own GL (hr.mono (by decide)) pass0 (pa_cons (pe_ix ix_list (pv 2) pe_int (fun _ _ => rfl)) pa_nil)))))) (pss_one (ps_asg (pe_op op_cat (pe_callTy call_list_of (by rfl) T.list (by decide +kernel) (pa_cons (pe_ix ix_list (pv 2) pe_int (fun _ _ => rfl)) pa_nil)) (pe_lst (pa_cons pe_int pa_nil))) (pg_sub (pv 2) pe_int set_list))) pss_nil)
      (Evl.pss_cut (ps_if (PW.pt (pw_and (pt_cmpR op_eq (pv 4) pe_int (nomark _)) (pw_and (pt_val (pe_own GL (hr.mono (by decide)) pass0 (pa_cons (pe_ix ix_list (pv 2) pe_int (fun _ _ => rfl)) pa_nil))) (pw_and1 (pt_cmpR op_gt (pe_callB call_len_seq (by rfl) T.len (by decide +kernel) (pa_cons (pe_ix ix_list (pv 2) pe_int (fun _ _ => rfl)) pa_nil)) pe_int (nomark _)))))) (pss_cons (ps_asg (pe_callTy call_list_of (by rfl) T.list (by decide +kernel) (pa_cons (pe_ix ix_list (pv 2) pe_int (fun _ _ => rfl)) pa_nil)) (pg_sub (pv 2) pe_int set_list))
        (pss_one (ps_asg (pe_ix ix_list (pe_lst (pa_cons pe_int (pa_cons (pe_un un_neg pe_int) (pa_cons pe_bl (pa_cons pe_non (pa_cons pe_str pa_nil)))))) (pe_own GT (hr.mono (by decide)) pass0 (pa_cons (pv 0) (pa_cons pe_int pa_nil))) (fun _ _ => rfl)) (pg_sub (pe_ix ix_list (pv 2) pe_int (fun _ _ => rfl)) (pe_own GT (hr.mono (by decide)) pass0 (pa_cons (pv 0) (pa_cons (pe_callB call_len_seq (by rfl) T.len (by decide +kernel) (pa_cons (pe_ix ix_list (pv 2) pe_int (fun _ _ => rfl)) pa_nil)) pa_nil))) set_list)))) pss_nil)
      (Evl.pss_cut (ps_if (PW.pt (pw_and (pt_cmpR op_eq (pv 4) pe_int (nomark _)) (pw_and1 (pt_val (pe_own GL (hr.mono (by decide)) pass0 (pa_cons (pe_ix ix_list (pv 2) pe_int (fun _ _ => rfl)) pa_nil)))))) (pss_one (ps_asg (pe_ifExp (pt_cmpR op_eq (pe_own GT (hr.mono (by decide)) pass0 (pa_cons (pv 0) (pa_cons pe_int pa_nil))) pe_int (nomark _)) (pe_slice sl_list (pe_callTy call_list_of (by rfl) T.list (by decide +kernel) (pa_cons (pe_ix ix_list (pv 2) pe_int (fun _ _ => rfl)) pa_nil)) (po_some pe_int) po_none) (pe_op op_cat (pe_callTy call_list_of (by rfl) T.list (by decide +kernel) (pa_cons (pe_ix ix_list (pv 2) pe_int (fun _ _ => rfl)) pa_nil)) (pe_lst (pa_cons (pe_lst pa_nil) pa_nil)))) (pg_sub (pv 2) pe_int set_list))) pss_nil)
      (pss_one (ps_if (PW.pt (pw_and (pt_cmpR op_eq (pv 4) pe_int (nomark _)) (pw_and (pt_val (pe_own GL (hr.mono (by decide)) pass0 (pa_cons (pe_ix ix_list (pv 2) pe_int (fun _ _ => rfl)) pa_nil))) (pw_and1 (pt_cmpR op_gt (pe_callB call_len_seq (by rfl) T.len (by decide +kernel) (pa_cons (pe_ix ix_list (pv 2) pe_int (fun _ _ => rfl)) pa_nil)) pe_int (nomark _)))))) (pss_cons (ps_set (i := 5) scBent.nd rfl (Or.inl rfl) (pe_own GT (hr.mono (by decide)) pass0 (pa_cons (pv 0) (pa_cons (pe_callB call_len_seq (by rfl) T.len (by decide +kernel) (pa_cons (pe_ix ix_list (pv 2) pe_int (fun _ _ => rfl)) pa_nil)) pa_nil))))
        (pss_cons (ps_asg (pe_callTy call_list_of (by rfl) T.list (by decide +kernel) (pa_cons (pe_ix ix_list (pv 2) pe_int (fun _ _ => rfl)) pa_nil)) (pg_sub (pv 2) pe_int set_list))
        (pss_one (ps_asg (pe_ifExp (pt_cmpR op_lt (pv 5) (pe_callB call_len_seq (by rfl) T.len (by decide +kernel) (pa_cons (pe_ix ix_list (pv 1) pe_int (fun _ _ => rfl)) pa_nil)) (nomark _)) (pe_own GB (hr.mono (by decide)) pass0 (pa_cons (pv 0) (pa_cons (pe_ix ix_list (pe_ix ix_list (pv 1) pe_int (fun _ _ => rfl)) (pv 5) (fun _ _ => rfl)) pa_nil))) (pe_own GO (hr.mono (by decide)) pass0 (pa_cons (pv 0) pa_nil))) (pg_sub (pe_ix ix_list (pv 2) pe_int (fun _ _ => rfl)) (pv 5) set_list))))) pss_nil)))))))))
    (pss_one (ps_ret (pv 2))))), ?_⟩
    obtain ⟨D, rfl, hD0, A2, A3, us2, us3, hD, h2, l2, h3, l3⟩ : ∃ D, v = .ref D ∧ D ≠ p ∧ ∃ A2 A3 us2 us3, H D = some (.lst [.str x, .int qq, .ref A2, .ref A3]) ∧ (del H p) A2 = some (.lst us2) ∧ AnyL (del H p) us2 (ss.map natD) ∧ (del H p) A3 = some (.lst us3) ∧ AnyL (del H p) us3 (ms.map sheetD) := by
      cases an with
      | lst e al =>
        rename_i D xs
        have Dp : D ≠ p := fun z => by rw [z, del_same] at e; cases e
        rw [del_ne Dp] at e
        cases al with
        | cons x1 r1 =>
          cases x1
          cases r1 with
          | cons x2 r2 =>
            cases x2
            cases r2 with
            | cons x3 r3 =>
              cases r3 with
              | cons x4 r4 =>
                cases r4
                cases x3 with
                | lst e3 al3 =>
                  cases x4 with
                  | lst e4 al4 => exact ⟨_, rfl, Dp, _, _, _, _, e, e3, al3, e4, al4⟩
    have A2p : A2 ≠ p := fun z => by rw [z, del_same] at h2; cases h2
    have A3p : A3 ≠ p := fun z => by rw [z, del_same] at h3; cases h3
    have g2 : H A2 = some (.lst us2) := by rw [del_ne A2p] at h2; exact h2
    have g3 : H A3 = some (.lst us3) := by rw [del_ne A3p] at h3; exact h3
    have lss : (ss.map natD).length ≤ 5 := by rw [List.length_map, dr.sl]; have := px.l; omega
    have lms : (ms.map sheetD).length ≤ 4 := by rw [List.length_map, dr.ml]; have := px.l; omega
    have pss : ∀ e, e ∈ ss.map natD → Cell e := fun e he => by
      obtain ⟨s', hs, rfl⟩ := List.mem_map.mp he
      have := dr.sb s' hs
      exact cell_int (Nat.lt_of_le_of_lt (by omega : (s' : Int).natAbs ≤ 10) (by decide))
    have pms := draft_sheet dr hq (by decide)
    -- the list of the four parts
    refine ⟨_, rfl, D, _, _, _, rfl, rfl, SqL.of hD, atI_nat (j := 0) rfl, ?_⟩
    refine ⟨_, rfl, D, _, _, _, rfl, rfl, SqL.of hD, atI_nat (j := 1) rfl, ?_⟩
    refine ⟨_, rfl, D, _, _, _, rfl, rfl, SqL.of hD, atI_nat (j := 2) rfl, A2, us2, rfl, .inl (SqL.of g2), fun Lb hLb => ?_⟩
    have k1 := same_new (o := .lst us2) hLb
    refine ⟨_, rfl, D, _, _, _, rfl, rfl, SqL.of (k1 _ _ hD), atI_nat (j := 3) rfl, A3, us3, rfl, .inl (SqL.of (k1 _ _ g3)), fun Lc hLc => ?_⟩
    have k2 := same_new (o := .lst us3) hLc
    refine ⟨by show 4 ≤ sizeLine; decide, fun F hF => ?_⟩
    have k3 := same_new (o := .lst [.str x, .int qq, .ref Lb, .ref Lc]) hF
    have K3 := (k1.trans k2).trans k3
    have nF : H F = none := (k1.trans k2).free hF
    have nL3 : H Lc = none := k1.free hLc
    have L23 : Lb ≠ Lc := fun z => by rw [← z, upd_same] at hLc; cases hLc
    have L2F : Lb ≠ F := fun z => by
      have e2 := k2 _ _ (show upd H Lb (.lst us2) Lb = some (.lst us2) from upd_same)
      rw [← z, e2] at hF; cases hF
    have L3F : Lc ≠ F := fun z => by
      rw [← z, upd_same] at hF; cases hF
    have of1 := off_from nF (Grow.of (p := p) K3)
    have fn : Fnd H _ p F n 5 4 := ⟨Grow.of K3, bx.keep K3, nF, _, _, _, _, _, _, _, _, upd_same, .str x, .int qq,
      .lst (by unfold off; rw [del_ne L2F, del_ne (bx.ne hLb).symm]; exact k3 _ _ (k2 _ _ upd_same)) (anyL_keep of1 l2),
      .lst (by unfold off; rw [del_ne L3F, del_ne (bx.ne nL3).symm]; exact k3 _ _ upd_same) (anyL_keep of1 l3),
      str_t (by have := px.l; omega) (arr_small px.a), tq_int (Nat.lt_trans (by omega : qq.natAbs < 20) (by decide)), siz_list (by decide) lss pss, map_list (by decide) lms pms⟩
    generalize upd (upd (upd H Lb (.lst us2)) Lc (.lst us3)) F (.lst [.str x, .int qq, .ref Lb, .ref Lc]) = H3 at K3 of1 fn ⊢
    refine ⟨_, rfl, p, 2, n, rfl, by decide, by decide, fn.bx, by omega, fun r1 H4 r10 r11 G4 B4 => ?_⟩
    have fn4 := fn.grow bx G4 B4
    refine ⟨_, _, rfl, rfl, _, rfl, ?_, ?_, ?_⟩
    · omega
    · omega
    have hm : (1 + r1).toNat ≤ 2 := by omega
    refine for_range (lo := 0) (n := _) (fun i σ' H' => (∃ x3 x4 x5, σ' = [some (.ref p), some (.ref D), some (.ref F), x3, x4, x5]) ∧ Fnd H H' p F (n + 1 + 300 * i) (5 + i) (4 + i)) ⟨⟨_, _, _, rfl⟩, fn4⟩ ?_ ?_
    rotate_left
    · rintro σ' H' ⟨⟨x3, x4, x5, rfl⟩, fe⟩
      refine ⟨_, rfl, ?_⟩
      obtain ⟨d, td, ad⟩ := (fe.more (a' := 7) (b' := 6) (Nat.le_refl _) (by omega) (by omega)).thing bx
      exact q _ d _ td ad fe.g (fe.bx.more (by omega))
    clear fn4 fn G4 B4 hF hLb hLc k1 k2 k3 of1
    rintro i σ' H5 hi ⟨⟨x3, x4, x5, rfl⟩, f5⟩
    have hi2 : i < 2 := Nat.lt_of_lt_of_le hi (by omega)
    refine ⟨_, rfl, p, 8, _, rfl, by decide, by decide, f5.bx, by omega, fun wy H6 w0 w1 G6 B6 => ?_⟩
    obtain ⟨way, rfl⟩ : ∃ j : Nat, wy = (j : Int) := ⟨wy.toNat, by omega⟩
    have f6 := f5.grow bx G6 B6
    -- one part is odd
    refine ⟨fun σ' H' => (∃ y5, σ' = [some (.ref p), some (.ref D), some (.ref F), some (.int (0 + (i : Int))), some (.int (way : Int)), y5]) ∧ Fnd H H' p F (n + 1 + 300 * i + 10) (5 + i) (4 + i), ?_, ?_⟩
    · refine ⟨_, rfl, _, _, rfl, rfl, _, rfl, ite2 (fun z => ?_) (fun z => ⟨⟨_, rfl⟩, f6.more (by omega) (Nat.le_refl _) (Nat.le_refl _)⟩)⟩
      have w4 : way < 4 := by
        have := of_decide_eq_true z
        omega
      refine ⟨_, rfl, p, _, rfl, f6.bx, by omega, fun v d H7 hd an7 G7 B7 => ?_⟩
      have f7 := f6.grow bx G7 B7
      obtain ⟨us, e7, l7, p7⟩ := f7.odd bx (by omega) (by omega) hd (an7.keep (nw_off B6.some f6.here)) w4
      exact ⟨_, rfl, _, rfl, F, us, _, way, rfl, rfl, e7, ixn (by omega), ⟨_, rfl⟩, p7.more (by omega) (Nat.le_refl _) (Nat.le_refl _)⟩
    clear f5 f6 G6 B6
    rintro σ' H5 ⟨⟨y5, rfl⟩, f5⟩
    -- another pattern
    refine ⟨fun σ' H' => (∃ y5, σ' = [some (.ref p), some (.ref D), some (.ref F), some (.int (0 + (i : Int))), some (.int (way : Int)), y5]) ∧ Fnd H H' p F (n + 1 + 300 * i + 20) (5 + i) (4 + i), ?_, ?_⟩
    · refine ⟨_, rfl, rfl, _, rfl, ite2 (fun z => ?_) (fun z => iteF ⟨⟨_, rfl⟩, f5.more (by omega) (Nat.le_refl _) (Nat.le_refl _)⟩)⟩
      refine ⟨_, rfl, p, 2, _, rfl, by decide, by decide, f5.bx, by omega, fun r6 H6 r60 r61 G6 B6 => ?_⟩
      have f6 := f5.grow bx G6 B6
      have e6 : H6 D = some (.lst [.str x, .int qq, .ref A2, .ref A3]) := f6.g _ _ hD0 hD
      refine ⟨rfl, _, rfl, ite2 (fun z2 => ?_) (fun z2 => ⟨⟨_, rfl⟩, f6.more (by omega) (Nat.le_refl _) (Nat.le_refl _)⟩)⟩
      refine ⟨">", 7, rfl, rfl, ⟨by decide, fun _ _ => by decide +kernel, fun _ _ => by decide +kernel⟩, ?_⟩
      refine ⟨_, rfl, D, _, _, _, rfl, rfl, SqL.of e6, atI_nat (j := 0) rfl, x, "=", rfl, rfl, (by have := px.l; show x.length + 1 ≤ _; exact Nat.le_trans (by omega : _ ≤ 100) (by decide)), ?_⟩
      refine ⟨_, rfl, D, _, _, _, rfl, rfl, SqL.of e6, atI_nat (j := 0) rfl, x, ">", rfl, rfl, (by have := px.l; show x.length + 1 ≤ _; exact Nat.le_trans (by omega : _ ≤ 100) (by decide)), ?_⟩
      refine ⟨_, rfl, D, _, _, _, rfl, rfl, SqL.of e6, atI_nat (j := 0) rfl, 1, rfl, x, rfl, (by have := px.l; exact Nat.le_trans (by omega : _ ≤ 100) (by decide)), ?_⟩
      refine ⟨by show 5 ≤ sizeLine; decide, fun l1 hl1 => ?_⟩
      have k1 := same_new (o := .lst [.str (Txt.mul ">" 7), .str (x ++ "="), .str (x ++ ">"), .str (cutS x (some 1) none), .str "< "]) hl1
      refine ⟨_, rfl, p, 5, _, rfl, by decide, by decide, B6.keep k1, by omega, fun r7 H7 r70 r71 G7 B7 => ?_⟩
      obtain ⟨i1, rfl⟩ : ∃ i1 : Nat, r7 = (i1 : Int) := ⟨r7.toNat, by omega⟩
      have f7 := (f6.grow bx (Grow.of k1) (B6.keep k1)).grow bx G7 B7
      have nl1 : l1 ≠ p := (B6.ne hl1).symm
      have pr : ∃ v d, ([.str (Txt.mul ">" 7), .str (x ++ "="), .str (x ++ ">"), .str (cutS x (some 1) none), .str "< "] : List V)[i1]? = some v ∧ (∀ H, Any H v d) ∧ StrT d := by
        rcases (by omega : i1 = 0 ∨ i1 = 1 ∨ i1 = 2 ∨ i1 = 3 ∨ i1 = 4) with e | e | e | e | e <;> subst e
        · exact ⟨_, _, rfl, fun _ => .str _, str_t (by decide +kernel) (by decide +kernel)⟩
        · exact ⟨_, _, rfl, fun _ => .str _, str_app_t px (by decide) (by decide)⟩
        · exact ⟨_, _, rfl, fun _ => .str _, str_app_t px (by decide) (by decide)⟩
        · exact ⟨_, _, rfl, fun _ => .str _, str_cut_t px _ _⟩
        · exact ⟨_, _, rfl, fun _ => .str _, str_t (by decide +kernel) (by decide +kernel)⟩
      obtain ⟨v, d, pv, pa, pt⟩ := pr
      obtain ⟨us, e7, l7, p7⟩ := f7.str bx pt (pa _)
      refine ⟨l1, _, _, v, rfl, rfl, SqL.of (G7 _ _ nl1 upd_same), atI_nat pv, ?_⟩
      exact ⟨_, rfl, F, us, _, 0, rfl, rfl, e7, ixn (by rw [l7]; decide), ⟨_, rfl⟩, p7.more (by omega) (Nat.le_refl _) (Nat.le_refl _)⟩
    clear f5
    rintro σ' H5 ⟨⟨y5, rfl⟩, f5⟩
    -- one size more
    refine ⟨fun σ' H' => (∃ y5, σ' = [some (.ref p), some (.ref D), some (.ref F), some (.int (0 + (i : Int))), some (.int (way : Int)), y5]) ∧ Fnd H H' p F (n + 1 + 300 * i + 20) (6 + i) (4 + i), ?_, ?_⟩
    · refine ⟨_, rfl, rfl, _, rfl, ite2 (fun z => ?_) (fun z => iteF ⟨⟨_, rfl⟩, f5.more (by omega) (by omega) (Nat.le_refl _)⟩)⟩
      obtain ⟨us, u, d, e5, l5, i5, a5, s5⟩ := f5.at2
      refine ⟨_, rfl, F, _, _, u, rfl, rfl, SqL.of e5, atI_nat (j := 2) i5, u, d, rfl, a5.keep off_sub, fun H6 k6 => ?_⟩
      have B6 := f5.bx.keep k6
      have f6 := f5.grow bx (Grow.of k6) B6
      have e6 := k6 _ _ e5
      cases es : isSeqD d with
      | false => exact ⟨_, rfl, iteF ⟨⟨_, rfl⟩, f6.more (by omega) (by omega) (Nat.le_refl _)⟩⟩
      | true =>
        refine ⟨_, rfl, iteT ?_⟩
        obtain ⟨k, a, xs, rfl, hs, al⟩ := seq_of a5 es
        have sa : Same (off p F H5) H6 := off_sub.trans k6
        refine ⟨_, rfl, F, _, _, _, rfl, rfl, SqL.of e6, atI_nat (j := 2) i5, a, xs, rfl, (hs sa K).or, fun L hL => ?_⟩
        have k7 := same_new (o := .lst xs) hL
        have lx := anyL_len al
        have sl := s5.l
        refine ⟨by show 1 ≤ sizeLine; decide, fun q1 h1 => ?_⟩
        have k8 := same_new (o := .lst [.int 0]) h1
        refine ⟨L, q1, xs, [.int 0], rfl, rfl, k8 _ _ upd_same, upd_same, Nat.le_trans (by show xs.length + 1 ≤ 100; omega) (by decide), fun q2 h2' => ?_⟩
        have k9 := same_new (o := .lst (xs ++ [.int 0])) h2'
        have K9 := (k7.trans k8).trans k9
        have B9 := B6.keep K9
        have f9 := f6.grow bx (Grow.of K9) B9
        have of9 : Same (off p F H5) (off p F (upd (upd (upd H6 L (.lst xs)) q1 (.lst [.int 0])) q2 (.lst (xs ++ [.int 0])))) := off_same fun x o _ _ ex => K9 _ _ (k6 _ _ ex)
        have q2F : q2 ≠ F := fun z => f6.here ((k7.trans k8).free (by rw [← z]; exact h2'))
        have q2p : q2 ≠ p := fun z => B6.some ((k7.trans k8).free (by rw [← z]; exact h2'))
        obtain ⟨us', e9, l9, p9⟩ := f9.siz bx (a' := 6 + i) (v := .ref q2) (d := .list (itemsD d ++ [.int 0])) (siz_list (by omega) (by rw [List.length_append]; show _ + 1 ≤ _; omega) fun e he => by
          rcases List.mem_append.mp he with z | z
          · exact s5.c e z
          · rw [List.mem_singleton.mp z]; exact cell_int (by decide)) (.lst (by unfold off; rw [del_ne q2F, del_ne q2p, upd_same]) (anyL_snoc (anyL_keep of9 al) (.int 0)))
        exact ⟨_, rfl, F, us', _, 2, rfl, rfl, e9, ixn (by rw [l9]; decide), ⟨_, rfl⟩, p9.more (by omega) (Nat.le_refl _) (Nat.le_refl _)⟩
    clear f5
    rintro σ' H5 ⟨⟨y5, rfl⟩, f5⟩
    -- another size
    refine ⟨fun σ' H' => (∃ y5, σ' = [some (.ref p), some (.ref D), some (.ref F), some (.int (0 + (i : Int))), some (.int (way : Int)), y5]) ∧ Fnd H H' p F (n + 1 + 300 * i + 30) (6 + i) (4 + i), ?_, ?_⟩
    · refine ⟨_, rfl, rfl, _, rfl, ite2 (fun z => ?_) (fun z => iteF ⟨⟨_, rfl⟩, f5.more (by omega) (by omega) (Nat.le_refl _)⟩)⟩
      obtain ⟨us, u, d, e5, l5, i5, a5, s5⟩ := f5.at2
      refine ⟨_, rfl, F, _, _, u, rfl, rfl, SqL.of e5, atI_nat (j := 2) i5, u, d, rfl, a5.keep off_sub, fun H6 k6 => ?_⟩
      have B6 := f5.bx.keep k6
      have f6 := f5.grow bx (Grow.of k6) B6
      have e6 := k6 _ _ e5
      cases es : isSeqD d with
      | false => exact ⟨_, rfl, iteF (iteF ⟨⟨_, rfl⟩, f6.more (by omega) (by omega) (Nat.le_refl _)⟩)⟩
      | true =>
        refine ⟨_, rfl, iteT ?_⟩
        obtain ⟨k, a, xs, rfl, hs, al⟩ := seq_of a5 es
        have sa : Same (off p F H5) H6 := off_sub.trans k6
        have lx := anyL_len al
        have sl := s5.l
        refine ⟨_, rfl, F, _, _, _, rfl, rfl, SqL.of e6, atI_nat (j := 2) i5, a, xs, rfl, (hs sa K).or, _, _, rfl, rfl, _, rfl, ite2 (fun z2 => ?_) (fun z2 => ⟨⟨_, rfl⟩, f6.more (by omega) (by omega) (Nat.le_refl _)⟩)⟩
        have xp : 0 < xs.length := by
          have := of_decide_eq_true z2
          omega
        refine ⟨_, rfl, F, _, _, _, rfl, rfl, SqL.of e6, atI_nat (j := 2) i5, a, xs, rfl, (hs sa K).or, fun L hL => ?_⟩
        have k7 := same_new (o := .lst xs) hL
        have LF : L ≠ F := fun z => f6.here (by rw [← z]; exact hL)
        have Lp : L ≠ p := fun z => B6.some (by rw [← z]; exact hL)
        have pF := bx.ne f6.new
        refine ⟨_, rfl, F, us, _, 2, rfl, rfl, k7 _ _ e6, ixn (by rw [l5]; decide), ?_⟩
        -- the new thing
        have B8 : Bx (upd (upd H6 L (.lst xs)) F (.lst (us.set 2 (.ref L)))) p (n + 1 + 300 * i + 20) := by
          obtain ⟨c1, c2, c3, h1, rest⟩ := B6
          exact ⟨c1, c2, c3, by rw [upd_ne pF]; exact k7 _ _ h1, rest⟩
        have e8 : (upd (upd H6 L (.lst xs)) F (.lst (us.set 2 (.ref L)))) F = some (.lst (us.set 2 (.ref L))) := upd_same
        have eL8 : (upd (upd H6 L (.lst xs)) F (.lst (us.set 2 (.ref L)))) L = some (.lst xs) := by rw [upd_ne LF, upd_same]
        have kk8 : ∀ x o, x ≠ p → x ≠ F → H6 x = some o → (upd (upd H6 L (.lst xs)) F (.lst (us.set 2 (.ref L)))) x = some o := fun x o n1 n2 ex => by
          rw [upd_ne n2]; exact k7 _ _ ex
        generalize upd (upd H6 L (.lst xs)) F (.lst (us.set 2 (.ref L))) = H8 at B8 e8 eL8 kk8 ⊢
        refine ⟨_, rfl, by show 5 ≤ sizeLine; decide, fun l1 hl1 => ?_⟩
        have k9 := same_new (o := .lst [.int 7, .int (-1), .bl true, .non, .str "1"]) hl1
        refine ⟨_, rfl, p, 5, _, rfl, by decide, by decide, B8.keep k9, by omega, fun r9 H9 r90 r91 G9 B9 => ?_⟩
        obtain ⟨i1, rfl⟩ : ∃ i1 : Nat, r9 = (i1 : Int) := ⟨r9.toNat, by omega⟩
        have nl1 : l1 ≠ p := (B8.ne hl1).symm
        have pr : ∃ v d, ([.int 7, .int (-1), .bl true, .non, .str "1"] : List V)[i1]? = some v ∧ (∀ H, Any H v d) ∧ Cell d := by
          have cc : ∀ e ∈ oddL, Cell e := odd_cell
          rcases (by omega : i1 = 0 ∨ i1 = 1 ∨ i1 = 2 ∨ i1 = 3 ∨ i1 = 4) with e | e | e | e | e <;> subst e
          · exact ⟨_, _, rfl, fun _ => .int _, cell_int (by decide)⟩
          · exact ⟨_, _, rfl, fun _ => .int _, cell_int (by decide)⟩
          · exact ⟨_, _, rfl, fun _ => .bl _, cc _ (by unfold oddL; simp)⟩
          · exact ⟨_, _, rfl, fun _ => .non, cc _ (by unfold oddL; simp)⟩
          · exact ⟨_, _, rfl, fun _ => .str _, cc _ (by unfold oddL; simp)⟩
        obtain ⟨v, dv, pv, pa, pc⟩ := pr
        refine ⟨l1, _, _, v, rfl, rfl, SqL.of (G9 _ _ nl1 upd_same), atI_nat pv, ?_⟩
        have e9 := G9 _ _ pF.symm (k9 _ _ e8)
        have eL9 := G9 _ _ Lp (k9 _ _ eL8)
        have kk9 : ∀ x o, x ≠ p → x ≠ F → H6 x = some o → H9 x = some o := fun x o n1 n2 ex => G9 _ _ n1 (k9 _ _ (kk8 x o n1 n2 ex))
        refine ⟨_, rfl, F, _, _, .ref L, rfl, rfl, SqL.of e9, atI_nat (j := 2) (by rw [List.getElem?_set_self (by omega)]), ?_⟩
        refine ⟨_, rfl, _, rfl, F, _, _, .ref L, rfl, rfl, SqL.of e9, atI_nat (j := 2) (by rw [List.getElem?_set_self (by omega)]), L, xs, rfl, .inl (SqL.of eL9), p, _, _, rfl, by omega, by omega, B9, by omega, fun r4 H10 s0 s1 G10 B10 => ?_⟩
        obtain ⟨j, rfl⟩ : ∃ j : Nat, r4 = (j : Int) := ⟨r4.toNat, by omega⟩
        have e10 := G10 _ _ pF.symm e9
        have eL10 := G10 _ _ Lp eL9
        have kk10 : ∀ x o, x ≠ p → x ≠ F → H6 x = some o → H10 x = some o := fun x o n1 n2 ex => G10 _ _ n1 (kk9 x o n1 n2 ex)
        refine ⟨L, xs, _, j, rfl, rfl, eL10, ixn (by omega), ⟨_, rfl⟩, ?_⟩
        have al10 : AnyL (off p F (upd H10 L (.lst (xs.set j v)))) xs (itemsD d) := anyL_keep ((off_same fun x o _ _ ex => k6 _ _ ex).trans (off_put (H1 := H6) hL kk10)) al
        exact (f6.in2 bx e6 hL kk10 e10 B10 (anyL_set al10 (pa _)) (siz_list (by omega) (by rw [List.length_set]; omega) fun e he => by
          rcases List.mem_or_eq_of_mem_set he with z | z
          · exact s5.c e z
          · rw [z]; exact pc)).more (by omega) (Nat.le_refl _) (Nat.le_refl _)
    clear f5
    rintro σ' H5 ⟨⟨y5, rfl⟩, f5⟩
    -- a matrix less, or more
    refine ⟨fun σ' H' => (∃ y5, σ' = [some (.ref p), some (.ref D), some (.ref F), some (.int (0 + (i : Int))), some (.int (way : Int)), y5]) ∧ Fnd H H' p F (n + 1 + 300 * i + 40) (6 + i) (5 + i), ?_, ?_⟩
    · refine ⟨_, rfl, rfl, _, rfl, ite2 (fun z => ?_) (fun z => iteF ⟨⟨_, rfl⟩, f5.more (by omega) (by omega) (by omega)⟩)⟩
      obtain ⟨us, u, d, e5, l5, i5, a5, s5⟩ := f5.at3
      refine ⟨_, rfl, F, _, _, u, rfl, rfl, SqL.of e5, atI_nat (j := 3) i5, u, d, rfl, a5.keep off_sub, fun H6 k6 => ?_⟩
      have B6 := f5.bx.keep k6
      have f6 := f5.grow bx (Grow.of k6) B6
      have e6 := k6 _ _ e5
      cases es : isSeqD d with
      | false => exact ⟨_, rfl, iteF ⟨⟨_, rfl⟩, f6.more (by omega) (by omega) (by omega)⟩⟩
      | true =>
        refine ⟨_, rfl, iteT ?_⟩
        obtain ⟨k, a, xs, rfl, hs, al⟩ := seq_of a5 es
        have lx := anyL_len al
        have sl := s5.l
        refine ⟨_, rfl, p, 2, _, rfl, by decide, by decide, B6, by omega, fun r7 H7 r70 r71 G7 B7 => ?_⟩
        have f7 := f6.grow bx G7 B7
        have e7 := G7 _ _ (bx.ne f6.new).symm e6
        have so7 : Same (off p F H5) (off p F H7) := off_same fun x o n1 _ ex => G7 _ _ n1 (k6 _ _ ex)
        have sa7 : Same (off p F H5) H7 := so7.trans off_sub
        refine ⟨rfl, _, rfl, ite2 (fun z2 => ?_) (fun z2 => ?_)⟩
        · refine ⟨_, rfl, F, _, _, _, rfl, rfl, SqL.of e7, atI_nat (j := 3) i5, a, xs, rfl, (hs sa7 K).or, fun L hL => ?_⟩
          have k8 := same_new (o := .lst xs) hL
          refine ⟨1, rfl, L, xs, rfl, SqL.of upd_same, fun q1 h1 => ?_⟩
          have k9 := same_new (o := .lst (cutV xs (some 1) none)) h1
          have K9 := k8.trans k9
          have f9 := f7.grow bx (Grow.of K9) (B7.keep K9)
          have q1F : q1 ≠ F := fun z => f7.here (k8.free (by rw [← z]; exact h1))
          have q1p : q1 ≠ p := fun z => B7.some (k8.free (by rw [← z]; exact h1))
          have of9 : Same (off p F H5) (off p F (upd (upd H7 L (.lst xs)) q1 (.lst (cutV xs (some 1) none)))) := so7.trans (off_same fun x o _ _ ex => K9 _ _ ex)
          obtain ⟨us', e9, l9, p9⟩ := f9.map bx (b' := 5 + i) (v := .ref q1) (d := .list (((itemsD d).drop (HT.sIx xs.length 0 (some 1))).take (HT.sIx xs.length xs.length none - HT.sIx xs.length 0 (some 1)))) (map_list (by omega) (by rw [List.length_take, List.length_drop]; omega) fun e he => s5.c e (List.mem_of_mem_drop (List.mem_of_mem_take he))) (.lst (by unfold off; rw [del_ne q1F, del_ne q1p]; exact upd_same) (anyL_take _ (anyL_drop _ (anyL_keep of9 al))))
          exact ⟨_, rfl, F, us', _, 3, rfl, rfl, e9, ixn (by rw [l9]; decide), ⟨_, rfl⟩, p9.more (by omega) (Nat.le_refl _) (Nat.le_refl _)⟩
        · refine ⟨_, rfl, F, _, _, _, rfl, rfl, SqL.of e7, atI_nat (j := 3) i5, a, xs, rfl, (hs sa7 K).or, fun L hL => ?_⟩
          have k8 := same_new (o := .lst xs) hL
          refine ⟨by show 0 ≤ sizeLine; decide, fun q0 h0 => ⟨by show 1 ≤ sizeLine; decide, fun q1 h1 => ?_⟩⟩
          have k9 := same_new (o := .lst []) h0
          have k10 := same_new (o := .lst [.ref q0]) h1
          refine ⟨L, q1, xs, [.ref q0], rfl, rfl, k10 _ _ (k9 _ _ upd_same), upd_same, Nat.le_trans (by show xs.length + 1 ≤ 100; omega) (by decide), fun q2 h2' => ?_⟩
          have k11 := same_new (o := .lst (xs ++ [.ref q0])) h2'
          have K10 := (k8.trans k9).trans k10
          have K11 := K10.trans k11
          have f9 := f7.grow bx (Grow.of K11) (B7.keep K11)
          have q2F : q2 ≠ F := fun z => f7.here (K10.free (by rw [← z]; exact h2'))
          have q2p : q2 ≠ p := fun z => B7.some (K10.free (by rw [← z]; exact h2'))
          have q0F : q0 ≠ F := fun z => f7.here (k8.free (by rw [← z]; exact h0))
          have q0p : q0 ≠ p := fun z => B7.some (k8.free (by rw [← z]; exact h0))
          have of9 : Same (off p F H5) (off p F (upd (upd (upd (upd H7 L (.lst xs)) q0 (.lst [])) q1 (.lst [.ref q0])) q2 (.lst (xs ++ [.ref q0])))) := so7.trans (off_same fun x o _ _ ex => K11 _ _ ex)
          obtain ⟨us', e9, l9, p9⟩ := f9.map bx (b' := 5 + i) (v := .ref q2) (d := .list (itemsD d ++ [.list []])) (map_list (by omega) (by rw [List.length_append]; show _ + 1 ≤ _; omega) fun e he => by
            rcases List.mem_append.mp he with z | z
            · exact s5.c e z
            · rw [List.mem_singleton.mp z]; exact sheet_list (by decide) fun _ y => (nomatch y)) (.lst (by unfold off; rw [del_ne q2F, del_ne q2p, upd_same]) (anyL_snoc (anyL_keep of9 al) (.lst (by unfold off; rw [del_ne q0F, del_ne q0p]; exact k11 _ _ (k10 _ _ upd_same)) .nil)))
          exact ⟨_, rfl, F, us', _, 3, rfl, rfl, e9, ixn (by rw [l9]; decide), ⟨_, rfl⟩, p9.more (by omega) (Nat.le_refl _) (Nat.le_refl _)⟩
    clear f5
    rintro σ' H5 ⟨⟨y5, rfl⟩, f5⟩
    -- another matrix
    refine ⟨_, rfl, rfl, _, rfl, ite2 (fun z => ?_) (fun z => iteF ⟨⟨_, _, _, rfl⟩, f5.more (by omega) (by omega) (by omega)⟩)⟩
    obtain ⟨us, u, d, e5, l5, i5, a5, s5⟩ := f5.at3
    refine ⟨_, rfl, F, _, _, u, rfl, rfl, SqL.of e5, atI_nat (j := 3) i5, u, d, rfl, a5.keep off_sub, fun H6 k6 => ?_⟩
    have B6 := f5.bx.keep k6
    have f6 := f5.grow bx (Grow.of k6) B6
    have e6 := k6 _ _ e5
    cases es : isSeqD d with
    | false => exact ⟨_, rfl, iteF (iteF ⟨⟨_, _, _, rfl⟩, f6.more (by omega) (by omega) (by omega)⟩)⟩
    | true =>
      refine ⟨_, rfl, iteT ?_⟩
      obtain ⟨k, a, xs, rfl, hs, al⟩ := seq_of a5 es
      have lx := anyL_len al
      have sl := s5.l
      have sa6 : Same (off p F H5) H6 := off_sub.trans k6
      have pF := bx.ne f6.new
      refine ⟨_, rfl, F, _, _, _, rfl, rfl, SqL.of e6, atI_nat (j := 3) i5, a, xs, rfl, (hs sa6 K).or, _, _, rfl, rfl, _, rfl, ite2 (fun z2 => ?_) (fun z2 => ⟨⟨_, _, _, rfl⟩, f6.more (by omega) (by omega) (by omega)⟩)⟩
      have xp : 0 < xs.length := by
        have := of_decide_eq_true z2
        omega
      refine ⟨_, rfl, _, rfl, F, _, _, _, rfl, rfl, SqL.of e6, atI_nat (j := 3) i5, a, xs, rfl, (hs sa6 K).or, p, _, _, rfl, by omega, by omega, B6, by omega, fun r7 H7 r70 r71 G7 B7 => ?_⟩
      obtain ⟨j, rfl⟩ : ∃ j : Nat, r7 = (j : Int) := ⟨r7.toNat, by omega⟩
      have f7 := f6.grow bx G7 B7
      have e7 := G7 _ _ pF.symm e6
      have so7 : Same (off p F H5) (off p F H7) := off_same fun x o n1 _ ex => G7 _ _ n1 (k6 _ _ ex)
      refine ⟨_, rfl, F, _, _, _, rfl, rfl, SqL.of e7, atI_nat (j := 3) i5, a, xs, rfl, (hs (so7.trans off_sub : Same (off p F H5) H7) K).or, fun L hL => ?_⟩
      have k7 := same_new (o := .lst xs) hL
      have LF : L ≠ F := fun z => f7.here (by rw [← z]; exact hL)
      have Lp : L ≠ p := fun z => B7.some (by rw [← z]; exact hL)
      refine ⟨_, rfl, F, us, _, 3, rfl, rfl, k7 _ _ e7, ixn (by rw [l5]; decide), ?_⟩
      have B8 : Bx (upd (upd H7 L (.lst xs)) F (.lst (us.set 3 (.ref L)))) p (n + 1 + 300 * i + 40 + 1) := by
        obtain ⟨c1, c2, c3, h1, rest⟩ := B7
        exact ⟨c1, c2, c3, by rw [upd_ne pF]; exact k7 _ _ h1, rest⟩
      have e8 : (upd (upd H7 L (.lst xs)) F (.lst (us.set 3 (.ref L)))) F = some (.lst (us.set 3 (.ref L))) := upd_same
      have eL8 : (upd (upd H7 L (.lst xs)) F (.lst (us.set 3 (.ref L)))) L = some (.lst xs) := by rw [upd_ne LF, upd_same]
      have kk8 : ∀ x o, x ≠ p → x ≠ F → H7 x = some o → (upd (upd H7 L (.lst xs)) F (.lst (us.set 3 (.ref L)))) x = some o := fun x o n1 n2 ex => by
        rw [upd_ne n2]; exact k7 _ _ ex
      have gr8 : Grow p H (upd (upd H7 L (.lst xs)) F (.lst (us.set 3 (.ref L)))) := fun x o n1 ex => kk8 x o n1 (ne_of_none ex f7.new) (f7.g x o n1 ex)
      generalize upd (upd H7 L (.lst xs)) F (.lst (us.set 3 (.ref L))) = H8 at B8 e8 eL8 kk8 gr8 ⊢
      have eD8 := gr8 _ _ hD0 hD
      have fin : ∀ (v : V) (dv : PyData) (H9 : Hp) (c : Nat), c ≤ n + 1 + 300 * i + 200 → SheetT dv → Any (nw H8 H9) v dv → Grow p H8 H9 → Bx H9 p c →
          gSub (tOp (rIxL K) (tVar 2) (tC (.int 3))) (tVar 5) rSetL v [some (V.ref p), some (V.ref D), some (V.ref F), some (V.int (0 + (i : Int))), some (V.int (way : Int)), some (V.int (j : Int))] H9 (fun σ' H' => (∃ x3 x4 x5, σ' = [some (V.ref p), some (V.ref D), some (V.ref F), x3, x4, x5]) ∧ Fnd H H' p F (n + 1 + 300 * (i + 1)) (5 + (i + 1)) (4 + (i + 1))) := by
        intro v dv H9 c hc sd an G9 B9
        have e9 := G9 _ _ pF.symm e8
        have eL9 := G9 _ _ Lp eL8
        have kk9 : ∀ x o, x ≠ p → x ≠ F → H7 x = some o → H9 x = some o := fun x o n1 n2 ex => G9 _ _ n1 (kk8 x o n1 n2 ex)
        refine ⟨_, rfl, F, _, _, .ref L, rfl, rfl, SqL.of e9, atI_nat (j := 3) (by rw [List.getElem?_set_self (by omega)]), ?_⟩
        refine ⟨_, rfl, L, xs, _, j, rfl, rfl, eL9, ixn (by omega), ⟨_, _, _, rfl⟩, ?_⟩
        have al9 : AnyL (off p F (upd H9 L (.lst (xs.set j v)))) xs (itemsD d) := anyL_keep (so7.trans (off_put (H1 := H7) hL kk9)) al
        have av := an.keep (nw_offput (p := p) (F := F) (L := L) (o := .lst (xs.set j v)) B8.some (by rw [e8]; exact fun y => by cases y) (by rw [eL8]; exact fun y => by cases y))
        exact (f7.in3 bx e7 hL kk9 e9 B9 (anyL_set al9 av) (map_list (k := 5 + i) (by omega) (by rw [List.length_set]; omega) fun e he => by
          rcases List.mem_or_eq_of_mem_set he with z | z
          · exact s5.c e z
          · rw [z]; exact sd)).more (by omega) (by omega) (by omega)
      have g83 := gr8 _ _ A3p g3
      have l33 := anyL_len l3
      refine ⟨_, rfl, _, rfl, D, _, _, _, rfl, rfl, SqL.of eD8, atI_nat (j := 3) rfl, A3, us3, rfl, .inl (SqL.of g83), _, _, rfl, rfl, _, rfl, ite2 (fun z3 => ?_) (fun z3 => ?_)⟩
      · have hj : j < us3.length := by
          have := of_decide_eq_true z3
          omega
        have ej : us3[j]? = some us3[j] := List.getElem?_eq_getElem hj
        obtain ⟨dm, hdm, adm⟩ := anyL_at l3 ej
        rw [List.getElem?_map] at hdm
        obtain ⟨m, hm1, rfl⟩ : ∃ m, ms[j]? = some m ∧ dm = sheetD m := by
          cases e : ms[j]? with
          | none => rw [e] at hdm; cases hdm
          | some m => rw [e] at hdm; exact ⟨m, rfl, (Option.some.inj hdm).symm⟩
        refine ⟨_, rfl, _, rfl, D, _, _, _, rfl, rfl, SqL.of eD8, atI_nat (j := 3) rfl, _, rfl, A3, us3, _, us3[j], rfl, rfl, SqL.of g83, atI_nat ej, ?_⟩
        refine ⟨p, us3[j], _, _, _, qq, m, rfl, adm.keep gr8.del, dr.mo j m hm1, hq, ?_, ?_, B8, by omega, fun v dv H9 sd an9 G9 B9 => fin v dv H9 _ (by omega) sd an9 G9 B9⟩
        · have := get_le dr.sb (stA x j); omega
        · have := get_le dr.sb (goA x j); omega
      · refine ⟨_, rfl, p, _, rfl, B8, by omega, fun v dv H9 hd an9 G9 B9 => fin v dv H9 _ (by omega) (odd_sheet hd) an9 G9 B9⟩
end
end K11

set_option Elab.async false
set_option linter.all false
set_option maxRecDepth 100000
set_option maxHeartbeats 8000000
/-! K11M: the law. -/
namespace Rw
open PySem PySem.Spec PyProof.Rows L2
theorem _root_.L2.Same.grow {p : Addr} {H H1 H2 : Hp} (s : Same H H1) (hp : H p = none) (g : Grow p H1 H2) : Same H H2 := fun b o e => g b o (ne_of_none e hp) (s b o e)
theorem str_same (a : Str) : decide (V.str a = V.str a) = true := decide_eq_true rfl
theorem tq_ok {n : Nat} {d : PyData} (h : Tq n d) (l : n ≤ 4) : d.showable = true ∧ d.depth ≤ 60 ∧ d.shown.length ≤ sizeLine := by
  have h6 := h.up l
  exact ⟨h.sh, by have := h6.dp; omega, Nat.le_trans h6.ln (by decide +kernel)⟩
theorem tq_short {x : Str} (h : (reprText x).length ≤ 80) : Tq 0 (.str x) := ⟨by simp only [PyData.showable], by simp only [PyData.depth]; omega, by simp only [PyData.shown]; exact h⟩
theorem tq_w {n : Nat} {x : Str} {d : PyData} (hx : (reprText x).length ≤ 80) (h : Tq n d) : Tq (n + 1) (wD x d) := tq_list (by show 2 ≤ 12; decide) (by
  intro e he
  rcases List.mem_cons.mp he with z | z
  · rw [z]; exact (tq_short hx).up (Nat.zero_le _)
  · rw [List.mem_singleton.mp z]; exact h)
theorem passN {X : Cx} : Passes (L2.CX X.prog X.w) X E0 := fun _ _ _ _ _ _ _ h => by
  obtain ⟨_, _, _, _, _, _, _, _, _, _, _, _, z⟩ := h
  exact z.elim
theorem SizT.fit {k : Nat} {d : PyData} (s : SizT k d) : (itemsD d).length ≤ k := s.l
theorem map_fit {k : Nat} {d : PyData} (s : MapT k d) (h : k ≤ 100) : FitM d := ⟨Nat.le_trans s.l (by omega), fun e he => (s.c e he).f⟩
theorem thing_fit {d0 d2 d3 : PyData} (s0 : StrT d0) (s2 : SizT 7 d2) (s3 : MapT 6 d3) : RowFit d0 d2 d3 := ⟨s0.sh, Nat.le_trans s2.l (by decide), map_fit s3 (by decide)⟩
theorem tq_rowDue {d0 d1 d2 d3 : PyData} (s0 : StrT d0) (s1 : Tq 0 d1) (s2 : SizT 7 d2) (s3 : MapT 6 d3) : Tq 4 (rowDue d0 d1 d2 d3) := by
  unfold rowDue
  split
  · split
    · split
      · split
        · split
          · refine (tq_w (by decide +kernel) ?_).up (by decide : 3 ≤ 4)
            rename_i i hi
            unfold atD
            cases e : (itemsD d3)[i]? with
            | none => exact (⟨by decide, by decide, by decide +kernel⟩ : Tq 0 PyData.none).up (Nat.zero_le _)
            | some dd => exact (s3.c _ (List.mem_of_getElem? e)).tm.q
          · refine (tq_w (by decide +kernel) (tq_int (n := (((strD d0).length + 1 : Nat) : Int)) ?_)).up (by decide : 1 ≤ 4)
            have : (strD d0).length ≤ 1000 := by
              cases d0 with
              | str x => exact s0.sh x rfl
              | _ => exact Nat.zero_le _
            exact Nat.lt_of_le_of_lt (by omega : _ ≤ 1001) (by decide)
        · exact tq_w (by decide +kernel) s3.tm
      · exact (tq_w (by decide +kernel) s2.tm).up (by decide)
    · exact (tq_w (by decide +kernel) s1).up (by decide)
  · exact (tq_w (by decide +kernel) s0.tm).up (by decide)
theorem pat_of {d : PyData} (h : isPatD d = true) : ∃ x, d = .str x ∧ x.length ≤ 6 := by
  cases d with
  | str x =>
    refine ⟨x, rfl, ?_⟩
    have h2 : (decide (x.length ≤ 6) && x.cps.toList.all isArr) = true := h
    rw [Bool.and_eq_true] at h2
    exact of_decide_eq_true h2.1
  | _ => cases h
theorem barsL_len : ∀ k, k ≤ 7 → (barsL k).length ≤ 100 := by decide +kernel
theorem tq_barsDue {d : PyData} (s : StrT d) : Tq 1 (barsDue d) := by
  unfold barsDue
  cases e : isPatD d with
  | false => exact tq_w (by decide +kernel) s.tm
  | true =>
    obtain ⟨x, rfl, h6⟩ := pat_of e
    refine tq_w (by decide +kernel) (tq_int ?_)
    have := barsL_len (x.length + 1) (by omega)
    show (((barsL (x.length + 1)).length : Nat) : Int).natAbs < _
    exact Nat.lt_of_le_of_lt (by omega : _ ≤ 100) (by decide)
theorem tq_thing {d : PyData} (h : ThingT d) : Tq 4 d := by
  obtain ⟨d0, d1, d2, d3, rfl, s0, s1, s2, s3⟩ := h.ex
  refine tq_list (by show 4 ≤ 12; decide) fun e he => ?_
  rcases List.mem_cons.mp he with z | he
  · rw [z]; exact s0.tm.up (by decide)
  rcases List.mem_cons.mp he with z | he
  · rw [z]; exact s1.up (by decide)
  rcases List.mem_cons.mp he with z | he
  · rw [z]; exact s2.tm.up (by decide)
  · rw [List.mem_singleton.mp he]; exact s3.tm
theorem noL_mats (ms : List (List (List Int))) : noL (.tuple ((ms.map fun m => m.map tupI).map .tuple)) = true := by
  show noLs _ = true
  refine noLs_of fun d hd => ?_
  rw [List.map_map] at hd
  obtain ⟨m, _, rfl⟩ := List.mem_map.mp hd
  show noLs (m.map tupI) = true
  refine noLs_of fun e he => ?_
  obtain ⟨r, _, rfl⟩ := List.mem_map.mp he
  exact noL_tupI r
theorem noL_nats (ss : List Nat) : noL (.tuple (ss.map natD)) = true := by
  show noLs _ = true
  refine noLs_of fun d hd => ?_
  obtain ⟨n, _, rfl⟩ := List.mem_map.mp hd
  rfl
theorem row_away {C a p : Addr} {H : Hp} {n : Nat} {x : Str} {q : Int} {ss : List Nat} {ms : List (List (List Int))} (b : Bx H p n) (r : RowAt C H a x q (ss.map natD) (ms.map fun m => m.map tupI)) : RowAt C (del H p) a x q (ss.map natD) (ms.map fun m => m.map tupI) := by
  obtain ⟨dx, ts, tm, h1, h2, h3⟩ := r
  obtain ⟨b1, b2, b3, hp, _⟩ := b
  refine ⟨dx, ts, tm, ?_, any_noL hp _ _ h2 (noL_nats ss), any_noL hp _ _ h3 (noL_mats ms)⟩
  rw [del_ne (fun z => by rw [z, hp] at h1; cases h1)]
  exact h1
def PlaceT (d : PyData) : Prop := Tq 0 d
theorem inB_no {d l h : PyData} (e : isIntD d = false) : inB d l h = false := by
  cases d with
  | int n => cases e
  | _ => rfl
theorem place_in {k : Nat} {n : Int} : inB (.int n) (.int 0) (.int ((k : Nat) - 1 : Int)) = true ↔ 0 ≤ n ∧ n < k := by
  show (aboveD n (.int 0) && belowD n (.int ((k : Nat) - 1 : Int))) = true ↔ _
  rw [Bool.and_eq_true]
  show (decide _ = true ∧ decide _ = true) ↔ _
  rw [decide_eq_true_iff, decide_eq_true_iff]
  omega
end Rw
namespace K11
open PySem PySem.Spec PyProof.Rows L2 Rw
abbrev sLaw : Stmt := top 55
abbrev NLaw : List Str := ["_law_script", "_law_k", "_law_box_here", "_law_draft_here", "_law_turn", "_law_thing", "_law_shown", "_law_told", "_law_wished", "_law_due_here", "_law_row_here", "_law_many", "_law_place"]
theorem scLaw : FnScope NLaw ["_law_script"] (defScope sLaw) := ⟨rfl, rfl, rfl, by decide +kernel, rfl, by decide +kernel, by decide +kernel⟩
def spLaw (K : PySem.W.Frag) : Sp := fun vs H Q _ => ∃ (a : Addr) (ns : List Int), vs = [.ref a] ∧ SqL K H a (ns.map V.int) ∧ ns.length ≤ 63 ∧ ∀ H', Q (.bl true) H'
structure Olaw (P : Program) (w : World) (K : PySem.W.Frag) (mg : Str → Option Value) (base : Heap) (C : Addr) : Prop where
  cell : Own P w K mg base CX0 1 "_law_cell" ["_law_script", "_law_k"] [] (spCellR K)
  box : Own P w K mg base CX0 1 "_law_box" ["_law_cell_here"] [] spBoxR
  pat : Own P w K mg base CX0 2 "_law_pattern" ["_law_box_here", "_law_most"] [] spPatR
  prime : Own P w K mg base CX0 2 "_law_prime" ["_law_box_here"] [] spPrimeR
  draft : Own P w K mg base CX0 3 "_law_draft" ["_law_box_here", "_law_arrows", "_law_p", "_law_most"] [] spDraft
  bent : Own P w K mg base CX0 4 "_law_bent" ["_law_box_here", "_law_draft_here"] [] spBent
  caught : Own P w K mg base CX0 8 "_law_caught" ["_law_thing"] [] spDueR
  due : Own P w K mg base CX0 3 "_law_due" ["_law_thing"] [] spDueR
  isPat : Own P w K mg base CX0 1 "is_pattern" ["value"] [] spPat
  arr : Own P w K mg base CX0 1 "_law_is_arrows" ["_law_thing"] [] spPat
  barsL : Own P w K mg base CX0 1 "_law_bars" ["_law_arrows"] [] spBarsN
  barsC : Own P w K mg base CX0 6 "_law_bars_caught" ["_law_arrows"] [] spBarsC
  row : Own P w K mg base (L2.CX P w) 8 "_law_row" ["_law_draft_here"] [] (spRowL C)
  odd : Own P w K mg base CX0 2 "_law_odd" ["_law_box_here"] [] spOddN
  whole : Own P w K mg base CX0 1 "_law_whole" ["_law_thing"] [] spWholeR
  matC : Own P w K mg base CX0 6 "_law_matrix_caught" ["_law_row_here", "_law_k"] [] (spMatC C)
structure Zs (mg : Str → Option Value) : Prop where
  range : mg "range" = none
  repr : mg "repr" = none
  max : mg "max" = none
  min : mg "min" = none
  len : mg "len" = none
section
variable {P : Program} {w : World} {K : PySem.W.Frag} {mg : Str → Option Value} {base : Heap} {C : Addr}
set_option pp.maxSteps 400 in
theorem okLaw {f : Addr} {fd : FuncData} (F : Fun K "law" "law" sLaw f fd) (Z : Zs mg) (O : Olaw P w K mg base C) : FnG P w K mg base CX0 10 f fd ["_law_script"] (spLaw K) := by
  refine funG F scLaw (fun vs H Q E h => ?_) (fun cdv A outer s H vs Q E gu hr h => ?_)
  · obtain ⟨a, ns, rfl, _⟩ := h
    rfl
  · obtain ⟨a, ns, rfl, hs, hlen, q⟩ := h
    refine ⟨_, (pss_cons (ps_for PassesOwn.never rfl (pi_range1 rfl Z.range (pa_cons (pe_callB (call_max2 rfl) (by rfl) Z.max (by decide +kernel) (pa_cons pe_int (pa_cons (pe_callB (call_min2 rfl) (by rfl) Z.min (by decide +kernel) (pa_cons pe_int (pa_cons (pe_callB call_len_seq (by rfl) Z.len PySem.boot_len (pa_cons (pv 0) pa_nil)) pa_nil))) pa_nil))) pa_nil)) (pg_name (i := 1) scLaw.nd rfl (Or.inl rfl)) (pss_cons (ps_set (i := 2) scLaw.nd rfl (Or.inl rfl) (pe_own O.box (hr.mono (by decide)) pass0 (pa_cons (pe_own O.cell (hr.mono (by decide)) pass0 (pa_cons (pv 0) (pa_cons (pv 1) pa_nil))) pa_nil)))
      (pss_cons (ps_set (i := 3) scLaw.nd rfl (Or.inl rfl) (pe_own O.draft (hr.mono (by decide)) pass0 (pa_cons (pv 2) (pa_cons (pe_own O.pat (hr.mono (by decide)) pass0 (pa_cons (pv 2) (pa_cons pe_int pa_nil))) (pa_cons (pe_own O.prime (hr.mono (by decide)) pass0 (pa_cons (pv 2) pa_nil)) (pa_cons pe_int pa_nil))))))
      (pss_cons (ps_for PassesOwn.never rfl (pi_range1 rfl Z.range (pa_cons pe_int pa_nil)) (pg_name (i := 4) scLaw.nd rfl (Or.inl rfl)) (pss_cons (ps_set (i := 5) scLaw.nd rfl (Or.inl rfl) (pe_own O.bent (hr.mono (by decide)) pass0 (pa_cons (pv 2) (pa_cons (pv 3) pa_nil))))
        (pss_cons (ps_set (i := 6) scLaw.nd rfl (Or.inl rfl) (pe_callB (call_repr gu hr.units) (by rfl) Z.repr (by decide +kernel) (pa_cons (pv 5) pa_nil)))
        (pss_cons (ps_par (i := 7) (j := 8) (by rfl) scLaw.nd rfl rfl (by decide) rfl rfl (pa_cons (pe_own O.caught (hr.mono (by decide)) pass0 (pa_cons (pv 5) pa_nil)) (pa_cons (pe_own O.due (hr.mono (by decide)) pass0 (pa_cons (pv 5) pa_nil)) pa_nil)) (by rfl))
        (pss_cons (ps_if (pt_cmpR op_ne (pe_callB (call_repr gu hr.units) (by rfl) Z.repr (by decide +kernel) (pa_cons (pv 7) pa_nil)) (pe_callB (call_repr gu hr.units) (by rfl) Z.repr (by decide +kernel) (pa_cons (pv 8) pa_nil)) (nomark _)) (pss_one (ps_ret pe_bl)) pss_nil)
        (pss_cons (ps_if (PW.pt (pw_or (pt_cmpR op_ne (pe_callB call_reprB (by rfl) Z.repr (by decide +kernel) (pa_cons (pe_own O.isPat (hr.mono (by decide)) pass0 (pa_cons (pe_ix ix_list (pv 5) pe_int (fun _ _ => rfl)) pa_nil)) pa_nil)) (pe_callB call_reprB (by rfl) Z.repr (by decide +kernel) (pa_cons (pe_own O.arr (hr.mono (by decide)) pass0 (pa_cons (pe_ix ix_list (pv 5) pe_int (fun _ _ => rfl)) pa_nil)) pa_nil)) (nomark _)) (pw_or1 (pt_cmpR op_ne (pe_callB (call_repr gu hr.units) (by rfl) Z.repr (by decide +kernel) (pa_cons (pv 5) pa_nil)) (pv 6) (nomark _))))) (pss_one (ps_ret pe_bl)) pss_nil)
        (pss_cons (ps_set (i := 9) scLaw.nd rfl (Or.inl rfl) (pe_lst (pa_cons pe_str (pa_cons (pe_ix ix_list (pv 5) pe_int (fun _ _ => rfl)) pa_nil))))
        (Evl.pss_cut (ps_if (pt_val (pe_own O.arr (hr.mono (by decide)) pass0 (pa_cons (pe_ix ix_list (pv 5) pe_int (fun _ _ => rfl)) pa_nil))) (pss_one (ps_set (i := 9) scLaw.nd rfl (Or.inl rfl) (pe_lst (pa_cons pe_str (pa_cons (pe_callB call_len_seq (by rfl) Z.len PySem.boot_len (pa_cons (pe_own O.barsL (hr.mono (by decide)) pass0 (pa_cons (pe_ix ix_list (pv 5) pe_int (fun _ _ => rfl)) pa_nil)) pa_nil)) pa_nil))))) pss_nil)
        (pss_one (ps_if (pt_cmpR op_ne (pe_callB (call_repr gu hr.units) (by rfl) Z.repr (by decide +kernel) (pa_cons (pe_own O.barsC (hr.mono (by decide)) pass0 (pa_cons (pe_ix ix_list (pv 5) pe_int (fun _ _ => rfl)) pa_nil)) pa_nil)) (pe_callB (call_repr gu hr.units) (by rfl) Z.repr (by decide +kernel) (pa_cons (pv 9) pa_nil)) (nomark _)) (pss_one (ps_ret pe_bl)) pss_nil))))))))))
      (pss_cons (ps_par (i := 10) (j := 11) (by rfl) scLaw.nd rfl rfl (by decide) rfl rfl (pa_cons (pe_own O.row (hr.mono (by decide)) passN (pa_cons (pv 3) pa_nil)) (pa_cons (pe_callB call_len_str (by rfl) Z.len PySem.boot_len (pa_cons (pe_ix ix_list (pv 3) pe_int (fun _ _ => rfl)) pa_nil)) pa_nil)) (by rfl))
      (pss_one (ps_for PassesOwn.never rfl (pi_list (pe_lst (pa_cons (pe_un un_neg pe_int) (pa_cons (pv 11) (pa_cons pe_bl (pa_cons pe_non (pa_cons pe_str (pa_cons pe_int (pa_cons (pe_own O.odd (hr.mono (by decide)) pass0 (pa_cons (pv 2) pa_nil)) pa_nil))))))))) (pg_name (i := 12) scLaw.nd rfl (Or.inl rfl)) (pss_cons (ps_set (i := 9) scLaw.nd rfl (Or.inl rfl) (pe_lst (pa_cons pe_str (pa_cons (pv 12) pa_nil))))
        (Evl.pss_cut (ps_if (PW.pt (pw_and (pt_val (pe_own O.whole (hr.mono (by decide)) pass0 (pa_cons (pv 12) pa_nil))) (pw_and1 (pt_chain op_le op_lt pe_int (pv 12) (pv 11))))) (pss_one (ps_set (i := 9) scLaw.nd rfl (Or.inl rfl) (pe_lst (pa_cons pe_str (pa_cons (pe_ix ix_list (pe_ix ix_list (pv 3) pe_int (fun _ _ => rfl)) (pv 12) (fun _ _ => rfl)) pa_nil))))) pss_nil)
        (pss_one (ps_if (pt_cmpR op_ne (pe_callB (call_repr gu hr.units) (by rfl) Z.repr (by decide +kernel) (pa_cons (pe_own O.matC (hr.mono (by decide)) pass0 (pa_cons (pv 10) (pa_cons (pv 12) pa_nil))) pa_nil)) (pe_callB (call_repr gu hr.units) (by rfl) Z.repr (by decide +kernel) (pa_cons (pv 9) pa_nil)) (nomark _)) (pss_one (ps_ret pe_bl)) pss_nil)))))))))))
    (pss_one (ps_ret pe_bl))), ?_⟩
    refine ⟨_, rfl, a, _, rfl, .inl hs, _, _, rfl, _, _, rfl, _, rfl, ?_, ?_, ?_⟩
    · split <;> split <;> omega
    · split <;> split <;> omega
    have hn8 : (if (if ((ns.map V.int).length : Int) < 8 then ((ns.map V.int).length : Int) else 8) > 2 then (if ((ns.map V.int).length : Int) < 8 then ((ns.map V.int).length : Int) else 8) else 2).toNat ≤ 8 := by
      split <;> split <;> omega
    refine for_range (lo := 0) (n := _) (fun i σ' H' => (∃ x1 x2 x3 x4 x5 x6 x7 x8 x9 x10 x11 x12, σ' = [some (.ref a), x1, x2, x3, x4, x5, x6, x7, x8, x9, x10, x11, x12]) ∧ Same H H') ⟨⟨_, _, _, _, _, _, _, _, _, _, _, _, rfl⟩, Same.refl _⟩ ?_ ?_
    · rintro i σ' Hs hi ⟨⟨x1, x2, x3, x4, x5, x6, x7, x8, x9, x10, x11, x12, rfl⟩, S⟩
      have hi8 : i < 8 := Nat.lt_of_lt_of_le hi hn8
      refine ⟨_, rfl, _, rfl, a, ns, i, (by rw [Int.zero_add] <;> rfl), S.seq hs, by omega, fun z => ⟨z, rfl, fun p Hb hp sm bx => ?_⟩⟩
      -- the draft
      refine ⟨_, rfl, _, rfl, p, 0, 4, rfl, by decide, bx, by omega, fun x H1 px G1 B1 => ?_⟩
      refine ⟨_, rfl, p, _, rfl, B1, by omega, fun qq H2 hq G2 B2 => ?_⟩
      refine ⟨p, _, 3, x, qq, rfl, ⟨Nat.le_trans px.l (by decide), px.a⟩, hq, by decide, B2, by omega, fun D H3 ss ms dr G3 B3 aD => ?_⟩
      obtain ⟨D', w0, w1, w2, w3, eD', eD3, y0, y1, y2, y3⟩ := any_list4 aD
      cases eD'
      cases y0
      have px6 : Pat x 6 := ⟨Nat.le_trans px.l (by decide), px.a⟩
      have G0 := (G1.trans G2).trans G3
      clear G1 G2 G3 B1 B2
      refine ⟨_, rfl, by decide, by decide, ?_⟩
      refine for_range (lo := 0) (n := 4) (fun j σ' H' => (∃ x4 x5 x6 x7 x8 x9 x10 x11 x12, σ' = [some (.ref a), some (.int (0 + (i : Int))), some (.ref p), some (.ref D), x4, x5, x6, x7, x8, x9, x10, x11, x12]) ∧ Grow p H3 H' ∧ Bx H' p (2000 + 1000 * j)) ⟨⟨_, _, _, _, _, _, _, _, _, rfl⟩, Grow.refl, B3.more (by omega)⟩ ?_ ?_
      · rintro j σ' Ht hj ⟨⟨x4, x5, x6, x7, x8, x9, x10, x11, x12, rfl⟩, gt, bt⟩
        have hj4 : j < 4 := hj
        refine ⟨_, rfl, _, rfl, p, _, _, x, qq, ss, ms, rfl, aD.keep gt.del, dr, px, hq, bt, by omega, fun v d H4 td ad G4 B4 => ?_⟩
        obtain ⟨t1, t2, t3⟩ := tq_ok (tq_thing td) (Nat.le_refl _)
        obtain ⟨d0, d1, d2, d3, rfl, s0, s1, s2, s3⟩ := td.ex
        have gg := gt.trans G4
        have an : Any H4 v (.list [d0, d1, d2, d3]) := ad.keep same_del
        obtain ⟨tF, v0, v1, v2, v3, rfl, eF, a0, a1, a2, a3⟩ := any_list4 an
        have rf := thing_fit s0 s2 s3
        obtain ⟨u1, u2, u3⟩ := tq_ok (tq_rowDue s0 s1 s2 s3) (Nat.le_refl _)
        obtain ⟨w1, w2, w3⟩ := tq_ok (tq_barsDue s0) (by decide)
        -- what is shown
        refine ⟨_, rfl, tF, _, rfl, an, t1, t2, t3, ?_⟩
        -- what is told and what is wished
        refine ⟨_, rfl, _, d0, d1, d2, d3, rfl, an, rf, fun l7 H5 k5 an7 => ⟨_, rfl, _, d0, d1, d2, d3, rfl, an.keep k5, rf, fun l8 H6 k6 an8 => ⟨_, _, rfl, ?_⟩⟩⟩
        refine ⟨_, rfl, l7, _, rfl, an7.keep k6, u1, u2, u3, _, rfl, l8, _, rfl, an8, u1, u2, u3, rfl, _, rfl, ?_⟩
        rw [str_same]
        refine iteF ?_
        have K6 := k5.trans k6
        have e6 := K6 _ _ eF
        -- patterns
        refine ⟨_, rfl, tF, _, _, v0, rfl, rfl, SqL.of e6, atI_nat (j := 0) rfl, v0, d0, rfl, a0.keep K6, s0.sh, fun H7 k7 => ⟨_, rfl, ?_⟩⟩
        have K7 := K6.trans k7
        refine ⟨_, rfl, tF, _, _, v0, rfl, rfl, SqL.of (K7 _ _ eF), atI_nat (j := 0) rfl, v0, d0, rfl, a0.keep K7, s0.sh, fun H8 k8 => ⟨_, rfl, rfl, _, rfl, ?_⟩⟩
        rw [str_same]
        refine iteF ?_
        have K8 := K7.trans k8
        refine ⟨_, rfl, tF, _, rfl, an.keep K8, t1, t2, t3, _, rfl, rfl, _, rfl, ?_⟩
        rw [str_same]
        refine iteF ?_
        -- bars
        refine ⟨_, rfl, tF, _, _, v0, rfl, rfl, SqL.of (K8 _ _ eF), atI_nat (j := 0) rfl, by show 2 ≤ sizeLine; decide, fun q1 h1 => ?_⟩
        have k9 := same_new (o := .lst [.str "pattern", v0]) h1
        have K9 := K8.trans k9
        have aq1 : Any _ (.ref q1) (wD "pattern" d0) := pair_any h1 (a0.keep K8)
        refine ⟨fun σ' H' => ∃ l9, σ' = [some (.ref a), some (.int (0 + (i : Int))), some (.ref p), some (.ref D), some (.int (0 + (j : Int))), some (.ref tF), some (.str (PyData.list [d0, d1, d2, d3]).shown), some (.ref l7), some (.ref l8), some (.ref l9), x10, x11, x12] ∧ Same H4 H' ∧ Any H' (.ref l9) (barsDue d0), ?_, ?_⟩
        · refine ⟨_, rfl, tF, _, _, v0, rfl, rfl, SqL.of (K9 _ _ eF), atI_nat (j := 0) rfl, v0, d0, rfl, a0.keep K9, s0.sh, fun H10 k10 => ⟨_, rfl, ?_⟩⟩
          have K10 := K9.trans k10
          cases ep : isPatD d0 with
          | false =>
            refine iteF ⟨q1, rfl, K10, ?_⟩
            unfold barsDue
            rw [ep]
            exact aq1.keep k10
          | true =>
            refine iteT ?_
            obtain ⟨y, rfl, h6⟩ := pat_of ep
            cases a0
            refine ⟨_, rfl, tF, _, _, .str y, rfl, rfl, SqL.of (K10 _ _ eF), atI_nat (j := 0) rfl, y, rfl, h6, fun l acc H11 hl k11 e11 al => ?_⟩
            have ll := anyL_len al
            rw [List.length_map] at ll
            refine ⟨l, acc, rfl, .inl (SqL.of e11), by show 2 ≤ sizeLine; decide, fun q2 h2 => ?_⟩
            refine ⟨q2, rfl, (K10.trans k11).trans (same_new h2), ?_⟩
            unfold barsDue
            rw [ep, ll]
            exact pair_any h2 (.int _)
        rintro σ' H9' ⟨l9, rfl, K9', al9⟩
        refine ⟨_, rfl, tF, _, _, v0, rfl, rfl, SqL.of (K9' _ _ eF), atI_nat (j := 0) rfl, v0, d0, rfl, a0.keep K9', s0.sh, fun l10 H10 k10 an10 => ?_⟩
        refine ⟨l10, _, rfl, an10, w1, w2, w3, _, rfl, l9, _, rfl, al9.keep k10, w1, w2, w3, rfl, _, rfl, ?_⟩
        rw [str_same]
        have KK := K9'.trans k10
        exact iteF ⟨⟨_, _, _, _, _, _, _, _, _, rfl⟩, gg.trans (Grow.of KK), (B4.keep KK).more (by omega)⟩
      · rintro σ' H4 ⟨⟨x4, x5, x6, x7, x8, x9, x10, x11, x12, rfl⟩, g4, b4⟩
        have aD4 : Any H4 (.ref D) (draftD x qq ss ms) := (aD.keep g4.del).keep same_del
        refine ⟨_, rfl, .ref D, x, qq, 3, ss, ms, rfl, aD4, dr, px6, hq, by decide, fun R H5 hR k5 rw5 => ?_⟩
        refine ⟨_, rfl, D, _, _, _, rfl, rfl, SqL.of (k5 _ _ (same_del _ _ (g4.del _ _ eD3))), atI_nat (j := 0) rfl, x, rfl, (by have := px.l; exact Nat.le_trans (by omega : _ ≤ 100) (by decide)), _, _, rfl, ?_⟩
        have B5 := b4.keep k5
        -- the places
        refine ⟨_, rfl, _, rfl, _, rfl, p, _, rfl, B5, by omega, fun v d H6 hd an6 G6 B6 => ?_⟩
        refine ⟨by show 7 ≤ sizeLine; decide, fun q1 h1 => ?_⟩
        have k1 := same_new (o := .lst [.int (-1), .int (x.length : Nat), .bl true, .non, .str "0", .int 0, v]) h1
        have alp : AnyL (upd H6 q1 (.lst [.int (-1), .int (x.length : Nat), .bl true, .non, .str "0", .int 0, v])) [.int (-1), .int (x.length : Nat), .bl true, .non, .str "0", .int 0, v] [.int (-1), .int (x.length : Nat), .bool true, .none, .str "0", .int 0, d] :=
          .cons (.int _) (.cons (.int _) (.cons (.bl _) (.cons .non (.cons (.str _) (.cons (.int _) (.cons ((an6.keep nw_sub).keep k1) .nil))))))
        have tqp : ∀ e, e ∈ ([.int (-1), .int (x.length : Nat), .bool true, .none, .str "0", .int 0, d] : List PyData) → Tq 0 e := by
          intro e he
          simp only [List.mem_cons, List.not_mem_nil, or_false] at he
          rcases he with z | z | z | z | z | z | z <;> subst z
          · exact tq_int (by decide)
          · exact tq_int (Nat.lt_of_le_of_lt (by have := px.l; omega : _ ≤ 100) (by decide))
          · exact ⟨by decide, by decide, by decide +kernel⟩
          · exact ⟨by decide, by decide, by decide +kernel⟩
          · exact ⟨by decide, by decide, by decide +kernel⟩
          · exact tq_int (by decide)
          · exact (odd_cell _ hd).tm.q
        have G61 := G6.trans (Grow.of (p := p) k1)
        have r6 : RowAt C _ R x qq _ _ := ((row_away B5 rw5).keep G61.del).keep same_del
        have G37 : Grow p H3 _ := (g4.trans (Grow.of k5)).trans G61
        have eq1 : (upd H6 q1 (.lst [.int (-1), .int (x.length : Nat), .bl true, .non, .str "0", .int 0, v])) q1 = some (.lst [.int (-1), .int (x.length : Nat), .bl true, .non, .str "0", .int 0, v]) := upd_same
        refine ⟨q1, rfl, ⟨_, SqL.of eq1⟩, ?_⟩
        generalize upd H6 q1 (.lst [.int (-1), .int (x.length : Nat), .bl true, .non, .str "0", .int 0, v]) = H7 at alp G61 r6 G37 eq1 ⊢
        have eD7 := same_del _ _ (G37.del _ _ eD3)
        have y7 := (y3.keep G37.del).keep same_del
        obtain ⟨A3, us3, rfl, e3, al3⟩ : ∃ A xs, w3 = .ref A ∧ H7 A = some (.lst xs) ∧ AnyL H7 xs (ms.map sheetD) := by
          cases y7 with
          | lst e al => exact ⟨_, _, rfl, e, al⟩
        have l3 := anyL_len al3
        rw [List.length_map, dr.ml] at l3
        have lm : (ms.map fun m => m.map tupI).length = x.length := by rw [List.length_map, dr.ml]
        refine for_list (K := K) (a := q1) (xs := [.int (-1), .int (x.length : Nat), .bl true, .non, .str "0", .int 0, v]) (fun j σ' H' => (∃ x9 x12, σ' = [some (.ref a), some (.int (0 + (i : Int))), some (.ref p), some (.ref D), x4, x5, x6, x7, x8, x9, some (.ref R), some (.int (x.length : Nat)), x12]) ∧ Same H7 H') ⟨⟨_, _, rfl⟩, Same.refl _⟩ (fun j σ' H' _ h => SqL.of (h.2 _ _ eq1)) ?_ ?_
        · rintro j y σ' H8 hj ⟨⟨x9, x12, rfl⟩, s8⟩
          obtain ⟨e, he, ay⟩ := anyL_at alp hj
          have tq0 := tqp e (List.mem_of_getElem? he)
          refine ⟨_, rfl, by show 2 ≤ sizeLine; decide, fun q2 h2 => ?_⟩
          have k2 := same_new (o := .lst [.str "place", y]) h2
          have aq2 : Any _ (.ref q2) (wD "place" e) := pair_any h2 (ay.keep s8)
          have S2 := s8.trans k2
          let due : PyData := if inB e (.int 0) (.int (((ms.map fun m => m.map tupI).length : Nat) - 1 : Int)) = true then wD "told" (.list ((ms.map fun m => m.map tupI)[(intN e).toNat]?.getD [])) else wD "place" e
          refine ⟨fun σ' H' => ∃ l9, σ' = [some (.ref a), some (.int (0 + (i : Int))), some (.ref p), some (.ref D), x4, x5, x6, x7, x8, some (.ref l9), some (.ref R), some (.int (x.length : Nat)), some y] ∧ Same H7 H' ∧ Any H' (.ref l9) due, ?_, ?_⟩
          · refine ⟨_, rfl, y, e, rfl, ay.keep S2, _, rfl, ?_⟩
            cases ed : isIntD e with
            | false =>
              refine iteF (iteF ⟨q2, rfl, S2, ?_⟩)
              show Any _ _ (if _ then _ else _)
              rw [if_neg (fun z => by rw [inB_no ed] at z; cases z)]
              exact aq2
            | true =>
              obtain ⟨n, rfl, rfl⟩ := int_of ay ed
              have no : ¬(0 ≤ n ∧ n < x.length) → Any _ (.ref q2) due := fun z => by
                show Any _ _ (if _ then _ else _)
                rw [if_neg (fun y => z (by have := place_in.mp y; rw [lm] at this; exact this))]
                exact aq2
              refine iteT ⟨_, rfl, _, _, rfl, rfl, _, rfl, ite2 (fun z1 => ?_) (fun z1 => ⟨_, rfl, iteF ⟨q2, rfl, S2, no fun z => ?_⟩⟩)⟩
              · refine ⟨_, rfl, _, _, rfl, rfl, _, rfl, ite2 (fun z2 => ?_) (fun z2 => ⟨q2, rfl, S2, no fun z => ?_⟩)⟩
                · have g0 : 0 ≤ n := of_decide_eq_true z1
                  have g1 : n < x.length := of_decide_eq_true z2
                  obtain ⟨m, rfl⟩ : ∃ m : Nat, n = (m : Int) := ⟨n.toNat, by omega⟩
                  have hm : m < us3.length := by omega
                  have em : us3[m]? = some us3[m] := List.getElem?_eq_getElem hm
                  obtain ⟨dm, hdm, adm⟩ := anyL_at al3 em
                  refine ⟨_, rfl, D, _, _, _, rfl, rfl, SqL.of (S2 _ _ eD7), atI_nat (j := 3) rfl, _, rfl, A3, us3, _, us3[m], rfl, rfl, SqL.of (S2 _ _ e3), atI_nat em, by show 2 ≤ sizeLine; decide, fun q3 h3 => ⟨q3, rfl, S2.trans (same_new h3), ?_⟩⟩
                  show Any _ _ (if _ then _ else _)
                  rw [if_pos (place_in.mpr ⟨g0, by rw [lm]; exact g1⟩)]
                  have e5 : dm = .list ((ms.map fun m => m.map tupI)[(intN (.int (m : Int))).toNat]?.getD []) := by
                    show dm = .list ((ms.map fun m => m.map tupI)[m]?.getD [])
                    rw [List.getElem?_map] at hdm ⊢
                    cases e7 : ms[m]? with
                    | none => rw [e7] at hdm; cases hdm
                    | some mm => rw [e7] at hdm; exact (Option.some.inj hdm).symm
                  rw [← e5]
                  exact pair_any h3 (adm.keep S2)
                · exact z2 (decide_eq_true z.2)
              · exact z1 (decide_eq_true z.1)
          rintro σ' H9 ⟨l9, rfl, S9, a9⟩
          have tqd : Tq 3 due := by
            show Tq 3 (if _ then _ else _)
            split
            · refine tq_w (by decide +kernel) ?_
              cases e7 : (ms.map fun m => m.map tupI)[(intN e).toNat]? with
              | none => exact ⟨by decide, by decide, by decide +kernel⟩
              | some rows =>
                rw [List.getElem?_map] at e7
                cases e8 : ms[(intN e).toNat]? with
                | none => rw [e8] at e7; cases e7
                | some m =>
                  rw [e8] at e7
                  have e9 := Option.some.inj e7
                  show Tq 2 (.list rows)
                  rw [← e9]
                  exact (draft_sheet dr hq (by decide) (sheetD m) (List.mem_map_of_mem (List.mem_of_getElem? e8))).tm.q
            · exact (tq_w (by decide +kernel) tq0).up (by decide)
          obtain ⟨u1, u2, u3⟩ := tq_ok tqd (by decide)
          refine ⟨_, rfl, _, rfl, R, y, e, x, qq, _, _, rfl, r6.keep S9, ay.keep S9, by rw [lm]; have := px.l; omega, fun l10 H10 k10 an10 => ?_⟩
          refine ⟨l10, due, rfl, an10, u1, u2, u3, _, rfl, l9, due, rfl, a9.keep k10, u1, u2, u3, rfl, _, rfl, ?_⟩
          rw [str_same]
          exact iteF ⟨⟨_, _, rfl⟩, S9.trans k10⟩
        · rintro σ' H8 ⟨⟨x9, x12, rfl⟩, s8⟩
          exact ⟨⟨_, _, _, _, _, _, _, _, _, _, _, _, rfl⟩, S.trans (sm.grow hp ((G0.trans G37).trans (Grow.of s8)))⟩
    · rintro σ' H' ⟨⟨x1, x2, x3, x4, x5, x6, x7, x8, x9, x10, x11, x12, rfl⟩, S⟩
      exact q _
end
end K11

set_option Elab.async false
set_option linter.all false
set_option maxRecDepth 100000
set_option maxHeartbeats 4000000
/-! TkBA: what stands behind the top: methods of a class, written tables, ints, defs with two defaults. -/
namespace Rw
open PySem PySem.Spec PyProof.Rows L2
def MethHere (K : PySem.W.Frag) (C : Addr) (x q : Str) (st : Stmt) : Prop := ∃ f : Addr, PySem.W.findIn K (.ref C) x = some (some (.ref f)) ∧ PySem.W.isFn K (.ref f) = true ∧ DefAt K x q st f
def TabIHere (K : PySem.W.Frag) (x : Str) (d : Addr) (kvs : List (Int × Value)) : Prop := PySem.W.nsIn K mainGlobals x = some (some (.ref d)) ∧ TabI K d kvs
def TabSHere (K : PySem.W.Frag) (w : World) (x : Str) (d : Addr) (kvs : List (Str × Value)) : Prop := PySem.W.nsIn K mainGlobals x = some (some (.ref d)) ∧ TabS K w d kvs
/-- a property of a class -/
def PropHere (K : PySem.W.Frag) (C : Addr) (x q : Str) (st : Stmt) : Prop := ∃ p g : Addr, PropOf K C x p g ∧ DefAt K x q st g
section
variable {K : PySem.W.Frag} {mg : Str → Option Value} {h : Heap}
theorem PropHere.of {C : Addr} {x q : Str} {st : Stmt} {p g : Addr} {rest : List Value} {oc : Value} {od : Option Addr} {kV dc pm : Value} {an : Option Addr} {cd ct : Value} {sl : Array (Option Value)} (a : PySem.W.findIn K (.ref C) x = some (some (.ref p)))
    (ge : PySem.W.specialIn K (.ref p) "__get__" = some (some (.builtin "property.__get__"))) (ta : PySem.W.takesIn K (.ref p) = some true) (re : PySem.W.recIn K p "property" = some (.ref g :: rest))
    (l : K.lookup g = some ⟨oc, od, .func (PySem.W.fnOf x q (defArgs st) (defBody st) (defScope st) .none kV dc pm an cd ct), sl⟩) (c : PySem.W.codeIn K cd q = true) (k : PySem.W.keepIn K (.ref g) = true) : PropHere K C x q st :=
  ⟨p, g, ⟨a, ge, ta, ⟨rest, re⟩⟩, oc, od, kV, dc, pm, an, cd, ct, sl, l, c, k⟩
theorem PropHere.pr {C : Addr} {x q : Str} {st : Stmt} {ps : List Str} (D : PropHere K C x q st)
    (b : ∀ (kV doc pm : Value) (an : Option Addr) (cdv ct : Value) (us : List Value), us.length = ps.length → bindArgs (PySem.W.fnOf x q (defArgs st) (defBody st) (defScope st) .none kV doc pm an cdv ct) ⟨us, []⟩ = pure (ps.zip us)) :
    ∃ (p g : Addr) (fd : FuncData), PropOf K C x p g ∧ Fun K x q st g fd ∧ Binds K fd ps [] := by
  obtain ⟨p, g, hp, oc, od, kV, dc, pm, an, cd, ct, sl, l, c, k⟩ := D
  have F := fun_mk (x := x) (qual := q) (st := st) l c k
  exact ⟨p, g, _, hp, F, F.binds b⟩
theorem MethHere.of {C : Addr} {x q : Str} {st : Stmt} {f : Addr} {oc : Value} {od : Option Addr} {kV dc pm : Value} {an : Option Addr} {cd ct : Value} {sl : Array (Option Value)} (g : PySem.W.findIn K (.ref C) x = some (some (.ref f))) (fn : PySem.W.isFn K (.ref f) = true)
    (l : K.lookup f = some ⟨oc, od, .func (PySem.W.fnOf x q (defArgs st) (defBody st) (defScope st) .none kV dc pm an cd ct), sl⟩) (c : PySem.W.codeIn K cd q = true) (k : PySem.W.keepIn K (.ref f) = true) : MethHere K C x q st :=
  ⟨f, g, fn, oc, od, kV, dc, pm, an, cd, ct, sl, l, c, k⟩
theorem TabIHere.of {x : Str} {d : Addr} {kvs : List (Int × Value)} {l : List DictEntry} {n : Nat} (g : PySem.W.nsIn K mainGlobals x = some (some (.ref d))) (k : K.lookup d = some ⟨.type "dict", none, .dict l.toArray n, #[]⟩) (t : IntTab l kvs) (z : (d == sysModules) = false) : TabIHere K x d kvs :=
  ⟨g, ⟨⟨l, n, k, t⟩, z⟩⟩
theorem TabSHere.of {w : World} {x : Str} {d : Addr} {kvs : List (Str × Value)} {l : List DictEntry} {n : Nat} (g : PySem.W.nsIn K mainGlobals x = some (some (.ref d))) (k : K.lookup d = some ⟨.type "dict", none, .dict l.toArray n, #[]⟩) (t : TxtTab w.params l kvs) (z : (d == sysModules) = false) : TabSHere K w x d kvs :=
  ⟨g, ⟨⟨l, n, k, t⟩, z⟩⟩
theorem MethHere.mt {C : Addr} {x q : Str} {st : Stmt} {ps : List Str} (D : MethHere K C x q st)
    (b : ∀ (kV doc pm : Value) (an : Option Addr) (cdv ct : Value) (us : List Value), us.length = ps.length → bindArgs (PySem.W.fnOf x q (defArgs st) (defBody st) (defScope st) .none kV doc pm an cdv ct) ⟨us, []⟩ = pure (ps.zip us)) :
    ∃ (f : Addr) (fd : FuncData), PySem.W.findIn K (.ref C) x = some (some (.ref f)) ∧ PySem.W.isFn K (.ref f) = true ∧ PySem.W.keepIn K (.ref f) = true ∧ Fun K x q st f fd ∧ Binds K fd ps [] := by
  obtain ⟨f, g, fn, oc, od, kV, dc, pm, an, cd, ct, sl, l, c, k⟩ := D
  have F := fun_mk (x := x) (qual := q) (st := st) l c k
  exact ⟨f, _, g, fn, k, F, F.binds b⟩
end
/-- a def with two defaults None, called with all three -/
theorem DflHere.own3 {l : PySem.Program} {w : World} {K : PySem.W.Frag} {mg : Str → Option Value} {base h : Heap} {x p1 p2 p3 : Str} {st : Stmt} {CX : CXT} {k : Nat} {sp : Sp} (D : DflHere K x st [.none, .none]) (X : K.In h) (G : h.Ns mainGlobals mg)
    (b : ∀ (T : Addr) (kV doc pm : Value) (an : Option Addr) (cdv ct : Value) (us its : List Value), us.length = 3 → its.length = 2 →
      ∃ g, bindArgs (PySem.W.fnOf x x (defArgs st) (defBody st) (defScope st) (.ref T) kV doc pm an cdv ct) ⟨us, []⟩ = seqItems? (.ref T) >>= g ∧ g (some its.toArray) = pure (([p1, p2, p3] : List Str).zip (us ++ its.drop 2)))
    (ok : ∀ (f : Addr) (fd : FuncData), FunD K x x (defArgs st) (defBody st) (defScope st) [.non, .non] [] f fd → FnOk l w K mg base CX k f fd [p1, p2, p3] sp) : Own l w K mg base CX k x [p1, p2, p3] [] sp := by
  obtain ⟨f, T', oc, od, kV, dc, pm, an, cd, ct, sl, tc, td, n, ts, g, l', c', k', lT⟩ := D
  have F : FunD K x x (defArgs st) (defBody st) (defScope st) [.non, .non] [] f _ := ⟨⟨oc, od, _, kV, dc, pm, an, cd, ct, sl, rfl, l', c', .inr ⟨by simp, T', _, [.none, .none], n, rfl, lT, rfl, .cons rfl (.cons rfl .nil)⟩, .inl rfl⟩, k'⟩
  obtain ⟨ds, v, bb⟩ := F.binds1 (ps := [p1, p2, p3]) 3 2 (by simp) rfl b
  exact ⟨f, _, ds, PySem.W.mg_of X G g, k', ok f _ F, bb, v⟩
end Rw

set_option Elab.async false
set_option linter.all false
set_option maxRecDepth 100000
set_option maxHeartbeats 8000000
/-! K11N: the end. -/
namespace K11
open PySem PySem.Spec PyProof.Rows L2 Rw
abbrev sIniP : Stmt := inClass (top 3) 0
theorem scIniP : FnScope ["self", "value"] ["self", "value"] (defScope sIniP) := ⟨rfl, rfl, rfl, by decide +kernel, rfl, by decide +kernel, by decide +kernel⟩
theorem isP : IsIni sIniP := ⟨_, _, _, _, rfl, rfl, rfl⟩
abbrev sIniT : Stmt := inClass (top 5) 0
theorem scIniT : FnScope ["self", "value"] ["self", "value"] (defScope sIniT) := ⟨rfl, rfl, rfl, by decide +kernel, rfl, by decide +kernel, by decide +kernel⟩
theorem isT : IsIni sIniT := ⟨_, _, _, _, rfl, rfl, rfl⟩
abbrev sIniZ : Stmt := inClass (top 7) 0
theorem scIniZ : FnScope ["self", "value"] ["self", "value"] (defScope sIniZ) := ⟨rfl, rfl, rfl, by decide +kernel, rfl, by decide +kernel, by decide +kernel⟩
theorem isZ : IsIni sIniZ := ⟨_, _, _, _, rfl, rfl, rfl⟩
abbrev sIniA : Stmt := inClass (top 8) 0
theorem scIniA : FnScope ["self", "value"] ["self", "value"] (defScope sIniA) := ⟨rfl, rfl, rfl, by decide +kernel, rfl, by decide +kernel, by decide +kernel⟩
theorem isA : IsIni sIniA := ⟨_, _, _, _, rfl, rfl, rfl⟩
abbrev sIniM : Stmt := inClass (top 4) 0
theorem scIniM : FnScope ["self", "value"] ["self", "value"] (defScope sIniM) := ⟨rfl, rfl, rfl, by decide +kernel, rfl, by decide +kernel, by decide +kernel⟩
theorem isM : IsIni sIniM := ⟨_, _, _, _, rfl, rfl, rfl⟩
abbrev sIniL : Stmt := inClass (top 6) 0
theorem scIniL : FnScope ["self", "value"] ["self", "value"] (defScope sIniL) := ⟨rfl, rfl, rfl, by decide +kernel, rfl, by decide +kernel, by decide +kernel⟩
theorem isL : IsIni sIniL := ⟨_, _, _, _, rfl, rfl, rfl⟩
/-- what is asked of the written part -/
structure Asked (K : PySem.W.Frag) (w : World) (aI aT C CR CP CT CZ CA CM CL : Addr) (kI : List (Int × Value)) (kT : List (Str × Value)) (tM : Tok) : Prop where
  taI : TabIHere K "INVERSES" aI kI
  taT : TabSHere K w "TURNED" aT kT
  iMOST : PySem.W.nsIn K mainGlobals "MOST" = some (some (.int 6 tM))
  hI : ∀ i, (lookI kI i).isSome = decide (i ∈ primesL)
  hT : ∀ c, (lookS kT ⟨#[c]⟩).isSome = isArr c
  root : PySem.W.nsIn K mainGlobals "RowError" = some (some (.ref CR))
  eP : ErrHere K "InvalidPrime" "InvalidPrime.__init__" sIniP CR CP
  eT : ErrHere K "InvalidPattern" "InvalidPattern.__init__" sIniT CR CT
  eZ : ErrHere K "InvalidSizes" "InvalidSizes.__init__" sIniZ CR CZ
  eA : ErrHere K "InvalidMaps" "InvalidMaps.__init__" sIniA CR CA
  eM : ErrHere K "InvalidMatrix" "InvalidMatrix.__init__" sIniM CR CM
  eL : ErrHere K "InvalidPlace" "InvalidPlace.__init__" sIniL CR CL
  cP : PySem.W.isClsIn K CP = true
  cT : PySem.W.isClsIn K CT = true
  cZ : PySem.W.isClsIn K CZ = true
  cA : PySem.W.isClsIn K CA = true
  cM : PySem.W.isClsIn K CM = true
  cL : PySem.W.isClsIn K CL = true
  sTT : PySem.W.subIn K (.ref CT) (.ref CT) = some true
  sPT : PySem.W.subIn K (.ref CP) (.ref CT) = some false
  sPP : PySem.W.subIn K (.ref CP) (.ref CP) = some true
  sZT : PySem.W.subIn K (.ref CZ) (.ref CT) = some false
  sZP : PySem.W.subIn K (.ref CZ) (.ref CP) = some false
  sZZ : PySem.W.subIn K (.ref CZ) (.ref CZ) = some true
  sAT : PySem.W.subIn K (.ref CA) (.ref CT) = some false
  sAP : PySem.W.subIn K (.ref CA) (.ref CP) = some false
  sAZ : PySem.W.subIn K (.ref CA) (.ref CZ) = some false
  sAA : PySem.W.subIn K (.ref CA) (.ref CA) = some true
  sMT : PySem.W.subIn K (.ref CM) (.ref CT) = some false
  sMP : PySem.W.subIn K (.ref CM) (.ref CP) = some false
  sMZ : PySem.W.subIn K (.ref CM) (.ref CZ) = some false
  sMA : PySem.W.subIn K (.ref CM) (.ref CA) = some false
  sMM : PySem.W.subIn K (.ref CM) (.ref CM) = some true
  sLL : PySem.W.subIn K (.ref CL) (.ref CL) = some true
  gRow : PySem.W.nsIn K mainGlobals "Row" = some (some (.ref C))
  cPg : PySem.W.plainGet K C Str.empty = true
  cHd : PySem.W.hasDictIn K C = true
  cPo : PySem.W.plainOver K C = true
  cSa : PySem.W.findIn K (.ref C) "__setattr__" = some (some (.builtin "object.__setattr__"))
  n1 : NoAttr K C "_pattern"
  n2 : NoAttr K C "_prime"
  n3 : NoAttr K C "_sizes"
  n4 : NoAttr K C "_maps"
  mkC : PySem.W.makesIn K C = true
  kpC : PySem.W.keepIn K (.ref C) = true
  mIni : MethHere K C "__init__" "Row.__init__" sIniR
  mMat : MethHere K C "matrix" "Row.matrix" sMatx
  mLen : MethHere K C "__len__" "Row.__len__" sLenR
  d1 : DefHere K "is_number" sNum
  d2 : DflHere K "is_integer" sInt [.none, .none]
  d3 : DefHere K "is_prime" sPrime
  d4 : DefHere K "check_prime" sCheck
  d5 : DefHere K "is_list" sList
  d6 : DefHere K "is_vector" sVec
  d7 : DefHere K "is_matrix" sMat
  d8 : DefHere K "is_pattern" sPat
  d9 : DefHere K "check_pattern" sCPat
  d10 : DefHere K "check_sizes" sCSz
  d11 : DefHere K "way" sWay
  d12 : DefHere K "_check_maps" sCMaps
  d13 : DefHere K "bars" sBars
  d14 : DefHere K "_law_cell" sCell
  d15 : DefHere K "_law_box" sBox
  d16 : DefHere K "_law_take" sTake
  d17 : DefHere K "_law_odd" sOdd
  d18 : DefHere K "_law_whole" sWhole
  d19 : DefHere K "_law_prime" sPrimeL
  d20 : DefHere K "_law_pattern" sPatL
  d21 : DefHere K "_law_matrix" sMatL
  d22 : DefHere K "_law_measures" sMeas
  d23 : DefHere K "_law_draft" sDraft
  d24 : DefHere K "_law_listed" sListed
  d25 : DefHere K "_law_is_arrows" sArr
  d26 : DefHere K "_law_is_sheet" sSheetL
  d27 : DefHere K "_law_due" sDue
  d28 : DefHere K "_law_caught" sCaught
  d29 : DefHere K "_law_bars_caught" sBarsC
  d30 : DefHere K "_law_matrix_caught" sMatC
  d31 : DefHere K "_law_row" sRowL
  d32 : DefHere K "_law_bars" sBarsL
  d33 : DefHere K "_law_bent_sheet" sBentS
  d34 : DefHere K "_law_bent" sBent
  dl : DefHere K "law" sLaw
  z1 : PySem.W.nsIn K mainGlobals "isinstance" = some none
  z2 : PySem.W.nsIn K mainGlobals "int" = some none
  z3 : PySem.W.nsIn K mainGlobals "bool" = some none
  z4 : PySem.W.nsIn K mainGlobals "str" = some none
  z5 : PySem.W.nsIn K mainGlobals "list" = some none
  z6 : PySem.W.nsIn K mainGlobals "tuple" = some none
  z7 : PySem.W.nsIn K mainGlobals "len" = some none
  z8 : PySem.W.nsIn K mainGlobals "all" = some none
  z9 : PySem.W.nsIn K mainGlobals "range" = some none
  z10 : PySem.W.nsIn K mainGlobals "enumerate" = some none
  z11 : PySem.W.nsIn K mainGlobals "repr" = some none
  z12 : PySem.W.nsIn K mainGlobals "max" = some none
  z13 : PySem.W.nsIn K mainGlobals "min" = some none
theorem all_mk {l : PySem.W.OpenLaw} {w : World} {K : PySem.W.Frag} {h : Heap} {mg : Str → Option Value} {fa : Addr} {aI aT C CR CP CT CZ CA CM CL : Addr} {kI : List (Int × Value)} {kT : List (Str × Value)} {tM : Tok} (X : K.In h) (G : h.Ns mainGlobals mg) (hfa : mg "law" = some (.ref fa)) (Z : Asked K w aI aT C CR CP CT CZ CA CM CL kI kT tM) :
    ∃ fd : FuncData, (∀ (s : Shared) (v : Value), BindsTo s fd ⟨[v], []⟩ [("_law_script", v)]) ∧ ∀ base : Heap, K.In base → base.Ns mainGlobals mg → FnG l.prog w K mg base CX0 10 fa fd ["_law_script"] (spLaw K) := by
  have zz_isinstance : mg "isinstance" = none := PySem.W.mg_none_of X G Z.z1
  have zz_int : mg "int" = none := PySem.W.mg_none_of X G Z.z2
  have zz_bool : mg "bool" = none := PySem.W.mg_none_of X G Z.z3
  have zz_str : mg "str" = none := PySem.W.mg_none_of X G Z.z4
  have zz_list : mg "list" = none := PySem.W.mg_none_of X G Z.z5
  have zz_tuple : mg "tuple" = none := PySem.W.mg_none_of X G Z.z6
  have zz_len : mg "len" = none := PySem.W.mg_none_of X G Z.z7
  have zz_all : mg "all" = none := PySem.W.mg_none_of X G Z.z8
  have zz_range : mg "range" = none := PySem.W.mg_none_of X G Z.z9
  have zz_enumerate : mg "enumerate" = none := PySem.W.mg_none_of X G Z.z10
  have zz_repr : mg "repr" = none := PySem.W.mg_none_of X G Z.z11
  have zz_max : mg "max" = none := PySem.W.mg_none_of X G Z.z12
  have zz_min : mg "min" = none := PySem.W.mg_none_of X G Z.z13
  have eP : Err K mg "InvalidPrime" CP := Z.eP.err X G scIniP isP fun _ _ _ _ _ _ us hl => match us, hl with | [_, _], _ => rfl
  have kxP : PySem.W.subIn K (.ref CP) (.type "BaseException") = some true := eP.xf.exC
  have eT : Err K mg "InvalidPattern" CT := Z.eT.err X G scIniT isT fun _ _ _ _ _ _ us hl => match us, hl with | [_, _], _ => rfl
  have kxT : PySem.W.subIn K (.ref CT) (.type "BaseException") = some true := eT.xf.exC
  have eZ : Err K mg "InvalidSizes" CZ := Z.eZ.err X G scIniZ isZ fun _ _ _ _ _ _ us hl => match us, hl with | [_, _], _ => rfl
  have kxZ : PySem.W.subIn K (.ref CZ) (.type "BaseException") = some true := eZ.xf.exC
  have eA : Err K mg "InvalidMaps" CA := Z.eA.err X G scIniA isA fun _ _ _ _ _ _ us hl => match us, hl with | [_, _], _ => rfl
  have kxA : PySem.W.subIn K (.ref CA) (.type "BaseException") = some true := eA.xf.exC
  have eM : Err K mg "InvalidMatrix" CM := Z.eM.err X G scIniM isM fun _ _ _ _ _ _ us hl => match us, hl with | [_, _], _ => rfl
  have kxM : PySem.W.subIn K (.ref CM) (.type "BaseException") = some true := eM.xf.exC
  have eL : Err K mg "InvalidPlace" CL := Z.eL.err X G scIniL isL fun _ _ _ _ _ _ us hl => match us, hl with | [_, _], _ => rfl
  have kxL : PySem.W.subIn K (.ref CL) (.type "BaseException") = some true := eL.xf.exC
  have xTT : PySem.W.exmOne K (.ref CT) (.ref CT) = some true := exm_of kxT Z.cT eT.ox.tyC Z.sTT
  have xPT : PySem.W.exmOne K (.ref CP) (.ref CT) = some false := exm_of kxT Z.cT eT.ox.tyC Z.sPT
  have xPP : PySem.W.exmOne K (.ref CP) (.ref CP) = some true := exm_of kxP Z.cP eP.ox.tyC Z.sPP
  have xZT : PySem.W.exmOne K (.ref CZ) (.ref CT) = some false := exm_of kxT Z.cT eT.ox.tyC Z.sZT
  have xZP : PySem.W.exmOne K (.ref CZ) (.ref CP) = some false := exm_of kxP Z.cP eP.ox.tyC Z.sZP
  have xZZ : PySem.W.exmOne K (.ref CZ) (.ref CZ) = some true := exm_of kxZ Z.cZ eZ.ox.tyC Z.sZZ
  have xAT : PySem.W.exmOne K (.ref CA) (.ref CT) = some false := exm_of kxT Z.cT eT.ox.tyC Z.sAT
  have xAP : PySem.W.exmOne K (.ref CA) (.ref CP) = some false := exm_of kxP Z.cP eP.ox.tyC Z.sAP
  have xAZ : PySem.W.exmOne K (.ref CA) (.ref CZ) = some false := exm_of kxZ Z.cZ eZ.ox.tyC Z.sAZ
  have xAA : PySem.W.exmOne K (.ref CA) (.ref CA) = some true := exm_of kxA Z.cA eA.ox.tyC Z.sAA
  have xMT : PySem.W.exmOne K (.ref CM) (.ref CT) = some false := exm_of kxT Z.cT eT.ox.tyC Z.sMT
  have xMP : PySem.W.exmOne K (.ref CM) (.ref CP) = some false := exm_of kxP Z.cP eP.ox.tyC Z.sMP
  have xMZ : PySem.W.exmOne K (.ref CM) (.ref CZ) = some false := exm_of kxZ Z.cZ eZ.ox.tyC Z.sMZ
  have xMA : PySem.W.exmOne K (.ref CM) (.ref CA) = some false := exm_of kxA Z.cA eA.ox.tyC Z.sMA
  have xMM : PySem.W.exmOne K (.ref CM) (.ref CM) = some true := exm_of kxM Z.cM eM.ox.tyC Z.sMM
  have xLL : PySem.W.exmOne K (.ref CL) (.ref CL) = some true := exm_of kxL Z.cL eL.ox.tyC Z.sLL
  have T : Txt K w mg aI aT CP CT CZ CA CM CL kI kT := ⟨zz_isinstance, zz_int, zz_bool, zz_str, zz_list, zz_tuple, zz_len, zz_all, zz_range, zz_enumerate, PySem.W.mg_of X G Z.taI.1, Z.taI.2, Z.hI, PySem.W.mg_of X G Z.taT.1, Z.taT.2, Z.hT, ⟨tM, PySem.W.mg_of X G Z.iMOST⟩, eP, eT, eZ, eA, eM, eL⟩
  have TC : TxC K mg CR CP CT CZ CA CM := ⟨PySem.W.mg_of X G Z.root, xTT, xPT, xPP, xZT, xZP, xZZ, xAT, xAP, xAZ, xAA, xMT, xMP, xMZ, xMA, xMM⟩
  have cl : Cls K C := ⟨Z.cPg, Z.cHd, Z.cPo, Z.cSa⟩
  have R : RowCls K C := ⟨cl, Z.n1, Z.n2, Z.n3, Z.n4⟩
  have D1 := Z.d1.df (ps := ["value"]) X G fun _ _ _ _ _ _ us hl => match us, hl with | [_], _ => rfl
  have D3 := Z.d3.df (ps := ["value"]) X G fun _ _ _ _ _ _ us hl => match us, hl with | [_], _ => rfl
  have D4 := Z.d4.df (ps := ["prime"]) X G fun _ _ _ _ _ _ us hl => match us, hl with | [_], _ => rfl
  have D5 := Z.d5.df (ps := ["value"]) X G fun _ _ _ _ _ _ us hl => match us, hl with | [_], _ => rfl
  have D6 := Z.d6.df (ps := ["value", "length"]) X G fun _ _ _ _ _ _ us hl => match us, hl with | [_, _], _ => rfl
  have D7 := Z.d7.df (ps := ["value", "height", "width"]) X G fun _ _ _ _ _ _ us hl => match us, hl with | [_, _, _], _ => rfl
  have D8 := Z.d8.df (ps := ["value"]) X G fun _ _ _ _ _ _ us hl => match us, hl with | [_], _ => rfl
  have D9 := Z.d9.df (ps := ["pattern"]) X G fun _ _ _ _ _ _ us hl => match us, hl with | [_], _ => rfl
  have D10 := Z.d10.df (ps := ["pattern", "sizes"]) X G fun _ _ _ _ _ _ us hl => match us, hl with | [_, _], _ => rfl
  have D11 := Z.d11.df (ps := ["pattern", "index"]) X G fun _ _ _ _ _ _ us hl => match us, hl with | [_, _], _ => rfl
  have D12 := Z.d12.df (ps := ["pattern", "sizes", "maps"]) X G fun _ _ _ _ _ _ us hl => match us, hl with | [_, _, _], _ => rfl
  have D13 := Z.d13.df (ps := ["pattern"]) X G fun _ _ _ _ _ _ us hl => match us, hl with | [_], _ => rfl
  have D14 := Z.d14.df (ps := ["_law_script", "_law_k"]) X G fun _ _ _ _ _ _ us hl => match us, hl with | [_, _], _ => rfl
  have D15 := Z.d15.df (ps := ["_law_cell_here"]) X G fun _ _ _ _ _ _ us hl => match us, hl with | [_], _ => rfl
  have D16 := Z.d16.df (ps := ["_law_box_here", "_law_many"]) X G fun _ _ _ _ _ _ us hl => match us, hl with | [_, _], _ => rfl
  have D17 := Z.d17.df (ps := ["_law_box_here"]) X G fun _ _ _ _ _ _ us hl => match us, hl with | [_], _ => rfl
  have D18 := Z.d18.df (ps := ["_law_thing"]) X G fun _ _ _ _ _ _ us hl => match us, hl with | [_], _ => rfl
  have D19 := Z.d19.df (ps := ["_law_box_here"]) X G fun _ _ _ _ _ _ us hl => match us, hl with | [_], _ => rfl
  have D20 := Z.d20.df (ps := ["_law_box_here", "_law_most"]) X G fun _ _ _ _ _ _ us hl => match us, hl with | [_, _], _ => rfl
  have D21 := Z.d21.df (ps := ["_law_box_here", "_law_p", "_law_high", "_law_wide"]) X G fun _ _ _ _ _ _ us hl => match us, hl with | [_, _, _, _], _ => rfl
  have D22 := Z.d22.df (ps := ["_law_arrows", "_law_amounts", "_law_k"]) X G fun _ _ _ _ _ _ us hl => match us, hl with | [_, _, _], _ => rfl
  have D23 := Z.d23.df (ps := ["_law_box_here", "_law_arrows", "_law_p", "_law_most"]) X G fun _ _ _ _ _ _ us hl => match us, hl with | [_, _, _, _], _ => rfl
  have D24 := Z.d24.df (ps := ["_law_thing"]) X G fun _ _ _ _ _ _ us hl => match us, hl with | [_], _ => rfl
  have D25 := Z.d25.df (ps := ["_law_thing"]) X G fun _ _ _ _ _ _ us hl => match us, hl with | [_], _ => rfl
  have D26 := Z.d26.df (ps := ["_law_thing", "_law_high", "_law_wide"]) X G fun _ _ _ _ _ _ us hl => match us, hl with | [_, _, _], _ => rfl
  have D27 := Z.d27.df (ps := ["_law_thing"]) X G fun _ _ _ _ _ _ us hl => match us, hl with | [_], _ => rfl
  have D28 := Z.d28.df (ps := ["_law_thing"]) X G fun _ _ _ _ _ _ us hl => match us, hl with | [_], _ => rfl
  have D29 := Z.d29.df (ps := ["_law_arrows"]) X G fun _ _ _ _ _ _ us hl => match us, hl with | [_], _ => rfl
  have D30 := Z.d30.df (ps := ["_law_row_here", "_law_k"]) X G fun _ _ _ _ _ _ us hl => match us, hl with | [_, _], _ => rfl
  have D31 := Z.d31.df (ps := ["_law_draft_here"]) X G fun _ _ _ _ _ _ us hl => match us, hl with | [_], _ => rfl
  have D32 := Z.d32.df (ps := ["_law_arrows"]) X G fun _ _ _ _ _ _ us hl => match us, hl with | [_], _ => rfl
  have D33 := Z.d33.df (ps := ["_law_box_here", "_law_sheet"]) X G fun _ _ _ _ _ _ us hl => match us, hl with | [_, _], _ => rfl
  have D34 := Z.d34.df (ps := ["_law_box_here", "_law_draft_here"]) X G fun _ _ _ _ _ _ us hl => match us, hl with | [_, _], _ => rfl
  obtain ⟨f_mIni, fd_mIni, at_mIni, fn_mIni, kp_mIni, F_mIni, B_mIni⟩ := Z.mIni.mt (ps := ["self", "pattern", "prime", "sizes", "maps"]) fun _ _ _ _ _ _ us hl => match us, hl with | [_, _, _, _, _], _ => rfl
  obtain ⟨f_mMat, fd_mMat, at_mMat, fn_mMat, kp_mMat, F_mMat, B_mMat⟩ := Z.mMat.mt (ps := ["self", "index"]) fun _ _ _ _ _ _ us hl => match us, hl with | [_, _], _ => rfl
  obtain ⟨f_mLen, fd_mLen, at_mLen, fn_mLen, kp_mLen, F_mLen, B_mLen⟩ := Z.mLen.mt (ps := ["self"]) fun _ _ _ _ _ _ us hl => match us, hl with | [_], _ => rfl
  obtain ⟨f, g, oc, od, kV, dc, pm, an, cd, ct, sl, lk, hc, hk⟩ := Z.dl
  have e := hfa.symm.trans (PySem.W.mg_of X G g)
  cases e
  refine ⟨PySem.W.fnOf "law" "law" (defArgs sLaw) (defBody sLaw) (defScope sLaw) .none kV dc pm an cd ct, fun s v => .of_eq rfl, fun base KB _ => ?_⟩
  have G1 : Own l.prog w K mg base CX0 1 "is_number" ["value"] [] spNum := D1.own fun f fd F => okNum F T
  have G2 : Own l.prog w K mg base CX0 2 "is_integer" ["value", "low", "high"] [] spInt := Z.d2.own3 X G (fun T kV doc pm an cdv ct us its h1 h2 => match us, its, h1, h2 with | [_, _, _], [_, _], _, _ => ⟨_, rfl, rfl⟩) fun f fd F => okInt F G1
  have G3 : Own l.prog w K mg base CX0 2 "is_prime" ["value"] [] spPrime := D3.own fun f fd F => okPrime F T G1
  have G4 : Own l.prog w K mg base (L2.CX l.prog w) 4 "check_prime" ["prime"] [] (spCheck CP) := D4.own fun f fd F => okCheck F T G3
  have G5 : Own l.prog w K mg base CX0 1 "is_list" ["value"] [] spList := D5.own fun f fd F => okList F T
  have G6 : Own l.prog w K mg base CX0 2 "is_vector" ["value", "length"] [] spVec := D6.own fun f fd F => okVec F T G5
  have G7 : Own l.prog w K mg base CX0 3 "is_matrix" ["value", "height", "width"] [] spMat := D7.own fun f fd F => okMat F T G5 G6
  have G8 : Own l.prog w K mg base CX0 1 "is_pattern" ["value"] [] spPat := D8.own fun f fd F => okPat F T
  have G9 : Own l.prog w K mg base (L2.CX l.prog w) 4 "check_pattern" ["pattern"] [] (spCPat CT) := D9.own fun f fd F => okCPat F T G8
  have G10 : Own l.prog w K mg base (L2.CX l.prog w) 4 "check_sizes" ["pattern", "sizes"] [] (spCSz CZ) := D10.own fun f fd F => okCSz F T G5 G2
  have G11 : Own l.prog w K mg base CX0 1 "way" ["pattern", "index"] [] spWay := D11.own fun f fd F => okWay F
  have G12 : Own l.prog w K mg base (L2.CX l.prog w) 5 "_check_maps" ["pattern", "sizes", "maps"] [] (spCMaps CA CM) := D12.own fun f fd F => okCMaps F T G5 G11 G7
  have G13 : Own l.prog w K mg base (L2.CX l.prog w) 5 "bars" ["pattern"] [] (spBars CT) := D13.own fun f fd F => okBars F T G9
  have RA : RowsAt l.prog w K mg base C CT CP CZ CA CM := ⟨PySem.W.mg_of X G Z.gRow, cl, f_mIni, fd_mIni, ⟨Z.mkC, at_mIni, fn_mIni, Z.kpC⟩, okIniR F_mIni T R G9 G4 G10 G12, B_mIni⟩
  have RL : RowLenAt l.prog w K mg base C := ⟨f_mLen, fd_mLen, at_mLen, fn_mLen, okLenR F_mLen T R, B_mLen⟩
  have RM : RowMatAt l.prog w K mg base C CL := ⟨f_mMat, fd_mMat, ⟨at_mMat, fn_mMat, kp_mMat⟩, okMatx F_mMat T R G2, B_mMat⟩
  have G14 : Own l.prog w K mg base CX0 1 "_law_cell" ["_law_script", "_law_k"] [] (spCellR K) := D14.own fun f fd F => okCell F T.len
  have G15 : Own l.prog w K mg base CX0 1 "_law_box" ["_law_cell_here"] [] spBoxR := D15.own fun f fd F => okBox F zz_max T.int
  have G16 : Own l.prog w K mg base CX0 1 "_law_take" ["_law_box_here", "_law_many"] [] spTakeR := D16.own fun f fd F => okTake F T.int
  have G17 : Own l.prog w K mg base CX0 2 "_law_odd" ["_law_box_here"] [] spOddN := D17.own fun f fd F => okOdd F G16
  have G18 : Own l.prog w K mg base CX0 1 "_law_whole" ["_law_thing"] [] spWholeR := D18.own fun f fd F => okWhole F T.isi T.int T.bool
  have G19 : Own l.prog w K mg base CX0 2 "_law_prime" ["_law_box_here"] [] spPrimeR := D19.own fun f fd F => okPrimeL F G16
  have G20 : Own l.prog w K mg base CX0 2 "_law_pattern" ["_law_box_here", "_law_most"] [] spPatR := D20.own fun f fd F => okPatL F T.range G16
  have G21 : Own l.prog w K mg base CX0 2 "_law_matrix" ["_law_box_here", "_law_p", "_law_high", "_law_wide"] [] spMatR := D21.own fun f fd F => okMatL F T.range T.tuple T.int G16
  have G22 : Own l.prog w K mg base CX0 1 "_law_measures" ["_law_arrows", "_law_amounts", "_law_k"] [] spMeasD := D22.own fun f fd F => okMeas F
  have G23 : Own l.prog w K mg base CX0 3 "_law_draft" ["_law_box_here", "_law_arrows", "_law_p", "_law_most"] [] spDraft := D23.own fun f fd F => okDraft F T.range T.len G16 G21 G22
  have G24 : Own l.prog w K mg base CX0 1 "_law_listed" ["_law_thing"] [] spList := D24.own fun f fd F => okListed F T
  have G25 : Own l.prog w K mg base CX0 1 "_law_is_arrows" ["_law_thing"] [] spPat := D25.own fun f fd F => okArr F T
  have G26 : Own l.prog w K mg base CX0 2 "_law_is_sheet" ["_law_thing", "_law_high", "_law_wide"] [] spSheetL := D26.own fun f fd F => okSheetL F T G24 G18
  have G27 : Own l.prog w K mg base CX0 3 "_law_due" ["_law_thing"] [] spDueR := D27.own fun f fd F => okDue F T G25 G18 G24 G22 G26
  have G28 : Own l.prog w K mg base CX0 8 "_law_caught" ["_law_thing"] [] spDueR := D28.own fun f fd F => okCaught F T TC RA RL
  have G29 : Own l.prog w K mg base CX0 6 "_law_bars_caught" ["_law_arrows"] [] spBarsC := D29.own fun f fd F => okBarsC F T TC G13
  have G30 : Own l.prog w K mg base CX0 6 "_law_matrix_caught" ["_law_row_here", "_law_k"] [] (spMatC C) := D30.own fun f fd F => okMatC F T xLL cl RM
  have G31 : Own l.prog w K mg base (L2.CX l.prog w) 8 "_law_row" ["_law_draft_here"] [] (spRowL C) := D31.own fun f fd F => okRowL F RA
  have G32 : Own l.prog w K mg base CX0 1 "_law_bars" ["_law_arrows"] [] spBarsN := D32.own fun f fd F => okBarsL F T
  have G33 : Own l.prog w K mg base CX0 3 "_law_bent_sheet" ["_law_box_here", "_law_sheet"] [] spBentS := D33.own fun f fd F => okBentS F T G16 G17
  have G34 : Own l.prog w K mg base CX0 4 "_law_bent" ["_law_box_here", "_law_draft_here"] [] spBent := D34.own fun f fd F => okBent F T G16 G17 G24 G33
  exact okLaw (fun_mk (st := sLaw) lk hc hk) ⟨zz_range, zz_repr, zz_max, zz_min, zz_len⟩ ⟨G14, G15, G20, G19, G23, G34, G28, G27, G8, G25, G32, G29, G31, G17, G18, G30⟩
end K11

set_option Elab.async false
open PySem PySem.W PyProof.Rows
set_option maxRecDepth 100000
set_option maxHeartbeats 0
open_top k11head for PySem.Challenge.rw_maprows_k11_rows_refused

open PySem PySem.W PyProof.Rows in
set_option maxRecDepth 100000 in
set_option maxHeartbeats 0 in
set_option pp.maxSteps 20 in
theorem PySem.Challenge.cw_maprows_k11_rows_refused_holds : PySem.Challenge.rw_maprows_k11_rows_refused.Holds := by
  refine k11head ?walk
  k_fill
  refine Rw.walkG (l := PySem.Challenge.rw_maprows_k11_rows_refused) (n := 63) (k := 10) (x := "_law_script") (sp := K11.spLaw) rfl (by decide) rfl rfl ⟨rfl, by decide, by decide⟩ (fun w h Y => PySem.W.kIn_of Y) ?F (fun K H a ns hl _ hs => ⟨a, ns, rfl, hs, hl, fun _ => rfl⟩)
  intro w mg fa h KX G hmg
  refine' K11.all_mk KX G hmg ?Z
  case' Z => refine' ⟨?taI, ?taT, ?iMOST, ?hI, ?hT, ?root, ?eP, ?eT, ?eZ, ?eA, ?eM, ?eL, ?cP, ?cT, ?cZ, ?cA, ?cM, ?cL, ?sTT, ?sPT, ?sPP, ?sZT, ?sZP, ?sZZ, ?sAT, ?sAP, ?sAZ, ?sAA, ?sMT, ?sMP, ?sMZ, ?sMA, ?sMM, ?sLL, ?gRow, ?cPg, ?cHd, ?cPo, ?cSa, ?n1, ?n2, ?n3, ?n4, ?mkC, ?kpC, ?mIni, ?mMat, ?mLen, ?d1, ?d2, ?d3, ?d4, ?d5, ?d6, ?d7, ?d8, ?d9, ?d10, ?d11, ?d12, ?d13, ?d14, ?d15, ?d16, ?d17, ?d18, ?d19, ?d20, ?d21, ?d22, ?d23, ?d24, ?d25, ?d26, ?d27, ?d28, ?d29, ?d30, ?d31, ?d32, ?d33, ?d34, ?dl, ?z1, ?z2, ?z3, ?z4, ?z5, ?z6, ?z7, ?z8, ?z9, ?z10, ?z11, ?z12, ?z13⟩
  (case taI => refine' Rw.TabIHere.of ?g ?k ?t ?z; (case g => k_is); (case k => k_is); (case t => exact .cons rfl rfl rfl (.cons rfl rfl rfl (.cons rfl rfl rfl (.cons rfl rfl rfl (.cons rfl rfl rfl (.cons rfl rfl rfl .nil)))))); (case z => first | rfl | k_is))
  (case taT => refine' Rw.TabSHere.of ?g ?k ?t ?z; (case g => k_is); (case k => k_is); (case t => exact .cons rfl rfl rfl (.cons rfl rfl rfl .nil)); (case z => first | rfl | k_is))
  (case iMOST => k_is)
  (case hI => exact fun i => Rw.prime_tab (us := []) i)
  (case hT => exact fun c => Rw.arr_tab c)
  (case root => k_is)
  (case eP => refine' Rw.ErrHere.of ?g ?xl ?sa ?ga ?gg ?no ?ini ?ty ?l ?c ?k ?kc ?ex ?tc ?hd; (case g => k_is); (case xl => k_is); (case sa => k_is); (case ga => k_is); (case gg => k_is); (case no => k_is); (case ini => k_is); (case ty => k_is); (case l => k_is); (case c => k_is); (case k => k_is); (case kc => k_is); (case ex => k_is); (case tc => k_is); (case hd => k_is))
  (case eT => refine' Rw.ErrHere.of ?g ?xl ?sa ?ga ?gg ?no ?ini ?ty ?l ?c ?k ?kc ?ex ?tc ?hd; (case g => k_is); (case xl => k_is); (case sa => k_is); (case ga => k_is); (case gg => k_is); (case no => k_is); (case ini => k_is); (case ty => k_is); (case l => k_is); (case c => k_is); (case k => k_is); (case kc => k_is); (case ex => k_is); (case tc => k_is); (case hd => k_is))
  (case eZ => refine' Rw.ErrHere.of ?g ?xl ?sa ?ga ?gg ?no ?ini ?ty ?l ?c ?k ?kc ?ex ?tc ?hd; (case g => k_is); (case xl => k_is); (case sa => k_is); (case ga => k_is); (case gg => k_is); (case no => k_is); (case ini => k_is); (case ty => k_is); (case l => k_is); (case c => k_is); (case k => k_is); (case kc => k_is); (case ex => k_is); (case tc => k_is); (case hd => k_is))
  (case eA => refine' Rw.ErrHere.of ?g ?xl ?sa ?ga ?gg ?no ?ini ?ty ?l ?c ?k ?kc ?ex ?tc ?hd; (case g => k_is); (case xl => k_is); (case sa => k_is); (case ga => k_is); (case gg => k_is); (case no => k_is); (case ini => k_is); (case ty => k_is); (case l => k_is); (case c => k_is); (case k => k_is); (case kc => k_is); (case ex => k_is); (case tc => k_is); (case hd => k_is))
  (case eM => refine' Rw.ErrHere.of ?g ?xl ?sa ?ga ?gg ?no ?ini ?ty ?l ?c ?k ?kc ?ex ?tc ?hd; (case g => k_is); (case xl => k_is); (case sa => k_is); (case ga => k_is); (case gg => k_is); (case no => k_is); (case ini => k_is); (case ty => k_is); (case l => k_is); (case c => k_is); (case k => k_is); (case kc => k_is); (case ex => k_is); (case tc => k_is); (case hd => k_is))
  (case eL => refine' Rw.ErrHere.of ?g ?xl ?sa ?ga ?gg ?no ?ini ?ty ?l ?c ?k ?kc ?ex ?tc ?hd; (case g => k_is); (case xl => k_is); (case sa => k_is); (case ga => k_is); (case gg => k_is); (case no => k_is); (case ini => k_is); (case ty => k_is); (case l => k_is); (case c => k_is); (case k => k_is); (case kc => k_is); (case ex => k_is); (case tc => k_is); (case hd => k_is))
  (case cP => first | rfl | k_is)
  (case cT => first | rfl | k_is)
  (case cZ => first | rfl | k_is)
  (case cA => first | rfl | k_is)
  (case cM => first | rfl | k_is)
  (case cL => first | rfl | k_is)
  (case sTT => first | rfl | k_is)
  (case sPT => first | rfl | k_is)
  (case sPP => first | rfl | k_is)
  (case sZT => first | rfl | k_is)
  (case sZP => first | rfl | k_is)
  (case sZZ => first | rfl | k_is)
  (case sAT => first | rfl | k_is)
  (case sAP => first | rfl | k_is)
  (case sAZ => first | rfl | k_is)
  (case sAA => first | rfl | k_is)
  (case sMT => first | rfl | k_is)
  (case sMP => first | rfl | k_is)
  (case sMZ => first | rfl | k_is)
  (case sMA => first | rfl | k_is)
  (case sMM => first | rfl | k_is)
  (case sLL => first | rfl | k_is)
  (case gRow => first | rfl | k_is)
  (case cPg => first | rfl | k_is)
  (case cHd => first | rfl | k_is)
  (case cPo => first | rfl | k_is)
  (case cSa => first | rfl | k_is)
  (case n1 => first | rfl | k_is)
  (case n2 => first | rfl | k_is)
  (case n3 => first | rfl | k_is)
  (case n4 => first | rfl | k_is)
  (case mkC => first | rfl | k_is)
  (case kpC => first | rfl | k_is)
  (case mIni => refine' Rw.MethHere.of ?g ?fn ?l ?c ?k; (case g => k_is); (case fn => first | rfl | k_is); (case l => k_is); (case c => k_is); (case k => k_is))
  (case mMat => refine' Rw.MethHere.of ?g ?fn ?l ?c ?k; (case g => k_is); (case fn => first | rfl | k_is); (case l => k_is); (case c => k_is); (case k => k_is))
  (case mLen => refine' Rw.MethHere.of ?g ?fn ?l ?c ?k; (case g => k_is); (case fn => first | rfl | k_is); (case l => k_is); (case c => k_is); (case k => k_is))
  (case d1 => refine' Rw.DefHere.of ?g ?l ?c ?k; (case g => k_is); (case l => k_is); (case c => k_is); (case k => k_is))
  (case d2 => refine' Rw.DflHere.of ?g ?l ?c ?k ?t; (case g => k_is); (case l => k_is); (case c => k_is); (case k => k_is); (case t => k_is))
  (case d3 => refine' Rw.DefHere.of ?g ?l ?c ?k; (case g => k_is); (case l => k_is); (case c => k_is); (case k => k_is))
  (case d4 => refine' Rw.DefHere.of ?g ?l ?c ?k; (case g => k_is); (case l => k_is); (case c => k_is); (case k => k_is))
  (case d5 => refine' Rw.DefHere.of ?g ?l ?c ?k; (case g => k_is); (case l => k_is); (case c => k_is); (case k => k_is))
  (case d6 => refine' Rw.DefHere.of ?g ?l ?c ?k; (case g => k_is); (case l => k_is); (case c => k_is); (case k => k_is))
  (case d7 => refine' Rw.DefHere.of ?g ?l ?c ?k; (case g => k_is); (case l => k_is); (case c => k_is); (case k => k_is))
  (case d8 => refine' Rw.DefHere.of ?g ?l ?c ?k; (case g => k_is); (case l => k_is); (case c => k_is); (case k => k_is))
  (case d9 => refine' Rw.DefHere.of ?g ?l ?c ?k; (case g => k_is); (case l => k_is); (case c => k_is); (case k => k_is))
  (case d10 => refine' Rw.DefHere.of ?g ?l ?c ?k; (case g => k_is); (case l => k_is); (case c => k_is); (case k => k_is))
  (case d11 => refine' Rw.DefHere.of ?g ?l ?c ?k; (case g => k_is); (case l => k_is); (case c => k_is); (case k => k_is))
  (case d12 => refine' Rw.DefHere.of ?g ?l ?c ?k; (case g => k_is); (case l => k_is); (case c => k_is); (case k => k_is))
  (case d13 => refine' Rw.DefHere.of ?g ?l ?c ?k; (case g => k_is); (case l => k_is); (case c => k_is); (case k => k_is))
  (case d14 => refine' Rw.DefHere.of ?g ?l ?c ?k; (case g => k_is); (case l => k_is); (case c => k_is); (case k => k_is))
  (case d15 => refine' Rw.DefHere.of ?g ?l ?c ?k; (case g => k_is); (case l => k_is); (case c => k_is); (case k => k_is))
  (case d16 => refine' Rw.DefHere.of ?g ?l ?c ?k; (case g => k_is); (case l => k_is); (case c => k_is); (case k => k_is))
  (case d17 => refine' Rw.DefHere.of ?g ?l ?c ?k; (case g => k_is); (case l => k_is); (case c => k_is); (case k => k_is))
  (case d18 => refine' Rw.DefHere.of ?g ?l ?c ?k; (case g => k_is); (case l => k_is); (case c => k_is); (case k => k_is))
  (case d19 => refine' Rw.DefHere.of ?g ?l ?c ?k; (case g => k_is); (case l => k_is); (case c => k_is); (case k => k_is))
  (case d20 => refine' Rw.DefHere.of ?g ?l ?c ?k; (case g => k_is); (case l => k_is); (case c => k_is); (case k => k_is))
  (case d21 => refine' Rw.DefHere.of ?g ?l ?c ?k; (case g => k_is); (case l => k_is); (case c => k_is); (case k => k_is))
  (case d22 => refine' Rw.DefHere.of ?g ?l ?c ?k; (case g => k_is); (case l => k_is); (case c => k_is); (case k => k_is))
  (case d23 => refine' Rw.DefHere.of ?g ?l ?c ?k; (case g => k_is); (case l => k_is); (case c => k_is); (case k => k_is))
  (case d24 => refine' Rw.DefHere.of ?g ?l ?c ?k; (case g => k_is); (case l => k_is); (case c => k_is); (case k => k_is))
  (case d25 => refine' Rw.DefHere.of ?g ?l ?c ?k; (case g => k_is); (case l => k_is); (case c => k_is); (case k => k_is))
  (case d26 => refine' Rw.DefHere.of ?g ?l ?c ?k; (case g => k_is); (case l => k_is); (case c => k_is); (case k => k_is))
  (case d27 => refine' Rw.DefHere.of ?g ?l ?c ?k; (case g => k_is); (case l => k_is); (case c => k_is); (case k => k_is))
  (case d28 => refine' Rw.DefHere.of ?g ?l ?c ?k; (case g => k_is); (case l => k_is); (case c => k_is); (case k => k_is))
  (case d29 => refine' Rw.DefHere.of ?g ?l ?c ?k; (case g => k_is); (case l => k_is); (case c => k_is); (case k => k_is))
  (case d30 => refine' Rw.DefHere.of ?g ?l ?c ?k; (case g => k_is); (case l => k_is); (case c => k_is); (case k => k_is))
  (case d31 => refine' Rw.DefHere.of ?g ?l ?c ?k; (case g => k_is); (case l => k_is); (case c => k_is); (case k => k_is))
  (case d32 => refine' Rw.DefHere.of ?g ?l ?c ?k; (case g => k_is); (case l => k_is); (case c => k_is); (case k => k_is))
  (case d33 => refine' Rw.DefHere.of ?g ?l ?c ?k; (case g => k_is); (case l => k_is); (case c => k_is); (case k => k_is))
  (case d34 => refine' Rw.DefHere.of ?g ?l ?c ?k; (case g => k_is); (case l => k_is); (case c => k_is); (case k => k_is))
  (case dl => refine' Rw.DefHere.of ?g ?l ?c ?k; (case g => k_is); (case l => k_is); (case c => k_is); (case k => k_is))
  (case z1 => k_is)
  (case z2 => k_is)
  (case z3 => k_is)
  (case z4 => k_is)
  (case z5 => k_is)
  (case z6 => k_is)
  (case z7 => k_is)
  (case z8 => k_is)
  (case z9 => k_is)
  (case z10 => k_is)
  (case z11 => k_is)
  (case z12 => k_is)
  (case z13 => k_is)
#print axioms PySem.Challenge.cw_maprows_k11_rows_refused_holds
